import PyProof.Rows.All
import Wide.All
import OpenK.AllK
import Wide.FinOn
import Lean
import PyProof.EqAt
import PyProof.EqKinds
import PyProof.TupleCall
import KE.KSortKey
import KE.KLam
import KE.KRevIter
import PyProof.FactsAll.range_2
import KE.KSortTup
import PyProof.ReprBulk
import PyProof.FString5
import PyProof.SetRoads
import KE.KTryMore
import KE.KIsNot
import PyProof.ExcArgsOwn
import PyProof.P3In
import KE.RegKIsAll
import KE.RegKTryMore
import PySem.Challenge.RW_roundsalone_k24_no_walks
set_option Elab.async false
set_option linter.all false
set_option maxHeartbeats 16000000
set_option maxRecDepth 100000
abbrev hA1:=@List.length_map
abbrev hA2:=@List.getElem?_eq_getElem
abbrev hA3:=@List.mem_cons_self
abbrev hA4:=@List.mem_cons_of_mem
abbrev hA5:=@Nat.le_refl
abbrev hA6:=@List.mem_append_right
abbrev hA7:=@List.mem_singleton
abbrev hA8:=@List.take_of_length_le
abbrev hA9:=@List.map_append
abbrev hAa:=@List.mem_cons
abbrev hAb:=@List.mem_map
abbrev hAc:=@List.size_toArray
abbrev hAd:=@List.length_append
abbrev hAe:=@List.mem_append
abbrev hAf:=@List.mem_filter
abbrev hAg:=@List.getD_eq_getElem?_getD
abbrev hAh:=@List.getElem?_map
abbrev hAi:=@Nat.lt_of_lt_of_le
abbrev hAj:=@List.length_take
abbrev hAk:=@Nat.ne_of_lt
abbrev hAl:=@PySem.W.mg_of
abbrev hAm:=@List.map_cons
abbrev hAn:=@List.mem_append_left
abbrev hAo:=@Bool.false_ne_true
abbrev hAp:=@Array.getElem?_toList
abbrev hAq:=@Nat.zero_le
abbrev hAr:=@List.getElem?_eq_some_iff
abbrev hAs:=@Nat.le_trans
abbrev hAt:=@List.length_filter_le
abbrev hAu:=@List.mem_of_getElem?
abbrev hAv:=@Option.some.inj
abbrev hAw:=@Nat.le_succ
abbrev hAx:=@List.nodup_cons
abbrev hAy:=@List.length_eq_zero_iff
abbrev hAz:=@List.pairwise_append
abbrev hB0:=@Array.length_toList
abbrev hB1:=@List.length_cons
abbrev hB2:=@List.map_map
abbrev hB3:=@Nat.le_of_lt
abbrev hB4:=@PySem.W.mg_none_of
abbrev hB5:=@List.filter_sublist
abbrev hB6:=@Nat.lt_succ_of_lt
abbrev hB7:=@Bool.and_eq_true
abbrev hB8:=@Nat.testBit_zero
abbrev hB9:=@PySem.boot_len
abbrev hBa:=@PySem.mem_of_lookup
abbrev hBb:=@List.mem_range
abbrev hBc:=@Array.perm_iff_toList_perm
abbrev hBd:=@List.append_assoc
abbrev hBe:=@List.getElem?_eq_none
abbrev hBf:=@Int.emod_lt_of_pos
abbrev hBg:=@Nat.mod_two_eq_zero_or_one
abbrev hBh:=@Array.toList_append
abbrev hBi:=@List.append_nil
abbrev hBj:=@Nat.lt_succ_self
abbrev hBk:=@Nat.testBit_xor
abbrev hBl:=@Array.toList_push
abbrev hBm:=@Array.getElem?_eq_getElem
abbrev hBo:=@Classical.byContradiction
abbrev hBp:=@Nat.lt_irrefl
abbrev hBq:=@List.filterMap_cons
abbrev hBr:=@PySem.W.kia_one
abbrev hBs:=@List.mem_map_of_mem
abbrev hBt:=@Array.getD_eq_getD_getElem?
abbrev hBu:=@List.map_congr_left
abbrev hBv:=@Int.emod_nonneg
abbrev hBw:=@List.getElem_mem
abbrev hBx:=@List.pairwise_map
abbrev hBy:=@List.getElem?_append_right
abbrev hBz:=@List.filter_append
abbrev hC0:=@List.pairwise_cons
abbrev hC1:=@List.length_drop
abbrev hC2:=@Int.toNat_natCast
abbrev hC3:=@List.length_range
abbrev hC4:=@PySem.F.slot_list_append
abbrev hC5:=@PySem.F.type_list_append
abbrev hC6:=@PySem.F.called_set
abbrev hC7:=@PySem.F.plainAttrs_list
abbrev hC8:=@Nat.pow_le_pow_right
abbrev hC9:=@Nat.ne_of_gt
abbrev hCa:=@List.not_mem_nil
abbrev hCb:=@List.perm_ext_iff_of_nodup
abbrev hCc:=@List.nodup_append
abbrev hCd:=@List.getElem?_append_left
abbrev hCe:=@List.nodup_nil
abbrev hCf:=@Nat.not_lt_zero
abbrev hCg:=@Option.isSome_iff_exists
abbrev hCh:=@Bool.false_eq_true
abbrev hCi:=@List.lookup_cons
abbrev hCj:=@PySem.W.hideAll_none
abbrev hCk:=@Nat.eq_of_testBit_eq
abbrev hCl:=@Bool.true_and
abbrev hCm:=@List.Perm.refl
abbrev hCn:=@List.ext_getElem?
abbrev hCo:=@List.foldl_append
abbrev hCp:=@PyProof.Rows.callWith_type1
abbrev hCq:=@Nat.testBit_two_pow
abbrev hCr:=@List.length_pos_iff
abbrev hCs:=@PySem.W.cellsFrom_some
abbrev hCt:=@List.length_pos_of_mem
abbrev hCu:=@List.all_eq_true
abbrev hCv:=@List.mem_reverse
abbrev hCw:=@List.drop_eq_getElem_cons
abbrev hCx:=@Nat.shiftRight_eq_div_pow
abbrev hCy:=@List.getElem?_set_ne
abbrev hCz:=@List.take_left'
abbrev hD0:=@List.drop_left'
abbrev hD1:=@List.any_cons
abbrev hD2:=@Int.toNat_of_nonneg
abbrev hD3:=@List.pairwise_singleton
abbrev hD4:=@List.sum_cons
abbrev hD5:=@Int.le_refl
abbrev hD6:=@Nat.le_add_right
abbrev hD7:=@List.map_snd_zip
abbrev hD8:=@List.getElem?_set_self
abbrev hD9:=@Nat.lt_of_le_of_lt
abbrev hDa:=@Bool.eq_iff_iff
abbrev hDb:=@List.find?_cons
abbrev hDc:=@Option.map_some
abbrev hDd:=@List.cons_lt_cons_iff
abbrev hDe:=@List.filterMap_append
abbrev hDf:=@List.range_succ
abbrev hDg:=@Nat.testBit_and
abbrev hDh:=@List.take_append_drop
abbrev hDi:=@Int.le_of_lt
abbrev hDj:=@List.mem_of_mem_drop
abbrev hDk:=@List.mem_of_mem_take
abbrev hDl:=@Array.toList_inj
abbrev hDm:=@Array.toList_map
abbrev hDn:=@Array.toList_zip
abbrev hDo:=@PySem.W.hideAll_get
abbrev hDp:=@Nat.lt_or_ge
namespace L2
open PySem PySem.Spec PyProof.Rows
abbrev Key:=Sum Int Str
def keyIs:Key->Value->Bool
 | .inl k,v=>Value.isInt k v
 | .inr x,v=>Value.isStrOf x v
def keyH (w:World):Key->Int
 | .inl k=>hashInt k
 | .inr x=>hashStr w x
theorem keyIs_shape:∀ {k:Key} {v:Value},keyIs k v=true->(∃ i t,k=Sum.inl i/\v=Value.int i t)\/(∃ x t,k=Sum.inr x/\v=Value.str x t)
 | .inl i,v,h=>by
  obtain⟨t,e⟩:=Value.isInt_shape (k:=i) (v:=v) h;exact .inl ⟨i,t,rfl,e⟩
 | .inr x,v,h=>by
  obtain⟨t,e⟩:=Value.isStrOf_shape (x:=x) (v:=v) h;exact .inr ⟨x,t,rfl,e⟩
theorem keyIs_int (i:Int) (t:Tok):keyIs (.inl i) (.int i t)=true:=by simp[keyIs,Value.isInt]
theorem keyIs_str (x:Str) (t:Tok):keyIs (.inr x) (.str x t)=true:=by simp[keyIs,Value.isStrOf]
theorem key_ll (a b:Int):decide ((Sum.inl a:Key)=Sum.inl b)=(a == b):=by
 by_cases e:a=b
 ·subst e;simp
 ·have h:¬(Sum.inl a:Key)=Sum.inl b:=fun q=>e (Sum.inl.inj q)
  rw[decide_eq_false h];exact(beq_eq_false_iff_ne.mpr e).symm
theorem key_rr (a b:Str):decide ((Sum.inr a:Key)=Sum.inr b)=decide (a=b):=by
 by_cases e:a=b
 ·subst e;simp
 ·have h:¬(Sum.inr a:Key)=Sum.inr b:=fun q=>e (Sum.inr.inj q)
  rw[decide_eq_false h,decide_eq_false e]
theorem key_lr (a:Int) (b:Str):decide ((Sum.inl a:Key)=Sum.inr b)=false:=decide_eq_false (fun q=>nomatch q)
theorem key_rl (a:Str) (b:Int):decide ((Sum.inr a:Key)=Sum.inl b)=false:=decide_eq_false (fun q=>nomatch q)
def qA1 (prog:Program) (w:World):PySem.KeyKind prog w Key where
 is:=keyIs
 hash:=keyH w
 inj:=fun v a b ha hb=>by
  rcases keyIs_shape ha with ⟨i,t,rfl,rfl⟩ | ⟨x,t,rfl,rfl⟩
  ·rcases keyIs_shape hb with ⟨j,u,rfl,e⟩ | ⟨y,u,rfl,e⟩
   ·injection e with e1 _;rw[e1]
   ·exact nomatch e
  ·rcases keyIs_shape hb with ⟨j,u,rfl,e⟩ | ⟨y,u,rfl,e⟩
   ·exact nomatch e
   ·injection e with e1 _;rw[e1]
 byValue:=fun k v h=>by
  rcases keyIs_shape h with ⟨i,t,rfl,rfl⟩ | ⟨x,t,rfl,rfl⟩ <;> rfl
 pyHash:=fun hv h=>by
  rcases keyIs_shape hv with ⟨i,t,rfl,rfl⟩ | ⟨x,t,rfl,rfl⟩
  ·exact wpAny_pyHash_int h
  ·exact wpAny_pyHash_str h
 eqBool:=fun hu hv h=>by
  rcases keyIs_shape hu with ⟨i,t,rfl,rfl⟩ | ⟨x,t,rfl,rfl⟩
  ·rcases keyIs_shape hv with ⟨j,u,rfl,rfl⟩ | ⟨y,u,rfl,rfl⟩
   ·rw[key_ll]at h;exact wpAny_eqBool_int h
   ·rw[key_lr]at h;exact SeqAt.EqAt.int_str i t y u _ _ _ _ h
  ·rcases keyIs_shape hv with ⟨j,u,rfl,rfl⟩ | ⟨y,u,rfl,rfl⟩
   ·rw[key_rl]at h;exact SeqAt.EqAt.str_int x t j u _ _ _ _ h
   ·rw[key_rr]at h;exact wpAny_eqBool_str h
 «strs»:=fun k x t v h=>by
  rcases keyIs_shape h with ⟨i,u,rfl,e⟩ | ⟨y,u,rfl,e⟩
  ·exact nomatch e
  ·injection e with e1 _
   subst e1;cases v <;> rfl
theorem mixKind_int (prog:Program) (w:World) (i:Int) (t:Tok):(qA1 prog w).is (.inl i) (.int i t)=true:=keyIs_int i t
theorem mixKind_str (prog:Program) (w:World) (x:Str) (t:Tok):(qA1 prog w).is (.inr x) (.str x t)=true:=keyIs_str x t
end L2
namespace L2
open PySem PySem.Spec PyProof.Rows
inductive V where
 | non | bl (b:Bool) | int (i:Int) | str (x:Str) | byt (b:Array UInt8) | flt (b:UInt64) | ref (a:Addr) | ty (n:String)
 deriving DecidableEq
def qBn:V->Value->Prop
 | .non,u=>u=Value.none
 | .bl b,u=>u=Value.bool b
 | .int i,u=>∃ t,u=Value.int i t
 | .str x,u=>∃ t,u=Value.str x t
 | .byt b,u=>∃ t,u=Value.bytes b t
 | .flt b,u=>∃ t,u=Value.float b t
 | .ref a,u=>u=Value.ref a
 | .ty n,u=>u=Value.type n
abbrev qBa:List V->List Value->Prop:=Paired qBn
theorem qBa.length (r:qBa xs us):xs.length=us.length:=Paired.length r
theorem qBa.get:∀ {xs:List V} {us:List Value} {i:Nat} {x:V},qBa xs us->xs[i]?=some x->∃ u,us[i]?=some u/\qBn x u
 | _,_,_,_,.nil,e=>by simp at e
 | _,_,0,_,.cons r _,e=>by simp at e;subst e;exact⟨_,rfl,r⟩
 | _,_,i+1,x,.cons _ t,e=>by
  obtain⟨u,h1,h2⟩:=qBa.get (i:=i) (x:=x) t (by simpa using e);exact⟨u,by simpa using h1,h2⟩
theorem qBa.append:∀ {xs ys:List V} {us ws:List Value},qBa xs us->qBa ys ws->qBa (xs++ys) (us++ws)
 | _,_,_,_,.nil,s=>s
 | _,_,_,_,.cons r t,s=>.cons r (qBa.append t s)
theorem qBa.take:∀ {xs:List V} {us:List Value} (n:Nat),qBa xs us->qBa (xs.take n) (us.take n)
 | _,_,0,_=>.nil
 | _,_,_+1,.nil=>.nil
 | _,_,n+1,.cons r t=>.cons r (qBa.take n t)
theorem qBa.drop:∀ {xs:List V} {us:List Value} (n:Nat),qBa xs us->qBa (xs.drop n) (us.drop n)
 | _,_,0,r=>r
 | _,_,_+1,.nil=>.nil
 | _,_,n+1,.cons _ t=>qBa.drop n t
def RelO:Option V->Option Value->Prop
 | some v,some u=>qBn v u
 | none,none=>True
 | _,_=>False
def KV {κ:Type}:List (κ×V)->List (κ×Value)->Prop:=Paired fun (p:κ×V) (q:κ×Value)=>p.1=q.1/\qBn p.2 q.2
def kV:Key->V
 | .inl i=>.int i
 | .inr x=>.str x
inductive HO where
  | lst (xs:List V)
  | tup (xs:List V)
  | dK (kvs:List (Key×V)) | dT (kvs:List (List Key×V))
  | set (S:Int->Bool) (n:Nat)
  | ins (C dx:Addr) (fs:List (Str×V))
  | own (x:Addr)
  | xd (fs:List (Str×V))
  | met (f x:Addr)
  | rng (lo hi:Int)
  | frz (o:Obj) (u:HO)
  | tbl (ps:Array Value)
  | ext (φ:Heap->Prop)
abbrev Hp:=Addr->Option HO
def upd (H:Hp) (a:Addr) (o:HO):Hp:=fun b=>if b=a then some o else H b
theorem upd_same:upd H a o a=some o:=by unfold upd;rw[if_pos rfl]
theorem qAe (h:b≠a):upd H a o b=H b:=by unfold upd;rw[if_neg h]
theorem ne_of {H:Hp} {a b:Addr} {o u:HO} (h:H a=some o) (h':H b=some u) (d:o≠u):a≠b:=by
 intro e;subst e;rw[h]at h';exact d (hAv h')
theorem qAf {H:Hp} {a b:Addr} {o:HO} (h:H a=some o) (h':H b=none):a≠b:=by
 intro e;subst e;rw[h]at h';cases h'
section
variable (P:Program) (w:World)
def qBg (H:Hp) (h:Heap) (a:Addr):HO->Prop
 | .lst xs=>xs.length<=sizeLine/\∃ (its:List Value) (n:Nat),qBa xs its/\h.get? a=some { cls:=.type "list",data:=.seq its.toArray n }
 | .tup xs=>xs.length<=sizeLine/\∃ its:List Value,qBa xs its/\IsTup h a its.toArray
 | .dK kvs=>kvs.length<=sizeLine/\(a == sysModules)=false/\∃ vs,KV kvs vs/\h.DictOf (qA1 P w) a vs
 | .dT kvs=>kvs.length<=sizeLine/\(a == sysModules)=false/\∃ xs:List (List Key×Addr×Value),
   Paired (fun (p:List Key×V) (q:List Key×Addr×Value)=>p.1=q.1/\H q.2.1=some (.tup (p.1.map kV))/\qBn p.2 q.2.2) kvs xs /\
   ∃ o es ep,h.get? a=some o/\o.ExactDict/\o.data = .dict es ep/\es.toList=xs.map (entryOfKey (tupleKind (qA1 P w)))/\(xs.map (·.1)).Nodup
 | .set S n=>h.SetOf (intKind P w) a S n
 | .ins C dx fs=>H dx=some (.own a)/\fs.length<=1000/\dx≠a/\h.get? a=some (PySem.W.instObj C dx) /\
   ∃ mA,h.Ns1 dx mA/\(∀ f,RelO (fs.lookup f) (mA f))/\PySem.Within mA (fs.map (·.1))
 | .own _=>∃ o,h.get? a=some o
 | .xd fs=>∃ mA,h.Ns1 a mA/\∀ f,RelO (fs.lookup f) (mA f)
 | .rng lo hi=>∃ t u v,h.get? a=some { cls:=.type "range",data:=.fields #[.int lo t,.int hi u,.int 1 v] }
 | .frz o u=>h.get? a=some o/\qBg H h a u
 | .tbl ps=>h.get? a=some { cls:=.none,data:=.fields ps }
 | .met f x=>h.get? a=some (PySem.W.methodObj (.ref f) (.ref x))
 | .ext φ=>φ h/\(∃ o,h.get? a=some o)/\∀ h1 h2:Heap,φ h1->(∀ o,h1.get? a=some o->h2.get? a=some o)->φ h2
def HOk (H:Hp) (h:Heap):Prop:=∀ a o,H a=some o->qBg P w H h a o
end
section
variable {P:Program} {w:World} {H H':Hp} {h h':Heap} {a:Addr} {o:HO}
theorem qBg.lt (x:qBg P w H h a o):a<h.objs.size:=by
 cases o with
 | lst xs=>obtain⟨_,_,_,_,e⟩:=x;exact Heap.lt_size e
 | tup xs=>obtain⟨_,_,_,p⟩:=x;exact p.lt
 | dK kvs=>obtain⟨_,_,_,_,o,_,_,e,_⟩:=x;exact Heap.lt_size e
 | dT kvs=>obtain⟨_,_,_,_,o,_,_,e,_⟩:=x;exact Heap.lt_size e
 | set S n=>obtain⟨o,_,_,_,e,_⟩:=x;exact Heap.lt_size e
 | ins C dx fs=>obtain⟨_,_,_,e,_⟩:=x;exact Heap.lt_size e
 | own y=>obtain⟨_,e⟩:=x;exact Heap.lt_size e
 | xd fs=>obtain⟨_,⟨_,_,_,e,_⟩,_⟩:=x;exact Heap.lt_size e
 | rng lo hi=>obtain⟨_,_,_,e⟩:=x;exact Heap.lt_size e
 | frz ob u=>obtain⟨e,_⟩:=x;exact Heap.lt_size e
 | tbl ps=>exact Heap.lt_size (show h.get? a=some _ from x)
 | met f y=>exact Heap.lt_size (show h.get? a=some _ from x)
 | ext φ=>obtain⟨_,⟨_,e⟩,_⟩:=x;exact Heap.lt_size e
theorem Paired.mapP:∀ {l₁:List α} {l₂:List β},Paired F l₁ l₂->(∀ a b,F a b->G a b)->Paired G l₁ l₂
 | _,_,.nil,_=>.nil
 | _,_,.cons r t,f=>.cons (f _ _ r) (Paired.mapP t f)
theorem qBg.stay (x:qBg P w H h a o) (k:∀ b u,(b=a\/H b=some (.own a))->h.get? b=some u->h'.get? b=some u)
  (ho:∀ b,H b=some (.own a)->H' b=some (.own a)) (ht:∀ b xs,H b=some (.tup xs)->H' b=some (.tup xs)):qBg P w H' h' a o:=by
 induction o with
 | lst xs=>obtain⟨z,its,n,r,e⟩:=x;exact⟨z,its,n,r,k _ _ (.inl rfl) e⟩
 | tup xs=>obtain⟨z,its,r,ob,e,c⟩:=x;exact⟨z,its,r,ob,k _ _ (.inl rfl) e,c⟩
 | dK kvs=>obtain⟨z,y,vs,r,ob,es,ep,e,c⟩:=x;exact⟨z,y,vs,r,ob,es,ep,k _ _ (.inl rfl) e,c⟩
 | dT kvs =>
  obtain⟨z,y,xs,r,ob,es,ep,e,c⟩:=x;exact⟨z,y,xs,Paired.mapP r fun p q z=>⟨z.1,ht _ _ z.2.1,z.2.2⟩,ob,es,ep,k _ _ (.inl rfl) e,c⟩
 | set S n=>obtain⟨ob,es,ep,t,e,c⟩:=x;exact⟨ob,es,ep,t,k _ _ (.inl rfl) e,c⟩
 | ins C dx fs =>
  obtain⟨d,z,ne,e,mA,⟨od,es,ep,e2,c⟩,r⟩:=x;exact⟨ho _ d,z,ne,k _ _ (.inl rfl) e,mA,⟨od,es,ep,k _ _ (.inr d) e2,c⟩,r⟩
 | own y=>obtain⟨ob,e⟩:=x;exact⟨ob,k _ _ (.inl rfl) e⟩
 | xd fs=>obtain⟨mA,⟨od,es,ep,e,c⟩,r⟩:=x;exact⟨mA,⟨od,es,ep,k _ _ (.inl rfl) e,c⟩,r⟩
 | rng lo hi=>obtain⟨t,u,v,e⟩:=x;exact⟨t,u,v,k _ _ (.inl rfl) e⟩
 | frz ob u ih=>obtain⟨e,q⟩:=x;exact⟨k _ _ (.inl rfl) e,ih q⟩
 | tbl ps =>
  have e:h.get? a=some { cls:=.none,data:=.fields ps }:=x;show h'.get? a=some { cls:=.none,data:=.fields ps };exact k a _ (.inl rfl) e
 | met f y =>
  have e:h.get? a=some (PySem.W.methodObj (.ref f) (.ref y)):=x;show h'.get? a=some (PySem.W.methodObj (.ref f) (.ref y));exact k a _ (.inl rfl) e
 | ext φ=>obtain⟨p,⟨o,e⟩,st⟩:=x;exact⟨st _ _ p fun o q=>k _ _ (.inl rfl) q,⟨o,k _ _ (.inl rfl) e⟩,st⟩
theorem HOk.lt (x:HOk P w H h) (e:H a=some o):a<h.objs.size:=(x a o e).lt
theorem HOk.fresh (x:HOk P w H h) (e:h.objs.size<=a):H a=none:=by
 cases q:H a with
 | none=>rfl
 | some u=>exact absurd (hAi (x.lt q) e) (hBp _)
theorem HOk.kept (x:HOk P w H h) (k:∀ b u,h.get? b=some u->h'.get? b=some u):HOk P w H h':=fun a o e =>
 (x a o e).stay (fun b u _ q=>k b u q) (fun _ q=>q) fun _ _ q=>q
theorem HOk.laid (x:HOk P w H h) (k:∀ b u,h.get? b=some u->h'.get? b=some u) (hp:h.objs.size<=a) (new:qBg P w (upd H a o) h' a o):HOk P w (upd H a o) h':=fun b u e=>by
 have hn:=x.fresh hp;by_cases hb:b=a
 ·subst hb;rw[upd_same]at e;cases e;exact new
 ·rw[qAe hb]at e;exact(x b u e).stay (fun c v _ q=>k c v q) (fun c q=>by rw[qAe (qAf q hn)];exact q) fun c xs q=>by rw[qAe (qAf q hn)];exact q
end
def Rd (H:Hp) (a:Addr) (u:HO):Prop:=H a=some u\/∃ o,H a=some (.frz o u)
theorem Rd.ok (r:Rd H a u) (x:HOk P w H h):qBg P w H h a u:=by
 rcases r with r | ⟨o,r⟩
 ·exact x a u r
 ·obtain⟨_,q⟩:=x a _ r;exact q
def Mut:Option HO->Prop
 | some (.lst _)=>True
 | some (.dK _)=>True
 | some (.dT _)=>True
 | some (.set _ _)=>True
 | some (.ins _ _ _)=>True
 | some (.ext _)=>True
 | _=>False
section
variable {P:Program} {w:World} {H:Hp} {h h':Heap} {x e:Addr} {o':HO}
theorem HOk.write (ok:HOk P w H h) (mu:Mut (H x)) (he:e=x\/H e=some (.own x)) (k:∀ b u,b≠e->h.get? b=some u->h'.get? b=some u) (heo:∃ u,h'.get? e=some u)
  (new:qBg P w (upd H x o') h' x o'):HOk P w (upd H x o') h':=fun b u q=>by
 have nown:∀ c y,H c=some (.own y)->c≠x:=fun c y r z=>by subst z;rw[r]at mu;exact mu
 have ntup:∀ c xs,H c=some (.tup xs)->c≠x:=fun c xs r z=>by subst z;rw[r]at mu;exact mu
 by_cases hb:b=x
 ·subst hb;rw[upd_same]at q;cases q;exact new
 ·rw[qAe hb]at q;by_cases hbe:b=e
  ·have q':H b=some (.own x):=by
    rcases he with z | z
    ·exact absurd (hbe.trans z) hb
    ·rw[hbe];exact z
   rw[q]at q';cases q';obtain⟨v,hv⟩:=heo;exact⟨v,by rw[hbe];exact hv⟩
  ·refine(ok b u q).stay (fun c v hc r=>k c v ?_ r) (fun c r=>by rw[qAe (nown c b r)];exact r) fun c xs r=>by rw[qAe (ntup c xs r)];exact r
   rcases hc with rfl | hc
   ·exact hbe
   ·rintro rfl;rcases he with z | z
    ·exact nown c b hc z
    ·rw[hc]at z;cases z;exact hb rfl
end
structure Un (fs ex:List Addr) (H H':Hp) (h h':Heap):Prop where
 keep:∀ b o,h.get? b=some o->H b=none->b∉fs->b∉ex->h'.get? b=some o
 slot:∀ b o,h.get? b=some o->H b=none->b∈fs->b∉ex->∃ sl,h'.get? b=some { o with slots:=sl }
 free:∀ b o,h.get? b=some o->H b=none->b∉ex->H' b=none
 there:∀ b o,h.get? b=some o->b∉ex->∃ o',h'.get? b=some o'
 tups:∀ b xs,H b=some (.tup xs)->H' b=some (.tup xs)
 frzs:∀ b o u,H b=some (.frz o u)->H' b=some (.frz o u)
 tbls:∀ b ps,H b=some (.tbl ps)->∃ more,H' b=some (.tbl (ps++more))
section
variable {fs fs' ex ex':List Addr} {H H1 H2:Hp} {h h1 h2 h':Heap} {a x e:Addr} {o:HO}
theorem Un.any (u:Un fs ex H H1 h h1) (q:h.get? b=some ob) (n:H b=none) (hx:b∉ex):∃ sl,h1.get? b=some { ob with slots:=sl }:=by
 by_cases hb:b∈fs
 ·exact u.slot b ob q n hb hx
 ·exact⟨ob.slots,u.keep b ob q n hb hx⟩
theorem Un.kept (k:∀ b u,h.get? b=some u->h'.get? b=some u):Un fs ex H H h h' :=
 ⟨fun b ob q _ _ _=>k b ob q,fun b ob q _ _ _=>⟨ob.slots,k b ob q⟩,fun _ _ _ n _=>n,fun b ob q _=>⟨ob,k b ob q⟩,fun _ _ q=>q,fun _ _ _ q=>q,fun _ ps q=>⟨#[],by rw[q];simp⟩⟩
theorem Un.refl:Un fs ex H H h h:=Un.kept fun _ _ q=>q
theorem Un.laid (k:∀ b u,h.get? b=some u->h'.get? b=some u) (hp:h.objs.size<=a) (hn:H a=none):Un fs ex H (upd H a o) h h' where
 keep:=fun b u q _ _ _=>k b u q
 slot:=fun b u q _ _ _=>⟨u.slots,k b u q⟩
 free:=fun b u q n _=>by rw[qAe (hAk (hAi (Heap.lt_size q) hp))];exact n
 there:=fun b u q _=>⟨u,k b u q⟩
 tups:=fun b xs q=>by rw[qAe (qAf q hn)];exact q
 frzs:=fun b u xs q=>by rw[qAe (qAf q hn)];exact q
 tbls:=fun b ps q=>⟨#[],by rw[qAe (qAf q hn),q];simp⟩
theorem Un.write (mu:Mut (H x)) (he:e=x\/H e=some (.own x)) (k:∀ b u,b≠e->h.get? b=some u->h'.get? b=some u) (heo:∃ u,h'.get? e=some u):Un fs ex H (upd H x o) h h':=by
 have hx:∀ b,H b=none->b≠x:=fun b n z=>by subst z;rw[n]at mu;exact mu
 have hb:∀ b,H b=none->b≠e:=fun b n z=>by
  subst z;rcases he with r | r
  ·exact hx b n r
  ·rw[n]at r;cases r
 have hm:∀ b u,H b=some u->¬Mut (some u)->b≠x:=fun b u q nm z=>by subst z;rw[q]at mu;exact nm mu
 refine⟨fun b u q n _ _=>k b u (hb b n) q,fun b u q n _ _=>⟨u.slots,k b u (hb b n) q⟩,fun b u q n _=>by rw[qAe (hx b n)];exact n,fun b u q _=>?_,
  fun b xs q=>by rw[qAe (hm b _ q fun z=>z)];exact q,fun b u xs q=>by rw[qAe (hm b _ q fun z=>z)];exact q,fun b ps q=>⟨#[],by rw[qAe (hm b _ q fun z=>z),q];simp⟩⟩
 by_cases hbe:b=e
 ·subst hbe;exact heo
 ·exact⟨u,k b u hbe q⟩
end
def trk (h:Heap) (H:Hp):List Addr:=(List.range h.objs.size).filter fun a=>(H a).isSome
def hidT (h:Heap) (H:Hp):Heap:=PySem.W.hideAll h (trk h H)
theorem hidT_size (h:Heap) (H:Hp):(hidT h H).objs.size=h.objs.size:=PySem.W.hideAll_size _ _
theorem hidT_get (e:h.get? b=some o) (n:H b=none):(hidT h H).get? b=some o :=
 hDo _ e fun hm=>by
  have q:(H b).isSome=true:=(hAf.mp hm).2;rw[n]at q;simp at q
theorem of_hidT (e:(hidT h H).get? b=some o):h.get? b=some o/\H b=none:=by
 have e':h.get? b=some o:=PySem.W.of_hideAll (trk h H) e;refine⟨e',?_⟩;cases q:H b with
 | none=>rfl
 | some x =>
  have hm:b∈trk h H:=hAf.mpr ⟨hBb.mpr (Heap.lt_size e'),by simp[q]⟩;have z:(hidT h H).get? b=none:=hCj (trk h H) hm;rw[z]at e;cases e
def allNews (g h:Heap) (L:Addr):List (Addr×Obj):=(List.range h.objs.size).filterMap fun a=>if a=L\/(g.get? a).isSome=true then none else (h.get? a).map fun o=>(a,o)
def rest (g h:Heap) (L d:Addr):List (Addr×Obj):=(allNews g h L).filter fun p=>decide (p.1≠d)
end L2
namespace L2
open PySem PySem.Spec PyProof.Rows
structure Mod (K:PySem.W.Frag) (mg:Str->Option Value) (base:Heap):Prop where
 kin:K.In base
 glob:base.Ns mainGlobals mg
 blt:∃ mb,base.Ns builtinsNs mb/\∀ x:Str,x≠"__name__"->mb x=bootBuiltins x
 nolimit:base.NoLimit
structure Cx where
 prog:Program
 w:World
 K:PySem.W.Frag
 mg:Str->Option Value
 base:Heap
 A:Around
 N:List Str
 s₀:Shared
 H₀:Hp
 env:Env
 outer:List Env
 stack:List Env
 ex:List Addr
 fn:Str->Bool
 calm:Bool
 pn:List (Addr×Obj)
 xe:Value->Shared->Prop
def frs (l:List Env):List Addr:=l.filterMap (·.frame)
abbrev Cx.fs (X:Cx):List Addr:=frs X.outer
def Vis (sc:Scope) (x:Str):Prop:=sc.names.lookup x=some .local\/sc.names.lookup x=some .cell\/sc.names.lookup x=some .free
def Loc (sc:Scope) (x:Str):Prop:=sc.names.lookup x=some .local\/sc.names.lookup x=some .cell
def Look (env:Env) (h:Heap) (m:Str->Option Value) (x:Str) (u:Value):Prop :=
 (env.kindOf x=some .local/\m x=some u)\/((env.kindOf x=some .cell\/env.kindOf x=some .free)/\∃ c,env.cells.lookup x=some c/\h.IsCell c (some u))
structure Cx.Ok (X:Cx):Prop where
 mod:Mod X.K X.mg X.base
 kind:X.env.scope.kind = .function
 glob:X.env.globals=mainGlobals
 blt:X.env.builtins=builtinsNs
 above:X.s₀.heap.objs.size<=X.env.locals
 inj:∀ x y c,X.env.cells.lookup x=some c->X.env.cells.lookup y=some c->x=y
 has:∀ x,(X.env.kindOf x=some .cell\/X.env.kindOf x=some .free)->∃ c,X.env.cells.lookup x=some c
 cab:∀ x c,X.fn x=true->X.env.cells.lookup x=some c->X.s₀.heap.objs.size<=c
 hd:X.calm=true->X.A.handled=none
 frames:X.A.frames=some X.stack
 stk:X.stack=X.outer\/(X.stack=X.env :: X.outer/\X.env.frame=some X.env.locals)
 exf:∀ b∈X.ex,b≠X.env.locals/\∀ x c,X.env.cells.lookup x=some c->c≠b
 bs:∀ b o,X.base.get? b=some o->X.s₀.heap.get? b=some o/\X.H₀ b=none
 bsz:X.base.objs.size<=X.s₀.heap.objs.size
 noex:∀ b o,X.base.get? b=some o->b∉X.ex
 exfs:∀ b∈X.ex,b∉X.fs
 funs:X.s₀.heap.FunFrames X.base X.outer
 frf:∀ b∈X.fs,X.H₀ b=none
structure Inv (X:Cx) (pins:List (Addr×Obj)) (σ:List (Option V)) (H:Hp) (s:Shared):Prop where
 ok:X.Ok
 os:s.os=X.s₀.os
 bare:AllBare s.gens
 base:Un X.fs X.ex X.H₀ H X.s₀.heap s.heap
 loc:∃ m,s.heap.Ns X.env.locals m/\∀ (i:Nat) (x:Str) (v:V),X.N[i]?=some x->σ[i]?=some (some v)->Vis X.env.scope x->∃ u,qBn v u/\Look X.env s.heap m x u
 cell:∀ x c,X.env.cells.lookup x=some c->∃ v,s.heap.IsCell c v
 free:H X.env.locals=none
 freeC:∀ x c,X.env.cells.lookup x=some c->H c=none
 pin:∀ p∈X.pn++pins,s.heap.get? p.1=some p.2/\H p.1=none/\p.1≠X.env.locals/\p.1∉X.fs/\∀ v,p.2.data≠.cell v
 hok:HOk X.prog X.w H s.heap
 len:σ.length=X.N.length
section
variable {X:Cx} {pins:List (Addr×Obj)} {σ:List (Option V)} {H H':Hp} {s:Shared} {h':Heap}
theorem Cx.Ok.nofr (ok:X.Ok) (e:X.base.get? b=some o):b∉X.fs:=fun hb=>by
 have:=(ok.funs.mem hb).1;rw[e]at this;cases this
theorem Inv.bs (I:Inv X pins σ H s):∀ b o,X.base.get? b=some o->s.heap.get? b=some o/\H b=none:=fun b o e =>
 ⟨I.base.keep b o (I.ok.bs b o e).1 (I.ok.bs b o e).2 (I.ok.nofr e) (I.ok.noex b o e),I.base.free b o (I.ok.bs b o e).1 (I.ok.bs b o e).2 (I.ok.noex b o e)⟩
theorem Inv.bk (I:Inv X pins σ H s):∀ b o,X.base.get? b=some o->s.heap.get? b=some o:=fun b o e=>(I.bs b o e).1
theorem Inv.mod (I:Inv X pins σ H s):Mod X.K X.mg X.base:=I.ok.mod
theorem Inv.kIn (I:Inv X pins σ H s):X.K.In s.heap:=I.ok.mod.kin.keeps I.bk
theorem Inv.lt (I:Inv X pins σ H s):X.env.locals<s.heap.objs.size:=let ⟨_,hn,_⟩:=I.loc;hn.lt
theorem Inv.sz (I:Inv X pins σ H s):X.s₀.heap.objs.size<=s.heap.objs.size:=hAs I.ok.above (hB3 I.lt)
theorem Inv.nofs (I:Inv X pins σ H s) (h:s.heap.objs.size<=a):a∉X.fs:=fun hb=>by
 obtain⟨_,o,ho,_⟩:=I.ok.funs.mem hb;exact absurd (hAi (Heap.lt_size ho) (hAs I.sz h)) (hBp _)
theorem Inv.cne (I:Inv X pins σ H s):∀ x c,X.env.cells.lookup x=some c->c≠X.env.locals:=fun x c e z=>by
 obtain⟨v,o,ho,hd⟩:=I.cell x c e;obtain⟨m,⟨o',es,ep,ho',hd',_⟩,_⟩:=I.loc;rw[z,ho']at ho;cases ho;rw[hd']at hd;cases hd
theorem Inv.funs (I:Inv X pins σ H s):s.heap.FunFrames X.base X.outer:=by
 have all:∀ (l:List Env),(∀ b∈frs l,b∈X.fs)->X.s₀.heap.FunFrames X.base l->s.heap.FunFrames X.base l:=by
  intro l
  induction l with
  | nil=>intro _ _;trivial
  | cons env r ih =>
   intro hs hl;obtain⟨hk,⟨L,o,hf,hn,ho,hd⟩,hr⟩:=hl;have hL:L∈X.fs:=hs L (by unfold frs;rw[hBq,hf];exact hA3);obtain⟨sl,e⟩:=I.base.slot L o ho (I.ok.frf L hL) hL fun z=>I.ok.exfs L z hL
   exact⟨hk,⟨L,_,hf,hn,e,hd⟩,ih (fun b hb=>hs b (by unfold frs;rw[hBq,hf];exact hA4 _ hb)) hr⟩
 exact all X.outer (fun _ hb=>hb) I.ok.funs
theorem Inv.stack (I:Inv X pins σ H s):s.heap.FunFrames X.base X.stack:=by
 rcases I.ok.stk with e | ⟨e,hf⟩
 ·rw[e];exact I.funs
 ·rw[e];obtain⟨m,hn,_⟩:=I.loc;refine .cons (by rw[I.ok.kind];decide) hf hn ?_ I.funs;exact Heap.get?_none_of_le (hAs I.ok.bsz I.ok.above)
theorem Inv.stkSub (I:Inv X pins σ H s):∀ b∈frs X.stack,b∈X.env.locals :: X.fs:=fun b hb=>by
 rcases I.ok.stk with e | ⟨e,hf⟩
 ·rw[e]at hb;exact hA4 _ hb
 ·rw[e]at hb;unfold frs at hb;rw[hBq,hf]at hb;exact hb
theorem Inv.stkFree (I:Inv X pins σ H s):∀ b∈frs X.stack,H b=none:=fun b hb=>by
 rcases hAa.mp (I.stkSub b hb) with e | hb
 ·rw[e];exact I.free
 ·obtain⟨_,o,ho,_⟩:=I.ok.funs.mem hb;exact I.base.free b o ho (I.ok.frf b hb) fun z=>I.ok.exfs b z hb
theorem Inv.step {g':Array GenState} {t':Nat} {d':Drawn} {ch:List Addr} (I:Inv X pins σ H s)
  (hch:∀ b∈ch,(b∈X.ex\/X.s₀.heap.objs.size<=b)/\b≠X.env.locals/\(∀ x c,X.env.cells.lookup x=some c->c≠b)/\∀ p∈X.pn++pins,p.1≠b)
  (keep:∀ b o,b≠X.env.locals->b∉X.fs->b∉ch->s.heap.get? b=some o->H b=none->h'.get? b=some o)
  (slot:∀ b o,b≠X.env.locals->b∈X.fs->b∉ch->s.heap.get? b=some o->H b=none->∃ sl,h'.get? b=some { o with slots:=sl }) (free:∀ b o,b∉ch->s.heap.get? b=some o->H b=none->H' b=none)
  (there:∀ b o,b∉ch->s.heap.get? b=some o->∃ o',h'.get? b=some o')
  (tups:∀ b xs,H b=some (.tup xs)->H' b=some (.tup xs)) (frzs:∀ b o u,H b=some (.frz o u)->H' b=some (.frz o u)) (tbls:∀ b ps,H b=some (.tbl ps)->∃ more,H' b=some (.tbl (ps++more)))
  (ns:∀ m,s.heap.Ns X.env.locals m->h'.Ns X.env.locals m) (hok:HOk X.prog X.w H' h') (hg:AllBare g') :
  Inv X pins σ H' { s with heap:=h',gens:=g',drawn:=d',toks:=t' }:=by
 have neL:∀ b o,X.s₀.heap.get? b=some o->b≠X.env.locals:=fun b o e=>hAk (hAi (Heap.lt_size e) I.ok.above)
 have neC:∀ b o,X.s₀.heap.get? b=some o->b∉X.ex->b∉ch:=fun b o e hx hb=>by
  rcases(hch b hb).1 with z | z
  ·exact hx z
  ·exact absurd (hAi (Heap.lt_size e) z) (hBp _)
 have cellK:∀ x c,X.env.cells.lookup x=some c->∀ v,s.heap.IsCell c v->h'.IsCell c v:=fun x c e v ⟨o,ho,hd⟩=>by
  have nch:c∉ch:=fun z=>(hch c z).2.2.1 x c e rfl
  by_cases hc:c∈X.fs
  ·obtain⟨sl,q⟩:=slot c o (I.cne x c e) hc nch ho (I.freeC x c e);exact⟨_,q,hd⟩
  ·exact⟨o,keep c o (I.cne x c e) hc nch ho (I.freeC x c e),hd⟩
 refine⟨I.ok,I.os,hg,⟨fun b o e n hb hx=>?_,fun b o e n hb hx=>?_,fun b o e n hx=>?_,fun b o e hx=>?_,fun b xs e=>tups b xs (I.base.tups b xs e),fun b o xs e=>frzs b o xs (I.base.frzs b o xs e),fun b ps e=>?_⟩,?_,fun x c e=>?_,?_,fun x c e=>?_,fun p hp=>?_,hok,I.len⟩
 ·exact keep b o (neL b o e) hb (neC b o e hx) (I.base.keep b o e n hb hx) (I.base.free b o e n hx)
 ·obtain⟨sl,e1⟩:=I.base.slot b o e n hb hx;obtain⟨sl',e2⟩:=slot b _ (neL b o e) hb (neC b o e hx) e1 (I.base.free b o e n hx);exact⟨sl',e2⟩
 ·obtain⟨o',e1⟩:=I.base.there b o e hx;exact free b o' (neC b o e hx) e1 (I.base.free b o e n hx)
 ·obtain⟨o',e1⟩:=I.base.there b o e hx;exact there b o' (neC b o e hx) e1
 ·obtain⟨m1,e1⟩:=I.base.tbls b ps e;obtain⟨m2,e2⟩:=tbls b _ e1;exact⟨m1++m2,by rw[e2,Array.append_assoc]⟩
 ·obtain⟨m,hn,hl⟩:=I.loc;refine⟨m,ns m hn,fun i x v e1 e2 e3=>?_⟩;obtain⟨u,r,l⟩:=hl i x v e1 e2 e3;refine⟨u,r,?_⟩;rcases l with l | ⟨k,c,e,z⟩
  ·exact .inl l
  ·exact .inr ⟨k,c,e,cellK x c e _ z⟩
 ·obtain⟨v,z⟩:=I.cell x c e;exact⟨v,cellK x c e v z⟩
 ·obtain⟨m,⟨o,_,_,ho,_⟩,_⟩:=I.loc;exact free _ o (fun z=>(hch _ z).2.1 rfl) ho I.free
 ·obtain⟨v,o,ho,hd⟩:=I.cell x c e;exact free c o (fun z=>(hch c z).2.2.1 x c e rfl) ho (I.freeC x c e)
 ·obtain⟨e,n,ne,nf,d⟩:=I.pin p hp;have nch:p.1∉ch:=fun z=>(hch p.1 z).2.2.2 p hp rfl
  exact⟨keep p.1 p.2 ne nf nch e n,free p.1 p.2 nch e n,ne,nf,d⟩
theorem Inv.un {t':Nat} (I:Inv X pins σ H s) (u:Un X.fs [] H H' s.heap h') (hok:HOk X.prog X.w H' h'):Inv X pins σ H' { s with heap:=h',toks:=t' }:=by
 obtain⟨m,⟨o,es,ep,ho,r⟩,_⟩:=id I.loc;obtain⟨sl,hL⟩:=u.any ho I.free (by simp);exact I.step (g':=s.gens) (d':=s.drawn) (ch:=[]) (fun _ z=>nomatch z) (fun b o _ hb _ e n=>u.keep b o e n hb (by simp)) (fun b o _ hb _ e n=>u.slot b o e n hb (by simp)) (fun b o _ e n=>u.free b o e n (by simp)) (fun b o _ e=>u.there b o e (by simp)) u.tups u.frzs u.tbls (fun m' hm=>by
  obtain⟨o',es',ep',ho',r'⟩:=hm;rw[ho]at ho';cases ho';exact⟨_,es',ep',hL,r'⟩) hok I.bare
theorem Inv.call {g':Array GenState} {t':Nat} {d':Drawn} {ch:List Addr} (I:Inv X pins σ H s) (u:Un (frs X.stack) ch H H' s.heap h') (hok:HOk X.prog X.w H' h') (hg:AllBare g')
  (hch:∀ b∈ch,(b∈X.ex\/X.s₀.heap.objs.size<=b)/\b≠X.env.locals/\(∀ x c,X.env.cells.lookup x=some c->c≠b)/\∀ p∈X.pn++pins,p.1≠b) :
  Inv X pins σ H' { s with heap:=h',gens:=g',drawn:=d',toks:=t' }:=by
 obtain⟨m,⟨o,es,ep,ho,r⟩,_⟩:=id I.loc;obtain⟨sl,hL⟩:=u.any ho I.free fun z=>(hch _ z).2.1 rfl
 exact I.step (ch:=ch) hch (fun b o hL hb hc e n=>u.keep b o e n (fun z=>(hAa.mp (I.stkSub b z)).elim hL hb) hc) (fun b o _ _ hc e n=>u.any e n hc) (fun b o hc e n=>u.free b o e n hc) (fun b o hc e=>u.there b o e hc) u.tups u.frzs u.tbls (fun m' hm=>by
  obtain⟨o',es',ep',ho',r'⟩:=hm;rw[ho]at ho';cases ho';exact⟨_,es',ep',hL,r'⟩) hok hg
theorem Inv.turned {t':Nat} {it:Addr} (I:Inv X pins σ H s) (k:∀ b o,b≠it->s.heap.get? b=some o->h'.get? b=some o) (hn:H it=none) (hL:it≠X.env.locals)
  (h1:it∈X.ex\/X.s₀.heap.objs.size<=it) (h2:∀ x c,X.env.cells.lookup x=some c->c≠it) (h3:∀ p∈X.pn++pins,p.1≠it):Inv X pins σ H { s with heap:=h',toks:=t' }:=by
 have nit:∀ b u,H b=some u->b≠it:=fun b u e z=>by rw[z,hn]at e;cases e
 refine I.step (g':=s.gens) (d':=s.drawn) (ch:=[it]) (fun b hb=>?_) (fun b o _ _ hc e _=>k b o (fun z=>hc (by simp[z])) e) (fun b o _ _ hc e _=>⟨o.slots,k b o (fun z=>hc (by simp[z])) e⟩) (fun _ _ _ _ n=>n)
  (fun b o hc e=>⟨o,k b o (fun z=>hc (by simp[z])) e⟩) (fun _ _ e=>e) (fun _ _ _ e=>e) (fun b ps e=>⟨#[],by rw[e];simp⟩) (fun m hm=>?_) (fun b u e=>?_) I.bare
 ·have e:b=it:=by simpa using hb
  subst e;exact⟨h1,hL,h2,h3⟩
 ·obtain⟨o,es,ep,ho,r⟩:=hm;exact⟨o,es,ep,k _ o (Ne.symm hL) ho,r⟩
 ·refine(I.hok b u e).stay (fun c v hc q=>k c v ?_ q) (fun _ q=>q) fun _ _ q=>q
  rcases hc with z | z
  ·rw[z];exact nit b u e
  ·exact nit c _ z
theorem Inv.tok (I:Inv X pins σ H s) (t:Nat):Inv X pins σ H { s with toks:=t }:=I.un (h':=s.heap) (t':=t) Un.refl I.hok
theorem Inv.kept (I:Inv X pins σ H s) (k:∀ b u,s.heap.get? b=some u->h'.get? b=some u):Inv X pins σ H { s with heap:=h',toks:=t' }:=I.un (Un.kept k) (I.hok.kept k)
theorem Inv.laid (I:Inv X pins σ H s) (k:∀ b u,s.heap.get? b=some u->h'.get? b=some u) (hp:s.heap.objs.size<=a) (new:qBg X.prog X.w (upd H a o) h' a o) :
  Inv X pins σ (upd H a o) { s with heap:=h',toks:=t' }:=I.un (Un.laid k hp (I.hok.fresh hp)) (I.hok.laid k hp new)
theorem Inv.write (I:Inv X pins σ H s) (mu:Mut (H x)) (he:e=x\/H e=some (.own x)) (k:∀ b u,b≠e->s.heap.get? b=some u->h'.get? b=some u) (heo:∃ u,h'.get? e=some u)
  (new:qBg X.prog X.w (upd H x o) h' x o):Inv X pins σ (upd H x o) { s with heap:=h',toks:=t' }:=I.un (Un.write mu he k heo) (I.hok.write mu he k heo new)
theorem Inv.weak (I:Inv X pins σ H s) (hl:σ'.length=σ.length) (w:∀ (i:Nat) v,σ'[i]?=some (some v)->σ[i]?=some (some v)):Inv X pins σ' H s :=
 ⟨I.ok,I.os,I.bare,I.base,let ⟨m,hn,hl'⟩:=I.loc;⟨m,hn,fun i x v e1 e2 e3=>hl' i x v e1 (w i v e2) e3⟩,I.cell,I.free,I.freeC,I.pin,I.hok,hl.trans I.len⟩
theorem Inv.pins_of (I:Inv X pins σ H s) (h:∀ p∈pins',s.heap.get? p.1=some p.2/\H p.1=none/\p.1≠X.env.locals/\p.1∉X.fs/\∀ v,p.2.data≠.cell v):Inv X pins' σ H s :=
 ⟨I.ok,I.os,I.bare,I.base,I.loc,I.cell,I.free,I.freeC,fun p hp=>(hAe.mp hp).elim (fun z=>I.pin p (hAn _ z)) (h p),I.hok,I.len⟩
theorem nodup_ix {N:List Str} (hN:N.Nodup) {i j:Nat} {x:Str} (a:N[i]?=some x) (b:N[j]?=some x):i=j:=by
 obtain⟨h1,e1⟩:=hAr.mp a;obtain⟨h2,e2⟩:=hAr.mp b;exact(List.getElem_inj hN).mp (e1.trans e2.symm)
theorem qFp {M:Model} {A:Around} {E:Value->Shared->Prop} {i:Nat} {x:Str} {v:V} {u:Value} {Q:Unit->Shared->Prop} (I:Inv X pins σ H s) (hN:X.N.Nodup) (hi:X.N[i]?=some x) (hx:Loc X.env.scope x) (r:qBn v u)
  (h:∀ s',Inv X pins (σ.set i (some v)) H s'->(∃ a,Heap.SameBut a s.heap s'.heap/\(a=X.env.locals\/X.env.cells.lookup x=some a))->Q () s') (hf:X.fn x=true\/X.env.scope.names.lookup x=some .local:=by first | exact .inl rfl | exact .inr rfl | assumption):wpAny M A (storeName X.env x u) Q E s:=by
 obtain⟨m,hn,hl⟩:=id I.loc;have hcls:(X.env.scope.kind == .class || (X.env.scope.kind == .module && X.env.locals != X.env.globals))=false:=by rw[I.ok.kind];rfl
 have hiσ:i < σ.length:=by rw[I.len];exact(hAr.mp hi).1
 have cne:=I.cne;have tracked:∀ {a:Addr} {h':Heap},(∃ o,s.heap.get? a=some o/\H a=none)->Heap.SameBut a s.heap h'->HOk X.prog X.w H h':=fun {a h'} ha hs b ob e=>by
  obtain⟨_,_,hfree⟩:=ha;refine(I.hok b ob e).stay (fun c w' hc q=>(hs.2 c ?_).trans q) (fun _ q=>q) fun _ _ q=>q
  rintro rfl;rcases hc with rfl | hc
  ·rw[hfree]at e;cases e
  ·rw[hfree]at hc;cases hc
 rcases hx with hk | hk
 ·refine wpAny_storeName_local hk hn (fun h' hn' hs=>?_) hcls;obtain⟨oL,_,_,hoL,_⟩:=id hn;refine h _ ⟨I.ok,I.os,I.bare,⟨fun b o e n hb hx=>?_,fun b o e n hb hx=>?_,I.base.free,fun b o e hx=>?_,I.base.tups,I.base.frzs,I.base.tbls⟩,⟨_,hn',fun j y v' e1 e2 e3=>?_⟩,fun y c e=>?_,I.free,I.freeC,fun p hp=>?_,tracked ⟨oL,hoL,I.free⟩ hs,by simpa using I.len⟩ ⟨_,hs,.inl rfl⟩
  ·exact(hs.2 b (hAk (hAi (Heap.lt_size e) I.ok.above))).trans (I.base.keep b o e n hb hx)
  ·obtain⟨sl,e1⟩:=I.base.slot b o e n hb hx;exact⟨sl,(hs.2 b (hAk (hAi (Heap.lt_size e) I.ok.above))).trans e1⟩
  ·obtain⟨o',e1⟩:=I.base.there b o e hx;exact⟨o',(hs.2 b (hAk (hAi (Heap.lt_size e) I.ok.above))).trans e1⟩
  ·by_cases hj:j=i
   ·subst hj;rw[hi]at e1;cases e1;rw[hD8 hiσ]at e2;cases e2;exact⟨u,r,.inl ⟨hk,by simp⟩⟩
   ·rw[hCy (Ne.symm hj)]at e2;obtain⟨u',r',q⟩:=hl j y v' e1 e2 e3;refine⟨u',r',?_⟩;rcases q with ⟨k,e⟩ | ⟨k,c,e,z⟩
    ·refine .inl ⟨k,?_⟩;have:y≠x:=fun e=>hj (nodup_ix hN e1 (e▸hi))
     simp[this,e]
    ·exact .inr ⟨k,c,e,z.sameBut hs (cne y c e)⟩
  ·obtain⟨w',z⟩:=I.cell y c e;exact⟨w',z.sameBut hs (cne y c e)⟩
  ·obtain⟨e,n,ne,nf,d⟩:=I.pin p hp;exact⟨(hs.2 p.1 ne).trans e,n,ne,nf,d⟩
 ·have hfn:X.fn x=true:=by
   rcases hf with z | z
   ·exact z
   ·rw[z]at hk;cases hk
  obtain⟨c,hc⟩:=I.ok.has x (.inl hk);obtain⟨w',z⟩:=I.cell x c hc;refine wpAny_storeName_cell I.ok.kind hk hc z (fun h' hc' hs=>?_);obtain⟨oc,hoc,hocd⟩:=id z;refine h { s with heap:=h' } ⟨I.ok,I.os,I.bare,⟨fun b o e n hb hx=>?_,fun b o e n hb hx=>?_,I.base.free,fun b o e hx=>?_,I.base.tups,I.base.frzs,I.base.tbls⟩,⟨m,hn.sameBut hs (Ne.symm (cne x c hc)),fun j y v' e1 e2 e3=>?_⟩,fun y c' e=>?_,I.free,I.freeC,fun p hp=>?_,tracked ⟨oc,hoc,I.freeC x c hc⟩ hs,by simpa using I.len⟩ ⟨c,hs,.inr hc⟩
  ·exact(hs.2 b (hAk (hAi (Heap.lt_size e) (I.ok.cab x c hfn hc)))).trans (I.base.keep b o e n hb hx)
  ·obtain⟨sl,e1⟩:=I.base.slot b o e n hb hx;exact⟨sl,(hs.2 b (hAk (hAi (Heap.lt_size e) (I.ok.cab x c hfn hc)))).trans e1⟩
  ·obtain⟨o',e1⟩:=I.base.there b o e hx;exact⟨o',(hs.2 b (hAk (hAi (Heap.lt_size e) (I.ok.cab x c hfn hc)))).trans e1⟩
  ·by_cases hj:j=i
   ·subst hj;rw[hi]at e1;cases e1;rw[hD8 hiσ]at e2;cases e2;exact⟨u,r,.inr ⟨.inl hk,c,hc,hc'⟩⟩
   ·rw[hCy (Ne.symm hj)]at e2;obtain⟨u',r',q⟩:=hl j y v' e1 e2 e3;refine⟨u',r',?_⟩;rcases q with q | ⟨k,c',e,z'⟩
    ·exact .inl q
    ·refine .inr ⟨k,c',e,z'.sameBut hs ?_⟩;rintro rfl;exact hj (nodup_ix hN e1 (I.ok.inj _ _ _ e hc▸hi))
  ·by_cases hcc:c'=c
   ·subst hcc;exact⟨_,hc'⟩
   ·obtain⟨w2,z2⟩:=I.cell y c' e;exact⟨w2,z2.sameBut hs hcc⟩
  ·obtain⟨e,n,ne,nf,d⟩:=I.pin p hp;refine⟨(hs.2 p.1 ?_).trans e,n,ne,nf,d⟩;intro q;rw[q,hoc]at e;have q':oc=p.2:=hAv e;exact d w' (by rw[<-q'];exact hocd)
theorem qDt (I:Inv X pins σ H s) (hN:X.N.Nodup) (hi:X.N[i]?=some x) (hx:Loc X.env.scope x) (r:qBn v u)
  (h:∀ s',Inv X pins (σ.set i (some v)) H s'->Q () s') (hf:X.fn x=true\/X.env.scope.names.lookup x=some .local:=by first | exact .inl rfl | exact .inr rfl | assumption):wpAny M A (storeName X.env x u) Q E s :=
 qFp I hN hi hx r (fun s' I' _=>h s' I') hf
theorem Inv.call' (I:Inv X pins σ H s) (ho:s'.os=s.os) (u:Un (frs X.stack) ch H H' s.heap s'.heap) (hok:HOk X.prog X.w H' s'.heap) (hg:AllBare s'.gens)
  (hch:∀ b∈ch,(b∈X.ex\/X.s₀.heap.objs.size<=b)/\b≠X.env.locals/\(∀ x c,X.env.cells.lookup x=some c->c≠b)/\∀ p∈X.pn++pins,p.1≠b):Inv X pins σ H' s':=by
 obtain⟨h',g',d',t',o'⟩:=s';have e:o'=s.os:=ho;subst e;exact I.call (g':=g') (t':=t') (d':=d') u hok hg hch
end
abbrev XK:=Value->Option Addr->Hp->Prop
abbrev St:=List (Option V)
abbrev VK:=V->Hp->Prop
abbrev TE:=St->Hp->VK->Prop
abbrev TT:=St->Hp->(Bool->Hp->Prop)->Prop
abbrev TA:=St->Hp->(List V->Hp->Prop)->Prop
structure Ends where
 nx:St->Hp->Prop
 rt:VK
 bk:St->Hp->Prop:=fun _ _=>False
 ct:St->Hp->Prop:=fun _ _=>False
abbrev TS:=Ends->St->Hp->Prop
def EP (X:Cx) (pins:List (Addr×Obj)) (σ:St) (Q:VK) (u:Value) (s':Shared):Prop:=∃ v H',Inv X pins σ H' s'/\qBn v u/\Q v H'
def TP (X:Cx) (pins:List (Addr×Obj)) (σ:St) (Q:Bool->Hp->Prop) (b:Bool) (s':Shared):Prop:=∃ H',Inv X pins σ H' s'/\Q b H'
def AP (X:Cx) (pins:List (Addr×Obj)) (σ:St) (Q:List V->Hp->Prop) (us:List Value) (s':Shared):Prop:=∃ vs H',Inv X pins σ H' s'/\qBa vs us/\Q vs H'
def SP (X:Cx) (pins:List (Addr×Obj)) (D:Ends) (f:Flow) (s':Shared):Prop :=
 match f with
 | .next=>∃ σ' H',Inv X pins σ' H' s'/\D.nx σ' H'
 | .brk=>∃ σ' H',Inv X pins σ' H' s'/\D.bk σ' H'
 | .cont=>∃ σ' H',Inv X pins σ' H' s'/\D.ct σ' H'
 | .ret u=>∃ v σ' H',Inv X pins σ' H' s'/\qBn v u/\D.rt v H'
def PE (X:Cx) (e:Expr) (t:TE):Prop :=
 ∀ (pins:List (Addr×Obj)) (s:Shared) (σ:St) (H:Hp) (Q:VK),Inv X pins σ H s->t σ H Q->wpAny (model X.prog X.w) X.A (eval e X.env) (EP X pins σ Q) X.xe s
def PT (X:Cx) (e:Expr) (t:TT):Prop :=
 ∀ (pins:List (Addr×Obj)) (s:Shared) (σ:St) (H:Hp) (Q:Bool->Hp->Prop),Inv X pins σ H s->t σ H Q->wpAny (model X.prog X.w) X.A (isTrue e X.env (eval e X.env)) (TP X pins σ Q) X.xe s
def PW (X:Cx) (e:Expr) (t:TT):Prop :=
 ∀ (whole:Sem Value) (pins:List (Addr×Obj)) (s:Shared) (σ:St) (H:Hp) (Q:Bool->Hp->Prop),Inv X pins σ H s->t σ H Q->wpAny (model X.prog X.w) X.A (isTrue e X.env whole) (TP X pins σ Q) X.xe s
theorem PW.pt (h:PW X e t):PT X e t:=h _
def PA (X:Cx) (es:List Expr) (t:TA):Prop :=
 ∀ (pos:Pos) (pins:List (Addr×Obj)) (s:Shared) (σ:St) (H:Hp) (Q:List V->Hp->Prop),Inv X pins σ H s->t σ H Q->wpAny (model X.prog X.w) X.A (spliced (backTo pos (starEach es X.env))) (AP X pins σ Q) X.xe s
def PS (X:Cx) (st:Stmt) (t:TS):Prop :=
 ∀ (pins:List (Addr×Obj)) (s:Shared) (σ:St) (H:Hp) (D:Ends),Inv X pins σ H s->t D σ H->wpAny (model X.prog X.w) X.A (exec st X.env) (SP X pins D) X.xe s
def PSs (X:Cx) (st:List Stmt) (t:TS):Prop :=
 ∀ (pins:List (Addr×Obj)) (s:Shared) (σ:St) (H:Hp) (D:Ends),Inv X pins σ H s->t D σ H->wpAny (model X.prog X.w) X.A (execs st X.env) (SP X pins D) X.xe s
theorem thn (h:wpAny M A t Q E s) (hQ:∀ a s,Q a s->Q' a s):wpAny M A t Q' E s:=wpAny_mono h hQ fun _ _ x=>x
end L2
namespace L2
open PySem PySem.Spec PyProof.Rows
section
variable {X:Cx}
def tVar (i:Nat):TE:=fun σ H Q=>∃ v,σ[i]?=some (some v)/\Q v H
def tC (v:V):TE:=fun _ H Q=>Q v H
theorem pe_var (hN:X.N[i]?=some x) (hv:Vis X.env.scope x) (hd:(x == ("__debug__" : Str))=false:=by decide) (hcd:(x == ("__classdict__" : Str))=false:=by decide):PE X (.Name x pos) (tVar i):=by
 intro pins s σ H Q I h;obtain⟨v,e,h⟩:=h;obtain⟨m,hn,hl⟩:=I.loc;obtain⟨u,r,l⟩:=hl i x v hN e hv;have fin:EP X pins σ Q u s:=⟨v,H,I,r,h⟩;rcases l with ⟨hk,hm⟩ | ⟨hk,c,hc,hcell⟩
 ·exact wpAny_Name (wpAny_loadName_local I.ok.kind hk hn hm fin) hd
 ·rcases hk with hk | hk
  ·exact wpAny_Name (wpAny_loadName_cell I.ok.kind hk hc hcell fin) hd
  ·exact wpAny_Name (wpAny_loadName_free I.ok.kind hk hc hcell fin hcd) hd
theorem qAd {i j pos}:PE X (.Constant (.int i) j pos) (tC (.int i)):=fun _ _ _ H _ I h=>wpAny_Constant_int ⟨.int i,H,I.tok _,⟨_,rfl⟩,h⟩
theorem pe_bl {b j pos}:PE X (.Constant (.bool b) j pos) (tC (.bl b)):=fun _ _ _ H _ I h=>Constant_bool ⟨.bl b,H,I,rfl,h⟩
theorem pe_non {j pos}:PE X (.Constant .none j pos) (tC .non):=fun _ _ _ H _ I h=>Constant_none ⟨.non,H,I,rfl,h⟩
theorem pe_str {x j pos}:PE X (.Constant (.str x) j pos) (tC (.str x)):=fun _ _ _ H _ I h=>Calls.Constant_str ⟨.str x,H,I.tok _,⟨_,rfl⟩,h⟩
def Gl (X:Cx) (x:Str):Prop:=X.env.kindOf x=some .globalImplicit
theorem ld_glob (I:Inv X pins σ H s) (hg:Gl X x) (hm:X.mg x=some u) (h:Q u s)
  (hd:(x == ("__debug__" : Str))=false:=by decide):wpAny (model X.prog X.w) X.A (eval (.Name x pos) X.env) Q E s :=
 Calls.Name_function_global I.ok.kind hg (Calls.loadGlobal_global (by rw[I.ok.glob];exact I.mod.glob.keeps I.bk) hm h) hd
theorem qEx (I:Inv X pins σ H s) (hg:Gl X x) (hm:X.mg x=none) (hv:bootBuiltins x=some u) (h:Q u s)
  (hn:x≠"__name__":=by decide) (hd:(x == ("__debug__" : Str))=false:=by decide):wpAny (model X.prog X.w) X.A (eval (.Name x pos) X.env) Q E s:=by
 obtain⟨mb,h1,h2⟩:=I.mod.blt;exact Calls.Name_function_global I.ok.kind hg (Calls.loadGlobal_builtin (by rw[I.ok.glob];exact I.mod.glob.keeps I.bk) hm (by rw[I.ok.blt];exact h1.keeps I.bk) ((h2 x hn).trans hv) h) hd
theorem qBm (hg:Gl X x) (hm:X.mg x=some u) (r:qBn v u) (hd:(x == ("__debug__" : Str))=false:=by decide):PE X (.Name x pos) (tC v) :=
 fun _ _ _ H _ I h=>ld_glob I hg hm ⟨v,H,I,r,h⟩ hd
theorem pe_bltn (hg:Gl X x) (hm:X.mg x=none) (hv:bootBuiltins x=some u) (r:qBn v u) (hn:x≠"__name__":=by decide) (hd:(x == ("__debug__" : Str))=false:=by decide):PE X (.Name x pos) (tC v) :=
 fun _ _ _ H _ I h=>qEx I hg hm hv ⟨v,H,I,r,h⟩ hn hd
variable {a b:Expr} {ta tb:TE} {pos:Pos}
def tB (t:TE):TT:=fun σ H Q=>t σ H fun x H1=>∃ c,x = .bl c/\Q c H1
theorem qF0 (h:PE X e t) (he:∀ whole,isTrue e X.env whole=(do let v ← whole;standAt e.pos;holding [v] (truthy v)):=by intro _;rfl):PT X e (tB t):=by
 intro pins s σ H Q I hw;refine isTrue_plain (thn (h pins s σ H _ I hw) fun v s1 ⟨x,H1,I1,r1,q1⟩=>?_) (he _);obtain⟨d,rfl,q⟩:=q1;cases r1;exact wpAny_truthy_bool ⟨H1,I1,q⟩
variable {tA tB':TT} {rest:List Expr}
def tAnd (t u:TT):TT:=fun σ H Q=>t σ H fun c H1=>if c=true then u σ H1 Q else Q false H1
def tOr (t u:TT):TT:=fun σ H Q=>t σ H fun c H1=>if c=true then Q true H1 else u σ H1 Q
def tNot (t:TT):TT:=fun σ H Q=>t σ H fun c H1=>Q (!c) H1
theorem pw_and1 (ha:PT X a tA):PW X (.BoolOp .And [a] pos) tA:=by
 intro wh pins s σ H Q I h;refine isTrue_and (thn (ha pins s σ H Q I h) fun c s1 e=>?_);cases c with
 | true=>exact isTrue_and_nil e
 | false=>exact e
theorem qFz (ha:PT X a tA):PW X (.BoolOp .Or [a] pos) tA:=by
 intro wh pins s σ H Q I h;refine isTrue_or (thn (ha pins s σ H Q I h) fun c s1 e=>?_);cases c with
 | false=>exact isTrue_or_nil e
 | true=>exact e
theorem pw_and (ha:PT X a tA) (hb:PW X (.BoolOp .And (b :: rest) pos) tB'):PW X (.BoolOp .And (a :: b :: rest) pos) (tAnd tA tB'):=by
 intro wh pins s σ H Q I h;refine isTrue_and (thn (ha pins s σ H _ I h) fun c s1 ⟨H1,I1,q1⟩=>?_);cases c with
 | true=>exact hb wh pins s1 σ H1 Q I1 q1
 | false=>exact⟨H1,I1,q1⟩
theorem qE6 (ha:PT X a tA) (hb:PW X (.BoolOp .Or (b :: rest) pos) tB'):PW X (.BoolOp .Or (a :: b :: rest) pos) (tOr tA tB'):=by
 intro wh pins s σ H Q I h;refine isTrue_or (thn (ha pins s σ H _ I h) fun c s1 ⟨H1,I1,q1⟩=>?_);cases c with
 | true=>exact⟨H1,I1,q1⟩
 | false=>exact hb wh pins s1 σ H1 Q I1 q1
theorem qF1 (ha:PT X a tA):PT X (.UnaryOp .Not a pos) (tNot tA):=by
 intro pins s σ H Q I h;exact isTrue_not (ha pins s σ H (fun c H1=>Q (!c) H1) I h)
def tAndV (ta tb:TE):TE:=fun σ H Q=>ta σ H fun x H1=>∃ c,x = .bl c/\if c=true then tb σ H1 Q else Q (.bl false) H1
theorem pe_one {op} (h:PE X a t):PE X (.BoolOp op [a] pos) t:=fun pins s σ H Q I hw=>BoolOp_one (h pins s σ H Q I hw)
theorem pe_and (ha:PE X a ta) (hb:PE X (.BoolOp .And (b :: rest) pos) tb):PE X (.BoolOp .And (a :: b :: rest) pos) (tAndV ta tb):=by
 intro pins s σ H Q I h;refine BoolOp_and (thn (ha pins s σ H _ I h) fun v s1 ⟨x,H1,I1,r1,q1⟩=>?_);obtain⟨c,rfl,q1⟩:=q1;cases r1;refine wpAny_truthy_bool ?_;cases c with
 | true=>exact hb pins s1 σ H1 Q I1 q1
 | false=>exact⟨.bl false,H1,I1,rfl,q1⟩
def tIf (t:TT) (ta tb:TE):TE:=fun σ H Q=>t σ H fun c H1=>if c=true then ta σ H1 Q else tb σ H1 Q
theorem qFh (hc:PT X c tA) (ha:PE X a ta) (hb:PE X b tb):PE X (.IfExp c a b pos) (tIf tA ta tb):=by
 intro pins s σ H Q I h;refine wpAny_IfExp (thn (hc pins s σ H _ I h) fun d s1 ⟨H1,I1,q1⟩=>?_);cases d with
 | true=>exact ha pins s1 σ H1 Q I1 q1
 | false=>exact hb pins s1 σ H1 Q I1 q1
end
end L2
namespace L2
open PySem PySem.Spec PyProof.Rows
def SqL (K:PySem.W.Frag) (H:Hp) (a:Addr) (xs:List V):Prop :=
 Rd H a (.lst xs) \/
  ∃ (o:Obj) (its:Array Value) (n:Nat),K.lookup a=some o/\o.cls = .type "list"/\o.dict=none/\o.data = .seq its n/\its.size<=sizeLine/\qBa xs its.toList
def SqT (K:PySem.W.Frag) (H:Hp) (a:Addr) (xs:List V):Prop :=
 Rd H a (.tup xs) \/
  ∃ (o:Obj) (its:Array Value) (n:Nat),K.lookup a=some o/\o.cls = .type "tuple"/\o.data = .seq its n/\its.size<=sizeLine/\qBa xs its.toList
def absV:Value->Option V
 | .none=>some .non
 | .bool b=>some (.bl b)
 | .int i _=>some (.int i)
 | .str x _=>some (.str x)
 | .bytes b _=>some (.byt b)
 | .float b _=>some (.flt b)
 | .ref a=>some (.ref a)
 | .type n=>some (.ty n)
 | _=>none
theorem qBn.abs (r:qBn x u):absV u=some x:=by
 cases x with
 | non=>cases r;rfl
 | bl _=>cases r;rfl
 | int _=>obtain⟨t,rfl⟩:=r;rfl
 | str _=>obtain⟨t,rfl⟩:=r;rfl
 | byt _=>obtain⟨t,rfl⟩:=r;rfl
 | flt _=>obtain⟨t,rfl⟩:=r;rfl
 | ref _=>cases r;rfl
 | ty _=>cases r;rfl
theorem qBn.inj (r:qBn x u) (q:qBn y u):x=y:=hAv (r.abs.symm.trans q.abs)
theorem qBa.inj:∀ {xs ys:List V} {us:List Value},qBa xs us->qBa ys us->xs=ys
 | _,_,_,.nil,.nil=>rfl
 | _,_,_,.cons r t,.cons r' t'=>by rw[r.inj r',qBa.inj t t']
section
variable {X:Cx} {pins:List (Addr×Obj)} {σ:St} {H:Hp} {s:Shared} {a:Addr} {xs ys:List V}
theorem SqL.of {K:PySem.W.Frag} (h:H a=some (.lst xs)):SqL K H a xs:=.inl (.inl h)
theorem SqT.of {K:PySem.W.Frag} (h:H a=some (.tup xs)):SqT K H a xs:=.inl (.inl h)
theorem Inv.list (I:Inv X pins σ H s) (h:SqL X.K H a xs):∃ its:List Value,qBa xs its/\PlainL s.heap a its.toArray/\xs.length<=sizeLine:=by
 rcases h with h | ⟨o,its,n,hk,hc,hd,hs,hz,r⟩
 ·obtain⟨z,its,n,r,e⟩:=h.ok I.hok;exact⟨its,r,⟨_,n,e,rfl,rfl,rfl⟩,z⟩
 ·refine⟨its.toList,r,⟨o,n,I.kIn a o hk,hc,hd,by simpa using hs⟩,?_⟩;have e:=r.length;simp only[hB0]at e;omega
theorem Inv.tuple (I:Inv X pins σ H s) (h:SqT X.K H a xs):∃ its:List Value,qBa xs its/\IsTup s.heap a its.toArray/\xs.length<=sizeLine:=by
 rcases h with h | ⟨o,its,n,hk,hc,hs,hz,r⟩
 ·obtain⟨z,its,r,p⟩:=h.ok I.hok;exact⟨its,r,p,z⟩
 ·refine⟨its.toList,r,⟨o,I.kIn a o hk,hc,n,by simpa using hs⟩,?_⟩;have e:=r.length;simp only[hB0]at e;omega
theorem Inv.list_inj (I:Inv X pins σ H s) (h:SqL X.K H a xs) (h':SqL X.K H a ys):xs=ys:=by
 obtain⟨its,r,⟨o,n,e,_,_,d⟩,_⟩:=I.list h;obtain⟨its',r',⟨o',n',e',_,_,d'⟩,_⟩:=I.list h';rw[e]at e';cases e';rw[d]at d';injection d' with d1 _
 have:its=its':=by simpa using congrArg Array.toList d1
 subst this;exact r.inj r'
theorem Inv.tuple_inj (I:Inv X pins σ H s) (h:SqT X.K H a xs) (h':SqT X.K H a ys):xs=ys:=by
 obtain⟨its,r,⟨o,e,_,n,d⟩,_⟩:=I.tuple h;obtain⟨its',r',⟨o',e',_,n',d'⟩,_⟩:=I.tuple h';rw[e]at e';cases e';rw[d]at d';injection d' with d1 _
 have:its=its':=by simpa using congrArg Array.toList d1
 subst this;exact r.inj r'
end
abbrev Cx.wish (X:Cx) (E:Value->Shared->Prop):Cx:={ X with xe:=E }
abbrev Cx.nox (X:Cx):Cx:=X.wish fun _ _=>False
theorem Cx.Ok.wish {X:Cx} (ok:X.Ok) (E:Value->Shared->Prop):(X.wish E).Ok :=
 ⟨ok.mod,ok.kind,ok.glob,ok.blt,ok.above,ok.inj,ok.has,ok.cab,ok.hd,ok.frames,ok.stk,ok.exf,ok.bs,ok.bsz,ok.noex,ok.exfs,ok.funs,ok.frf⟩
theorem Cx.Ok.unwish {X:Cx} {E:Value->Shared->Prop} (ok:(X.wish E).Ok):X.Ok :=
 ⟨ok.mod,ok.kind,ok.glob,ok.blt,ok.above,ok.inj,ok.has,ok.cab,ok.hd,ok.frames,ok.stk,ok.exf,ok.bs,ok.bsz,ok.noex,ok.exfs,ok.funs,ok.frf⟩
section
variable {X:Cx} {pins:List (Addr×Obj)} {σ:St} {H:Hp} {s:Shared} {E:Value->Shared->Prop}
theorem Inv.wish (I:Inv X pins σ H s) (E:Value->Shared->Prop):Inv (X.wish E) pins σ H s:=⟨I.ok.wish E,I.os,I.bare,I.base,I.loc,I.cell,I.free,I.freeC,I.pin,I.hok,I.len⟩
theorem Inv.unwish (I:Inv (X.wish E) pins σ H s):Inv X pins σ H s:=⟨I.ok.unwish,I.os,I.bare,I.base,I.loc,I.cell,I.free,I.freeC,I.pin,I.hok,I.len⟩
theorem SP.unwish (h:SP (X.wish E) pins D f s'):SP X pins D f s':=by
 cases f with
 | next=>obtain⟨σ',H',I,q⟩:=h;exact⟨σ',H',I.unwish,q⟩
 | brk=>obtain⟨σ',H',I,q⟩:=h;exact⟨σ',H',I.unwish,q⟩
 | cont=>obtain⟨σ',H',I,q⟩:=h;exact⟨σ',H',I.unwish,q⟩
 | ret u=>obtain⟨v,σ',H',I,r,q⟩:=h;exact⟨v,σ',H',I.unwish,r,q⟩
theorem PSs.nox {st:List Stmt} {t:TS} (h:PSs X.nox st t):PSs X st t:=fun pins s σ H D I hw =>
 wpAny_mono (h pins s σ H D (I.wish _) hw) (fun _ _ q=>q.unwish) fun _ _ z=>False.elim z
end
section
variable {X:Cx} {st:Stmt} {rest:List Stmt} {t u:TS} {e:Expr} {te:TE} {pos:Pos}
def tNext:TS:=fun D σ H=>D.nx σ H
def tSeq (t u:TS):TS:=fun D σ H=>t { D with nx:=u D } σ H
theorem qBl:PSs X [] tNext:=fun _ _ σ H _ I h=>wpAny_execs_nil ⟨σ,H,I,h⟩
theorem pss_cons (h1:PS X st t) (h2:PSs X rest u):PSs X (st :: rest) (tSeq t u):=by
 intro pins s σ H D I h;refine wpAny_execs_cons (thn (h1 pins s σ H { D with nx:=u D } I h) fun f s1 q=>?_);cases f with
 | next =>
  obtain⟨σ',H',I',q⟩:=q;exact h2 pins s1 σ' H' D I' q
 | ret v=>exact q
 | brk=>exact q
 | cont=>exact q
theorem qAh (h1:PS X st t):PSs X [st] t:=by
 intro pins s σ H D I h;refine wpAny_execs_cons (thn (h1 pins s σ H D I h) fun f s1 q=>?_);cases f with
 | next=>exact wpAny_execs_nil q
 | ret v=>exact q
 | brk=>exact q
 | cont=>exact q
theorem Inv.quiet (I:Inv X pins σ H s):interactive X.env=false:=by simp[interactive,I.ok.kind]
def tDrop (te:TE):TS:=fun D σ H=>te σ H fun _ H1=>D.nx σ H1
theorem qEg (he:PE X e te) (hs:swapsWith e none pos.line X.env=pure false:=by rfl):PS X (.Expr e pos) (tDrop te):=by
 intro pins s σ H D I h;exact wpAny_Expr_any (thn (he pins s σ H _ I h) fun v s1 ⟨x,H1,I1,r1,q1⟩=>⟨σ,H1,I1,q1⟩) I.quiet hs
def tRet (te:TE):TS:=fun D σ H=>te σ H D.rt
theorem qAu (he:PE X e te):PS X (.Return (some e) pos) (tRet te):=by
 intro pins s σ H D I h;exact wpAny_Return_some (thn (he pins s σ H _ I h) fun v s1 ⟨x,H1,I1,r1,q1⟩=>⟨x,σ,H1,I1,r1,q1⟩)
def tIfS (c:TT) (t u:TS):TS:=fun D σ H=>c σ H fun b H1=>if b=true then t D σ H1 else u D σ H1
theorem qCq (hc:PT X c tc) (ha:PSs X a t) (hb:PSs X b u):PS X (.If c a b pos) (tIfS tc t u):=by
 intro pins s σ H D I h;refine wpAny_If (thn (hc pins s σ H _ I h) fun d s1 ⟨H1,I1,q1⟩=>?_);cases d with
 | true=>exact ha pins s1 σ H1 D I1 q1
 | false=>exact hb pins s1 σ H1 D I1 q1
def tNever:TS:=fun _ _ _=>False
theorem ps_never:PS X st tNever:=fun _ _ _ _ _ _ h=>h.elim
theorem pss_never:PSs X sts tNever:=fun _ _ _ _ _ _ h=>h.elim
end
abbrev TG:=V->St->Hp->(St->Hp->Prop)->Prop
abbrev TGs:=List V->St->Hp->(St->Hp->Prop)->Prop
def PG (X:Cx) (target:Expr) (t:TG):Prop :=
 ∀ (pins:List (Addr×Obj)) (s:Shared) (σ:St) (H:Hp) (v:V) (u:Value) (Q:St->Hp->Prop),Inv X pins σ H s->qBn v u->t v σ H Q ->
  wpAny (model X.prog X.w) X.A (assign target X.env u) (fun _ s'=>∃ σ' H',Inv X pins σ' H' s'/\Q σ' H') X.xe s
def PGs (X:Cx) (ts:List Expr) (t:TGs):Prop :=
 ∀ (pins:List (Addr×Obj)) (s:Shared) (σ:St) (H:Hp) (vs:List V) (us:List Value) (Q:St->Hp->Prop),Inv X pins σ H s->qBa vs us->t vs σ H Q ->
  wpAny (model X.prog X.w) X.A (assignInOrder ((assignEach ts X.env).map (·.2)) us) (fun _ s'=>∃ σ' H',Inv X pins σ' H' s'/\Q σ' H') X.xe s
abbrev TIp:=V->V->Hp->VK->Prop
def PIp (X:Cx) (op:Operator) (t:TIp):Prop :=
 ∀ (pins:List (Addr×Obj)) (s:Shared) (σ:St) (H:Hp) (x y:V) (v u:Value) (Q:VK),Inv X pins σ H s->qBn x v->qBn y u->t x y H Q ->
  wpAny (model X.prog X.w) X.A (inplaceOp op v u) (EP X pins σ Q) X.xe s
section
variable {X:Cx} {pos:Pos}
def gName (i:Nat):TG:=fun v σ H Q=>Q (σ.set i (some v)) H
theorem qAg (hN:X.N.Nodup) (hi:X.N[i]?=some x) (hx:Loc X.env.scope x) (hf:X.fn x=true\/X.env.scope.names.lookup x=some .local:=by first | exact .inl rfl | exact .inr rfl | assumption):PG X (.Name x pos) (gName i):=by
 intro pins s σ H v u Q I r h;exact wpAny_assign_Name (qDt I hN hi hx r (fun s' I'=>⟨_,H,I',h⟩) hf)
def gNil:TGs:=fun vs σ H Q=>vs=[]/\Q σ H
def gCons (t:TG) (u:TGs):TGs:=fun vs σ H Q=>∃ v r,vs=v :: r/\t v σ H fun σ' H'=>u r σ' H' Q
theorem qBo:PGs X [] gNil:=by
 intro pins s σ H vs us Q I r h;obtain⟨e,h⟩:=h;subst e;cases r;exact assignInOrder_nil ⟨σ,H,I,h⟩
theorem qAm (h1:PG X e t) (h2:PGs X es u)
  (hs:(assignEach (e :: es) X.env).map (·.2)=assign e X.env :: (assignEach es X.env).map (·.2):=by rfl):PGs X (e :: es) (gCons t u):=by
 intro pins s σ H vs us Q I r h;obtain⟨v,vr,e1,h⟩:=h;subst e1;cases r with
 | cons r rr =>
  rw[hs];refine assignInOrder_cons (thn (h1 pins s σ H _ _ _ I r h) fun _ s1 ⟨σ1,H1,I1,q1⟩=>?_);exact h2 pins s1 σ1 H1 _ _ Q I1 rr q1
def gTup (K:PySem.W.Frag) (n:Nat) (t:TGs):TG:=fun v σ H Q=>∃ a xs,v = .ref a/\SqT K H a xs/\xs.length=n/\t xs σ H Q
theorem qB3 (hc:X.calm=true) (h:PGs X es t)
  (hn:(assignEach es X.env).length=n:=by rfl) (hst:(assignEach es X.env).findIdx? (·.1)=none:=by rfl):PG X (.Tuple es k pos) (gTup X.K n t):=by
 intro pins s σ H v u Q I r hw;obtain⟨a,xs,e1,hq,hl,hw⟩:=hw;subst e1;cases r;obtain⟨its,rv,ht,hz⟩:=I.tuple hq;refine assign_Tuple_tuple (I.ok.hd hc) ht (by simp[hn,<-hl,rv.length]) hst fun h' hx=>?_
 have I1:Inv X pins σ H { s with heap:=h' }:=I.kept (t':=s.toks) fun b o e=>hx b o (hAk (Heap.lt_size e)) e
 exact h pins _ σ H xs _ Q I1 (by simpa using rv) hw
def tAsg (te:TE) (g:TG):TS:=fun D σ H=>te σ H fun x H1=>g x σ H1 D.nx
theorem ps_asg (he:PE X e te) (hg:PG X tg g) (hs:swapsWithSole [tg] e pos.line X.env=pure false:=by rfl) (hw:swappedStores [tg] e X.env=pure none:=by rfl)
  (h1:(assignEach [tg] X.env).map (·.2)=[assign tg X.env]:=by rfl):PS X (.Assign [tg] e pos) (tAsg te g):=by
 intro pins s σ H D I h;refine wpAny_Assign_stores (thn (he pins s σ H _ I h) fun v s1 ⟨x,H1,I1,r1,q1⟩=>?_) hs hw;rw[h1];exact thn (hg pins s1 σ H1 x v _ I1 r1 q1) fun _ s2 q=>q
theorem qAn (hN:X.N.Nodup) (hi:X.N[i]?=some x) (hx:Loc X.env.scope x) (he:PE X e te) (hs:swapsWith e (some (.Name x pos')) pos.line X.env=pure false:=by rfl) (hf:X.fn x=true\/X.env.scope.names.lookup x=some .local:=by first | exact .inl rfl | exact .inr rfl | assumption) :
  PS X (.Assign [.Name x pos'] e pos) (tAsg te (gName i)):=by
 intro pins s σ H D I h;refine wpAny_Assign_Name (thn (he pins s σ H _ I h) fun v s1 ⟨y,H1,I1,r1,q1⟩=>?_) hs;exact qDt I1 hN hi hx r1 (fun s2 I2=>⟨_,H1,I2,q1⟩) hf
def tAug (i:Nat) (te:TE) (ti:TIp):TS:=fun D σ H=>∃ x,σ[i]?=some (some x)/\te σ H fun y H1=>ti x y H1 fun z H2=>D.nx (σ.set i (some z)) H2
theorem ps_aug (hN:X.N.Nodup) (hi:X.N[i]?=some x) (hx:Loc X.env.scope x) (he:PE X e te) (ho:PIp X op ti) (hf:X.fn x=true\/X.env.scope.names.lookup x=some .local:=by first | exact .inl rfl | exact .inr rfl | assumption) :
  PS X (.AugAssign (.Name x pos') op e pos) (tAug i te ti):=by
 intro pins s σ H D I h;obtain⟨v,e1,h⟩:=h;obtain⟨m,hn,hl⟩:=I.loc;have vis:Vis X.env.scope x:=by rcases hx with k | k;exact .inl k;exact .inr (.inl k)
 obtain⟨u,r,l⟩:=hl i x v hi e1 vis;refine wpAny_AugAssign_Name ?_;have go:wpAny (model X.prog X.w) X.A (eval e X.env) (fun w s₂=>wpAny (model X.prog X.w) X.A (inplaceOp op u w) (fun r s₃=>wpAny (model X.prog X.w) X.A (storeName X.env x r) (fun _=>SP X pins D .next) X.xe s₃) X.xe s₂) X.xe s:=by
  refine thn (he pins s σ H _ I h) fun w s1 ⟨y,H1,I1,r1,q1⟩=>?_
  refine thn (ho pins s1 σ H1 v y u w _ I1 r r1 q1) fun z s2 ⟨zv,H2,I2,r2,q2⟩=>?_
  exact qDt I2 hN hi hx r2 (fun s3 I3=>⟨_,H2,I3,q2⟩) hf
 rcases l with ⟨hk,hm⟩ | ⟨hk,c,hc,hcell⟩
 ·exact wpAny_loadName_local I.ok.kind hk hn hm go
 ·rcases hk with hk | hk
  ·exact wpAny_loadName_cell I.ok.kind hk hc hcell go
  ·rcases hx with k | k
   ·have:X.env.scope.names.lookup x=some .free:=hk;rw[k]at this;cases this
   ·have:X.env.scope.names.lookup x=some .free:=hk;rw[k]at this;cases this
def ipI (f:Int->Int->Int):TIp:=fun x y H Q=>∃ i j,x = .int i/\y = .int j/\Q (.int (f i j)) H
theorem ip_add:PIp X .Add (ipI fun i j=>i+j):=by
 intro pins s σ H x y v u Q I r1 r2 h;obtain⟨i,j,e1,e2,q⟩:=h;subst e1;subst e2;obtain⟨t,rfl⟩:=r1;obtain⟨t',rfl⟩:=r2;exact iadd_int ⟨.int _,H,I.tok _,⟨_,rfl⟩,q⟩
end
section
variable {X:Cx} {pos:Pos}
def tWhile (c:TT) (tb:TS):TS:=fun D σ H=>∃ W:Nat->St->Hp->Prop,(∃ m,W m σ H)/\∀ m σ H,W m σ H ->
 c σ H fun b H1=>if b=true then ∃ N:St->Hp->Prop,(∀ σ' H',N σ' H'->∃ m',m'<m/\W m' σ' H')/\tb { D with nx:=N,ct:=N,bk:=D.nx } σ H1 else D.nx σ H1
theorem ps_while (hp:PassesOwn (model X.prog X.w) X.A X.env X.xe) (hc:PT X c tc) (hb:PSs X body tb):PS X (.While c body [] pos) (tWhile tc tb):=by
 intro pins s σ H D I h;obtain⟨W,⟨m0,w0⟩,turn⟩:=h;refine wpAny_While (codeAny_whileLoop (fun n s'=>∃ σ' H',Inv X pins σ' H' s'/\W n σ' H') ?_ m0 ⟨σ,H,I,w0⟩);rintro n s1 ⟨σ1,H1,I1,w1⟩;refine wpAny_passesOwn hp (thn (hc pins s1 σ1 H1 _ I1 (turn n σ1 H1 w1)) fun b s2 ⟨H2,I2,q2⟩=>?_);cases b with
 | true =>
  obtain⟨N,hN,q2⟩:=q2;rw[if_pos rfl];refine wpAny_passesOwn hp (thn (hb pins s2 σ1 H2 _ I2 q2) fun f s3 q3=>?_);cases f with
  | next =>
   obtain⟨σ3,H3,I3,n3⟩:=q3;obtain⟨m',hm,w3⟩:=hN σ3 H3 n3;exact⟨m',hm,σ3,H3,I3,w3⟩
  | cont =>
   obtain⟨σ3,H3,I3,n3⟩:=q3;obtain⟨m',hm,w3⟩:=hN σ3 H3 n3;exact⟨m',hm,σ3,H3,I3,w3⟩
  | brk=>exact q3
  | ret v=>exact q3
 | false =>
  rw[if_neg hAo];exact wpAny_execs_nil ⟨σ1,H2,I2,q2⟩
end
structure It where
 go:Nat->Hp->Prop
 yld:Nat->Hp->V->Hp->Prop
 stop:Nat->Hp->Prop
def FpOk (X:Cx) (pins:List (Addr×Obj)) (H:Hp) (b:Addr):Prop :=
 H b=none/\b≠X.env.locals/\b∉X.fs/\(b∈X.ex\/X.s₀.heap.objs.size<=b)/\(∀ x c,X.env.cells.lookup x=some c->c≠b)/\∀ p∈X.pn++pins,p.1≠b
theorem Inv.fpOk (I:Inv X pins σ H s) (hb:s.heap.objs.size<=b) (hn:H' b=none):FpOk X pins H' b:=by
 refine⟨hn,hC9 (hAi I.lt hb),I.nofs hb,.inr (hAs I.sz hb),fun x c e z=>?_,fun p hp z=>?_⟩
 ·obtain⟨v,q⟩:=I.cell x c e;exact absurd (hAi q.lt (by rw[z];exact hb)) (hBp _)
 ·exact absurd (hAi (Heap.lt_size (I.pin p hp).1) (by rw[z];exact hb)) (hBp _)
structure Turn (P:Program) (w:World) (K:PySem.W.Frag) (tg:Expr) (J:It) (fp:List Addr) (it:Addr) (tn:Nat->Heap->Prop):Prop where
 mem:it∈fp
 obj:∀ i h,tn i h->∀ b∈fp,∃ o,h.get? b=some o/\∀ v,o.data≠.cell v
 keep:∀ i h h',tn i h->(∀ b∈fp,∀ o,h.get? b=some o->h'.get? b=some o)->tn i h'
 item:∀ (X:Cx),X.prog=P->X.w=w->X.K=K->X.calm=true->∀ (i:Nat) (pins:List (Addr×Obj)) (s:Shared) (σ:St) (H:Hp) (E:Value->Shared->Prop),Inv X pins σ H s->(∀ b∈fp,FpOk X pins H b)->tn i s.heap->J.go i H ->
  wpAny (model P w) X.A (pyNext (.ref it)) (fun r s1=>∃ u,r=some u /\
   wpAny (model P w) X.A (letOwnedTupleGo tg (.ref it) u) (fun _ s2=>∃ x H',Inv X pins σ H' s2/\qBn x u/\J.yld i H x H'/\tn (i+1) s2.heap/\∀ b∈fp,H' b=none) E s1) E s
 done:∀ (X:Cx),X.prog=P->X.w=w->X.K=K->X.calm=true->∀ (i:Nat) (pins:List (Addr×Obj)) (s:Shared) (σ:St) (H:Hp) (E:Value->Shared->Prop),Inv X pins σ H s->(∀ b∈fp,FpOk X pins H b)->tn i s.heap->J.stop i H ->
  wpAny (model P w) X.A (pyNext (.ref it)) (fun r s1=>r=none/\Inv X pins σ H s1) E s
 self:∀ (A:Around) (i:Nat) (s:Shared) (Q:Value->Shared->Prop) (E:Value->Shared->Prop),tn i s.heap->Q (.ref it) s->wpAny (model P w) A (pyIter (.ref it)) Q E s
abbrev TI:=St->Hp->(It->Hp->Prop)->Prop
def PIE (X:Cx) (pins:List (Addr×Obj)) (σ:St) (tg:Expr) (R:It->Hp->Prop) (itv:Value) (s2:Shared):Prop :=
 ∃ (it:Addr) (fp:List Addr) (tn:Nat->Heap->Prop) (J:It) (H':Hp),itv = .ref it/\Inv X pins σ H' s2/\Turn X.prog X.w X.K tg J fp it tn/\tn 0 s2.heap/\(∀ b∈fp,FpOk X pins H' b)/\R J H'
def PI (X:Cx) (tg iter:Expr) (wi:TI):Prop :=
 ∀ (pins:List (Addr×Obj)) (s:Shared) (σ:St) (H:Hp) (R:It->Hp->Prop),Inv X pins σ H s->wi σ H R ->
  wpAny (model X.prog X.w) X.A (eval iter X.env) (fun v s1=>wpAny (model X.prog X.w) X.A (pyIter v) (PIE X pins σ tg R) X.xe s1) X.xe s
theorem go_of (ho:s.heap.get? it=some o) (hc:o.cls = .type n) (hd:o.data = .fields vs)
  (hn:["enumerate","zip","dict_itemiterator","dict_reverseitemiterator","odict_iterator","itertools.zip_longest","itertools.pairwise"].contains n=false) (hQ:Q () s):wpAny M A (letOwnedTupleGo tg (.ref it) u) Q E s:=by
 unfold letOwnedTupleGo;cases tg <;> first
  | exact wpAny_pure hQ
  | (cases u <;> first
    | exact wpAny_pure hQ
    | (refine wpAny_bind (wpAny_load ho ?_);rw[hc,hd];show wpAny M A (if (["enumerate","zip","dict_itemiterator","dict_reverseitemiterator","odict_iterator","itertools.zip_longest","itertools.pairwise"].contains n && vs[0]? == some (rawInt _))=true then _ else _) Q E s;rw[if_neg (by intro h;rw[hn,Bool.false_and]at h;cases h)];exact wpAny_pure hQ))
def Itl (K:PySem.W.Frag) (a:Addr):It :=
 ⟨fun i H=>∃ xs x,SqL K H a xs/\xs[i]?=some x,fun i H x H'=>H'=H/\∀ xs,SqL K H a xs->xs[i]?=some x,fun i H=>∃ xs,SqL K H a xs/\xs.length<=i⟩
def Itt (K:PySem.W.Frag) (a:Addr):It :=
 ⟨fun i H=>∃ xs x,SqT K H a xs/\xs[i]?=some x,fun i H x H'=>H'=H/\∀ xs,SqT K H a xs->xs[i]?=some x,fun i H=>∃ xs,SqT K H a xs/\xs.length<=i⟩
def Itr (lo:Int) (n:Nat):It:=⟨fun i _=>i<n,fun i H x H'=>H'=H/\x = .int (lo+i),fun i _=>n<=i⟩
theorem turn_list {P:Program} {w:World} {K:PySem.W.Frag} {tg:Expr} (a it:Addr):Turn P w K tg (Itl K a) [it] it (fun i h=>h.IsListIter it a i) where
 mem:=by simp
 obj:=fun i h st b hb=>by
  have e:b=it:=by simpa using hb
  subst e;obtain⟨o,e,c,d⟩:=st;exact⟨o,e,fun v z=>by rw[d]at z;cases z⟩
 keep:=fun i h h' st k=>st.at fun o e=>k it (by simp) o e
 item:=by
  intro X hP hw hK hc i pins s σ H E I hf st hg;subst hP hw hK;obtain⟨xs,x,hq,hx⟩:=hg;obtain⟨its,rv,p,hz⟩:=I.list hq;obtain⟨u,hu,ru⟩:=rv.get hx;obtain⟨f0,f1,f2,f3,f4,f5⟩:=hf it (by simp);refine wpAny_pyNext_list_item st p.isList (x:=u) (by simpa using hu) fun h' st' sb=>?_
  have I1:Inv X pins σ H { s with heap:=h' }:=I.turned (t':=s.toks) (fun b o hb e=>(sb.2 b hb).trans e) f0 f1 f3 f4 f5;obtain⟨o,e,c,d⟩:=id st';exact⟨u,rfl,go_of (s:={ s with heap:=h' }) e c d (by decide) ⟨x,H,I1,ru,⟨rfl,fun ys hy=>by rw[I.list_inj hy hq];exact hx⟩,st',fun b hb=>(hf b hb).1⟩⟩
 done:=by
  intro X hP hw hK hc i pins s σ H E I hf st hg;subst hP hw hK;obtain⟨xs,hq,hx⟩:=hg;obtain⟨its,rv,p,hz⟩:=I.list hq;obtain⟨f0,f1,f2,f3,f4,f5⟩:=hf it (by simp);have hl:=rv.length;exact wpAny_pyNext_list_end (I.ok.hd hc) st p.isList (by simp;omega) fun h' eb=>⟨rfl,I.turned (t':=s.toks) (fun b o hb e=>eb b o hb e) f0 f1 f3 f4 f5⟩
 self:=fun _ _ _ _ _ st h=>wpAny_pyIter_listiter st h
theorem turn_tuple {P:Program} {w:World} {K:PySem.W.Frag} {tg:Expr} (a it:Addr):Turn P w K tg (Itt K a) [it] it (fun i h=>h.IsTupleIter it a i) where
 mem:=by simp
 obj:=fun i h st b hb=>by
  have e:b=it:=by simpa using hb
  subst e;obtain⟨o,e,c,d⟩:=st;exact⟨o,e,fun v z=>by rw[d]at z;cases z⟩
 keep:=fun i h h' st k=>st.at fun o e=>k it (by simp) o e
 item:=by
  intro X hP hw hK hc i pins s σ H E I hf st hg;subst hP hw hK;obtain⟨xs,x,hq,hx⟩:=hg;obtain⟨its,rv,p,hz⟩:=I.tuple hq;obtain⟨u,hu,ru⟩:=rv.get hx;obtain⟨f0,f1,f2,f3,f4,f5⟩:=hf it (by simp);refine wpAny_pyNext_tuple_item st (show s.heap.IsTuple a its.toArray from p) (x:=u) (by simpa using hu) fun h' st' sb=>?_
  have I1:Inv X pins σ H { s with heap:=h' }:=I.turned (t':=s.toks) (fun b o hb e=>(sb.2 b hb).trans e) f0 f1 f3 f4 f5;obtain⟨o,e,c,d⟩:=id st';exact⟨u,rfl,go_of (s:={ s with heap:=h' }) e c d (by decide) ⟨x,H,I1,ru,⟨rfl,fun ys hy=>by rw[I.tuple_inj hy hq];exact hx⟩,st',fun b hb=>(hf b hb).1⟩⟩
 done:=by
  intro X hP hw hK hc i pins s σ H E I hf st hg;subst hP hw hK;obtain⟨xs,hq,hx⟩:=hg;obtain⟨its,rv,p,hz⟩:=I.tuple hq;obtain⟨f0,f1,f2,f3,f4,f5⟩:=hf it (by simp);have hl:=rv.length;exact wpAny_pyNext_tuple_end (I.ok.hd hc) st (show s.heap.IsTuple a its.toArray from p) (by simp;omega) fun h' eb=>⟨rfl,I.turned (t':=s.toks) (fun b o hb e=>eb b o hb e) f0 f1 f3 f4 f5⟩
 self:=fun _ _ _ _ _ st h=>wpAny_pyIter_tupleiter st h
theorem turn_range {P:Program} {w:World} {K:PySem.W.Frag} {tg:Expr} (it:Addr) (lo:Int) (n:Nat):Turn P w K tg (Itr lo n) [it] it (fun i h=>IsRangeIter h it (lo+(i:Nat)*1) ((n:Int) - (i:Nat)) 1) where
 mem:=by simp
 obj:=fun i h st b hb=>by
  have e:b=it:=by simpa using hb
  subst e;exact⟨_,st,fun v z=>by
   have z':Data.fields _=Data.cell v:=z;cases z'⟩
 keep:=fun i h h' st k=>k it (by simp) _ st
 item:=by
  intro X hP hw hK hc i pins s σ H E I hf st hg;subst hP hw hK;obtain⟨f0,f1,f2,f3,f4,f5⟩:=hf it (by simp);have W:=Walks.range (prog:=X.prog) (w:=X.w) (I.ok.hd hc) it lo 1 n;refine W.item i s _ _ hg st fun v h' tk hv st' kk=>?_
  obtain⟨t,rfl⟩:=hv;have I1:Inv X pins σ H { s with heap:=h',toks:=tk }:=I.turned (fun b o hb e=>kk b o (by simpa using hb) e) f0 f1 f3 f4 f5;refine⟨_,rfl,go_of (s:={ s with heap:=h',toks:=tk }) (n:="range_iterator") st' rfl rfl (by decide) ⟨.int (lo+i),H,I1,⟨t,?_⟩,⟨rfl,rfl⟩,st',fun b hb=>(hf b hb).1⟩⟩;rw[Int.mul_one]
 done:=by
  intro X hP hw hK hc i pins s σ H E I hf st hg;subst hP hw hK;obtain⟨f0,f1,f2,f3,f4,f5⟩:=hf it (by simp);exact wpAny_pyNext_range_end (I.ok.hd hc) st (by have:n<=i:=hg;omega) fun h' eb=>⟨rfl,I.turned (t':=s.toks) (fun b o hb e=>eb b o hb e) f0 f1 f3 f4 f5⟩
 self:=fun _ _ _ _ _ st h=>wpAny_pyIter_rangeiter st h
end L2
namespace L2
open PySem PySem.Spec PyProof.Rows
section
variable {X:Cx} {tg:Expr}
def iList (K:PySem.W.Frag) (tl:TE):TI:=fun σ H R=>tl σ H fun x H1=>∃ a,x = .ref a/\(∃ xs,SqL K H1 a xs)/\R (Itl K a) H1
def iTup (K:PySem.W.Frag) (tl:TE):TI:=fun σ H R=>tl σ H fun x H1=>∃ a,x = .ref a/\(∃ xs,SqT K H1 a xs)/\R (Itt K a) H1
theorem qAv {l:Expr} {tl:TE} (hl:PE X l tl):PI X tg l (iList X.K tl):=by
 intro pins s σ H R I h;refine thn (hl pins s σ H _ I h) fun v s1 ⟨x,H1,I1,r1,q1⟩=>?_
 obtain⟨a,e,⟨xs,hq⟩,q⟩:=q1;subst e;cases r1;obtain⟨its,rv,p,hz⟩:=I1.list hq;refine wpAny_pyIter_list p.isList ?_;refine⟨s1.heap.objs.size,[s1.heap.objs.size],_,_,H1,rfl,I1.kept (t':=s1.toks) fun b o e=>Heap.get?_push_of_some _ e,turn_list a _,⟨_,Heap.get?_push_size _ rfl,rfl,rfl⟩,fun b hb=>?_,q⟩;have e:b=s1.heap.objs.size:=by simpa using hb
 subst e;exact I1.fpOk (hA5 _) (I1.hok.fresh (hA5 _))
theorem pi_tup {l:Expr} {tl:TE} (hl:PE X l tl):PI X tg l (iTup X.K tl):=by
 intro pins s σ H R I h;refine thn (hl pins s σ H _ I h) fun v s1 ⟨x,H1,I1,r1,q1⟩=>?_
 obtain⟨a,e,⟨xs,hq⟩,q⟩:=q1;subst e;cases r1;obtain⟨its,rv,p,hz⟩:=I1.tuple hq;refine wpAny_pyIter_tuple (show s1.heap.IsTuple a its.toArray from p) ?_;refine⟨s1.heap.objs.size,[s1.heap.objs.size],_,_,H1,rfl,I1.kept (t':=s1.toks) fun b o e=>Heap.get?_push_of_some _ e,turn_tuple a _,⟨_,Heap.get?_push_size _ rfl,rfl,rfl⟩,fun b hb=>?_,q⟩;have e:b=s1.heap.objs.size:=by simpa using hb
 subst e;exact I1.fpOk (hA5 _) (I1.hok.fresh (hA5 _))
theorem range_it {pins:List (Addr×Obj)} {σ:St} {H:Hp} {s:Shared} {R:It->Hp->Prop} {E:Value->Shared->Prop} {lo hi:Int} {t u v:Tok} {tk:Nat} (I:Inv X pins σ H s) (h1:-(2^62)<=lo) (h2:lo<2^62) (h3:-(2^62)<=hi) (h4:hi<2^62)
  (q:R (Itr lo (hi - lo).toNat) H):wpAny (model X.prog X.w) X.A (pyIter (.ref s.heap.objs.size)) (PIE X pins σ tg R) E { s with heap:=s.heap.push { cls:=.type "range",data:=.fields #[.int lo t,.int hi u,.int 1 v] },toks:=tk }:=by
 refine wpAny_pyIter_range (IsRange.new ..) (small_one h1 h2 h3 h4) ?_;have I1:Inv X pins σ H { s with heap:=s.heap.push { cls:=.type "range",data:=.fields #[.int lo t,.int hi u,.int 1 v] },toks:=tk }:=I.kept fun b o e=>Heap.get?_push_of_some _ e
 refine⟨(s.heap.push { cls:=.type "range",data:=.fields #[.int lo t,.int hi u,.int 1 v] }).objs.size,[(s.heap.push { cls:=.type "range",data:=.fields #[.int lo t,.int hi u,.int 1 v] }).objs.size],_,_,H,rfl,
  I1.kept (t':=tk) fun b o e=>Heap.get?_push_of_some _ e,turn_range _ lo (hi - lo).toNat,?_,fun b hb=>?_,q⟩
 ·have e1:lo+((0:Nat):Int)*1=lo:=by simp
  have e2:(((hi - lo).toNat:Nat):Int) - ((0:Nat):Int)=Builtin.Range.rangeSize lo hi 1:=by rw[rangeSize_one];split <;> omega
  show IsRangeIter _ _ (lo+((0:Nat):Int)*1) ((((hi - lo).toNat:Nat):Int) - ((0:Nat):Int)) 1;rw[e1,e2];exact Heap.get?_push_size _ rfl
 ·have e:b=(s.heap.push { cls:=.type "range",data:=.fields #[.int lo t,.int hi u,.int 1 v] }).objs.size:=by simpa using hb
  subst e;exact I1.fpOk (hA5 _) (I1.hok.fresh (hA5 _))
def iRng1 (ta:TA):TI:=fun σ H R=>ta σ H fun vs H1=>∃ j:Int,vs=[.int j]/\-(2^62)<=j/\j<2^62/\R (Itr 0 j.toNat) H1
theorem qB2 {a:Expr} {ta:TA} {p pos:Pos} (hg:Gl X "range") (hm:X.mg "range" = none) (ha:PA X [a] ta) (hs:starEach [a] X.env=[(false,eval a X.env)]:=by rfl):PI X tg (.Call (.Name "range" p) [a] [] pos) (iRng1 ta):=by
 intro pins s σ H R I h;refine Call_ (qEx I hg hm boot_range (hCp (thn (ha pos pins s σ H _ I h) fun us s1 ⟨vs,H1,I1,r1,q1⟩=>?_) hs rfl));obtain⟨j,e,q1,q2,q⟩:=q1;subst e;cases r1 with
 | cons r rr =>
  cases rr;obtain⟨t,rfl⟩:=r;exact call_range_1 (range_it I1 (by omega) (by omega) q1 q2 (by simpa using q))
def tFor (wi:TI) (g:TG) (tb:TS):TS:=fun D σ H=>wi σ H fun J H1=>∃ W:Nat->Nat->St->Hp->Prop,(∃ m,W 0 m σ H1)/\∀ i m σ H,W i m σ H ->
 (J.stop i H/\D.nx σ H)\/(J.go i H/\∃ N:St->Hp->Prop,(∀ σ' H',N σ' H'->∃ m',m'<m/\W (i+1) m' σ' H')/\∀ x H',J.yld i H x H'->g x σ H' fun σ2 H2=>tb { D with nx:=N,ct:=N,bk:=D.nx } σ2 H2)
def pinsAt (fp:List Addr) (h:Heap):List (Addr×Obj):=fp.filterMap fun b=>(h.get? b).map fun o=>(b,o)
theorem qBr (hb:b∈fp) (e:h.get? b=some o):(b,o)∈pinsAt fp h:=List.mem_filterMap.mpr ⟨b,hb,by rw[e];rfl⟩
theorem of_pinsAt (hp:p∈pinsAt fp h):p.1∈fp/\h.get? p.1=some p.2:=by
 obtain⟨b,hb,e⟩:=List.mem_filterMap.mp hp;cases q:h.get? b with
 | none=>rw[q]at e;cases e
 | some o =>
  rw[q]at e;have e':(b,o)=p:=hAv e;subst e';exact⟨hb,q⟩
theorem Inv.pinned (I:Inv X pins σ H s) (hf:∀ b∈fp,FpOk X pins H b) (ho:∀ b∈fp,∃ o,s.heap.get? b=some o/\∀ v,o.data≠.cell v):Inv X (pins++pinsAt fp s.heap) σ H s :=
 I.pins_of fun p hp=>(hAe.mp hp).elim (fun z=>I.pin p (hA6 _ z)) fun z=>by
  obtain⟨hb,e⟩:=of_pinsAt z;obtain⟨f0,f1,f2,_⟩:=hf p.1 hb;obtain⟨o,e',d⟩:=ho p.1 hb;rw[e]at e';cases e';exact⟨e,f0,f1,f2,d⟩
theorem Inv.unpinned (I:Inv X (pins++pl) σ H s):Inv X pins σ H s:=I.pins_of fun p hp=>I.pin p (hA6 _ (hAn _ hp))
theorem qB6 (hp:PassesOwn (model X.prog X.w) X.A X.env X.xe) (hc:X.calm=true) (hi:PI X tg iter wi) (hg:PG X tg g) (hb:PSs X body tb)
  (hs:∀ x,foldedSetIterable iter X.env x=pure x:=by intro _;rfl):PS X (.For tg iter body [] pos) (tFor wi g tb):=by
 intro pins s σ H D I h;refine wpAny_For (thn (hi pins s σ H _ I h) fun v s1 h1=>thn h1 fun itv s2 h2=>?_) hs;obtain⟨it,fp,tn,J,H2,e,I2,T,st2,f2,W,⟨m0,w0⟩,turn⟩:=h2;subst e;have stat:∀ {H':Hp},(∀ b∈fp,H' b=none)->∀ b∈fp,FpOk X pins H' b:=fun hn b hb=>⟨hn b hb,(f2 b hb).2⟩
 refine codeAny_forLoop_any (fun n s'=>∃ i σ' H',Inv X pins σ' H' s'/\tn i s'.heap/\(∀ b∈fp,H' b=none)/\W i n σ' H') ?_ m0 ⟨0,σ,H2,I2,st2,fun b hb=>(f2 b hb).1,w0⟩;rintro n s3 ⟨i,σ3,H3,I3,st3,fr3,w3⟩;rcases turn i n σ3 H3 w3 with ⟨stop,qn⟩ | ⟨go,N,hN,step⟩
 ·refine wpAny_passesOwn hp (thn (T.done X rfl rfl rfl hc i pins s3 σ3 H3 X.xe I3 (stat fr3) st3 stop) fun r s4 ⟨hr,I4⟩=>?_);subst hr;exact wpAny_execs_nil ⟨σ3,H3,I4,qn⟩
 ·refine wpAny_passesOwn hp (thn (T.item X rfl rfl rfl hc i pins s3 σ3 H3 X.xe I3 (stat fr3) st3 go) fun r s4 ⟨u,hr,h4⟩=>?_);subst hr;refine wpAny_passesOwn hp (thn h4 fun _ s5 ⟨x,H5,I5,r5,y5,st5,fr5⟩=>?_);have I5':=I5.pinned (stat fr5) (T.obj _ _ st5);refine wpAny_passesOwn hp (thn (hg _ s5 σ3 H5 x u _ I5' r5 (step x H5 y5)) fun _ s6 ⟨σ6,H6,I6,q6⟩=>?_);refine wpAny_passesOwn hp (thn (hb _ s6 σ6 H6 _ I6 q6) fun f s7 q7=>?_);have again:∀ {σ7:St} {H7:Hp},Inv X (pins++pinsAt fp s5.heap) σ7 H7 s7->N σ7 H7->∃ m,m<n/\∃ i σ' H',Inv X pins σ' H' s7/\tn i s7.heap/\(∀ b∈fp,H' b=none)/\W i m σ' H':=fun {σ7 H7} I7 n7=>by
   obtain⟨m',hm,w7⟩:=hN σ7 H7 n7;refine⟨m',hm,i+1,σ7,H7,I7.unpinned,T.keep _ _ _ st5 fun b hb o e=>(I7.pin (b,o) (hA6 _ (hA6 _ (qBr hb e)))).1,fun b hb=>?_,w7⟩;obtain⟨o,e,d⟩:=T.obj _ _ st5 b hb;exact(I7.pin (b,o) (hA6 _ (hA6 _ (qBr hb e)))).2.1
  cases f with
  | next=>obtain⟨σ7,H7,I7,n7⟩:=q7;exact again I7 n7
  | cont=>obtain⟨σ7,H7,I7,n7⟩:=q7;exact again I7 n7
  | brk=>obtain⟨σ7,H7,I7,q7⟩:=q7;exact⟨σ7,H7,I7.unpinned,q7⟩
  | ret v=>obtain⟨x7,σ7,H7,I7,r7,q7⟩:=q7;exact⟨x7,σ7,H7,I7.unpinned,r7,q7⟩
end
theorem qCi {K:PySem.W.Frag} {a:Addr} {xs:List V} {g:TG} {tb:TS} {D:Ends} {σ:St} {H:Hp} (Pv:Nat->St->Hp->Prop) (h0:Pv 0 σ H) (hl:∀ i σ H,i<=xs.length->Pv i σ H->SqL K H a xs)
  (hs:∀ i x σ H,xs[i]?=some x->Pv i σ H->g x σ H fun σ2 H2=>tb { D with nx:=Pv (i+1),ct:=Pv (i+1),bk:=D.nx } σ2 H2) (hd:∀ σ H,Pv xs.length σ H->D.nx σ H) :
  ∃ W:Nat->Nat->St->Hp->Prop,(∃ m,W 0 m σ H)/\∀ i m σ H,W i m σ H ->
   ((Itl K a).stop i H/\D.nx σ H)\/((Itl K a).go i H/\∃ N:St->Hp->Prop,(∀ σ' H',N σ' H'->∃ m',m'<m/\W (i+1) m' σ' H')/\∀ x H',(Itl K a).yld i H x H'->g x σ H' fun σ2 H2=>tb { D with nx:=N,ct:=N,bk:=D.nx } σ2 H2):=by
 refine⟨fun i m σ H=>m=xs.length - i/\i<=xs.length/\Pv i σ H,⟨xs.length,by simp,hAq _,h0⟩,?_⟩;rintro i m σ H ⟨rfl,hi,p⟩;have q:=hl i σ H hi p;by_cases hlt:i<xs.length
 ·refine .inr ⟨⟨xs,xs[i],q,by simp[hlt]⟩,Pv (i+1),fun σ' H' p'=>⟨xs.length - (i+1),by omega,rfl,hlt,p'⟩,fun x H' y=>?_⟩;obtain⟨e,y⟩:=y;subst e;exact hs i x σ _ (y xs q) p
 ·have e:i=xs.length:=by omega
  subst e;exact .inl ⟨⟨xs,q,hA5 _⟩,hd σ H p⟩
theorem qCh {lo:Int} {n:Nat} {g:TG} {tb:TS} {D:Ends} {σ:St} {H:Hp} (Pv:Nat->St->Hp->Prop) (h0:Pv 0 σ H)
  (hs:∀ i σ H,i<n->Pv i σ H->g (.int (lo+i)) σ H fun σ2 H2=>tb { D with nx:=Pv (i+1),ct:=Pv (i+1),bk:=D.nx } σ2 H2) (hd:∀ σ H,Pv n σ H->D.nx σ H) :
  ∃ W:Nat->Nat->St->Hp->Prop,(∃ m,W 0 m σ H)/\∀ i m σ H,W i m σ H ->
   ((Itr lo n).stop i H/\D.nx σ H)\/((Itr lo n).go i H/\∃ N:St->Hp->Prop,(∀ σ' H',N σ' H'->∃ m',m'<m/\W (i+1) m' σ' H')/\∀ x H',(Itr lo n).yld i H x H'->g x σ H' fun σ2 H2=>tb { D with nx:=N,ct:=N,bk:=D.nx } σ2 H2):=by
 refine⟨fun i m σ H=>m=n - i/\i<=n/\Pv i σ H,⟨n,by simp,hAq _,h0⟩,?_⟩;rintro i m σ H ⟨rfl,hi,p⟩;by_cases hlt:i<n
 ·refine .inr ⟨hlt,Pv (i+1),fun σ' H' p'=>⟨n - (i+1),by omega,rfl,hlt,p'⟩,fun x H' y=>?_⟩;obtain⟨e,y⟩:=y;subst e y;exact hs i σ _ hlt p
 ·have e:i=n:=by omega
  subst e;exact .inl ⟨hA5 _,hd σ H p⟩
end L2
namespace L2
open PySem PySem.Spec PyProof.Rows
abbrev R2:=V->V->Hp->VK->Prop
def OpR (X:Cx) (f:Value->Value->Sem Value) (r:R2):Prop :=
 ∀ (pins:List (Addr×Obj)) (s:Shared) (σ:St) (H:Hp) (x y:V) (v u:Value) (Q:VK),Inv X pins σ H s->qBn x v->qBn y u->r x y H Q ->
  wpAny (model X.prog X.w) X.A (f v u) (EP X pins σ Q) X.xe s
def qA6 (X:Cx) (f:Value) (r:List V->Hp->VK->Prop):Prop :=
 ∀ (pins:List (Addr×Obj)) (s:Shared) (σ:St) (H:Hp) (xs:List V) (us:List Value) (Q:VK),Inv X pins σ H s->qBa xs us->r xs H Q ->
  wpAny (model X.prog X.w) X.A (call f us) (EP X pins σ Q) X.xe s
def TruR (X:Cx) (r:V->Hp->(Bool->Hp->Prop)->Prop):Prop :=
 ∀ (pins:List (Addr×Obj)) (s:Shared) (σ:St) (H:Hp) (x:V) (v:Value) (Q:Bool->Hp->Prop),Inv X pins σ H s->qBn x v->r x H Q ->
  wpAny (model X.prog X.w) X.A (truthy v) (TP X pins σ Q) X.xe s
def tOp (r:R2) (ta tb:TE):TE:=fun σ H Q=>ta σ H fun x H1=>tb σ H1 fun y H2=>r x y H2 Q
def rI (C:Int->Int->Prop) (g:Int->Int->V):R2:=fun x y H Q=>∃ i j,x = .int i/\y = .int j/\C i j/\Q (g i j) H
def rI0 (g:Int->Int->V):R2:=fun x y H Q=>∃ i j,x = .int i/\y = .int j/\Q (g i j) H
section
variable {X:Cx} {a b c:Expr} {ta tb tc:TE} {pos:Pos}
theorem binT (ha:PE X a ta) (hb:PE X b tb) {pins:List (Addr×Obj)} {s:Shared} {σ:St} {H:Hp} {R:V->V->Hp->Prop} (I:Inv X pins σ H s)
  (h:ta σ H fun x H1=>tb σ H1 fun y H2=>R x y H2) {Q:Value->Shared->Prop} {f:Value->Value->Sem Value}
  (hf:∀ v u s2 x y H2,Inv X pins σ H2 s2->qBn x v->qBn y u->R x y H2->wpAny (model X.prog X.w) X.A (f v u) Q X.xe s2) :
  wpAny (model X.prog X.w) X.A (eval a X.env) (fun v s₁=>wpAny (model X.prog X.w) X.A (eval b X.env) (fun u s₂=>wpAny (model X.prog X.w) X.A (f v u) Q X.xe s₂) X.xe s₁) X.xe s:=by
 refine thn (ha pins s σ H _ I h) fun v s1 ⟨x,H1,I1,r1,q1⟩=>?_
 refine thn (hb pins s1 σ H1 _ I1 q1) fun u s2 ⟨y,H2,I2,r2,q2⟩=>?_
 exact hf v u s2 x y H2 I2 r1 r2 q2
theorem qAk {op:Operator} {r:R2} (ho:OpR X (binaryOp op) r) (ha:PE X a ta) (hb:PE X b tb):PE X (.BinOp a op b pos) (tOp r ta tb):=by
 intro pins s σ H Q I h;exact wpAny_BinOp (binT ha hb I h fun v u s2 x y H2 I2 rx ry q=>ho pins s2 σ H2 x y v u Q I2 rx ry q)
theorem opI {f:Value->Value->Sem Value} {C:Int->Int->Prop} {g:Int->Int->Int}
  (rule:∀ (i j:Int) (t u:Tok) (s:Shared) (Q:Value->Shared->Prop) (E:Value->Shared->Prop),C i j->Q (.int (g i j) s.toks) { s with toks:=s.toks+1 }->wpAny (model X.prog X.w) X.A (f (.int i t) (.int j u)) Q E s) :
  OpR X f (rI C fun i j=>.int (g i j)):=by
 intro pins s σ H x y v u Q I rx ry h;obtain⟨i,j,rfl,rfl,hc,q⟩:=h;obtain⟨t,rfl⟩:=rx;obtain⟨t',rfl⟩:=ry;exact rule i j t t' s _ _ hc ⟨.int (g i j),H,I.tok _,⟨_,rfl⟩,q⟩
theorem opI0 {f:Value->Value->Sem Value} {g:Int->Int->Int}
  (rule:∀ (i j:Int) (t u:Tok) (s:Shared) (Q:Value->Shared->Prop) (E:Value->Shared->Prop),Q (.int (g i j) s.toks) { s with toks:=s.toks+1 }->wpAny (model X.prog X.w) X.A (f (.int i t) (.int j u)) Q E s) :
  OpR X f (rI0 fun i j=>.int (g i j)):=by
 intro pins s σ H x y v u Q I rx ry h;obtain⟨i,j,rfl,rfl,q⟩:=h;obtain⟨t,rfl⟩:=rx;obtain⟨t',rfl⟩:=ry;exact rule i j t t' s _ _ ⟨.int (g i j),H,I.tok _,⟨_,rfl⟩,q⟩
theorem opB0 {f:Value->Value->Sem Value} {g:Int->Int->Bool}
  (rule:∀ (i j:Int) (t u:Tok) (s:Shared) (Q:Value->Shared->Prop) (E:Value->Shared->Prop),Q (.bool (g i j)) s->wpAny (model X.prog X.w) X.A (f (.int i t) (.int j u)) Q E s) :
  OpR X f (rI0 fun i j=>.bl (g i j)):=by
 intro pins s σ H x y v u Q I rx ry h;obtain⟨i,j,rfl,rfl,q⟩:=h;obtain⟨t,rfl⟩:=rx;obtain⟨t',rfl⟩:=ry;exact rule i j t t' s _ _ ⟨.bl (g i j),H,I,rfl,q⟩
def CDiv (i j:Int):Prop:=0<j/\j<1073741824
def CPow (i j:Int):Prop:=0<=j/\j<=1000000/\i.natAbs<2^64
def CMul (i j:Int):Prop:=(-(2^64)<i/\i<2^64)\/(-(2^64)<j/\j<2^64)
theorem CMul.ok (h:CMul i j):IntMulOk i j:=by
 rcases h with ⟨h1,h2⟩ | ⟨h1,h2⟩
 ·exact .of_left (intBits_le_64 h1 h2)
 ·exact .of_right (intBits_le_64 h1 h2)
theorem two_pow_nn (k:Nat):(0:Int)<=2^k:=by
 rw[two_pow_cast];exact Int.natCast_nonneg _
theorem qBw:OpR X (binaryOp .Add) (rI0 fun i j=>.int (i+j)):=opI0 fun _ _ _ _ _ _ _ q=>add_int q
theorem op_sub:OpR X (binaryOp .Sub) (rI0 fun i j=>.int (i - j)):=opI0 fun _ _ _ _ _ _ _ q=>sub_int q
theorem qDx:OpR X (binaryOp .Mult) (rI CMul fun i j=>.int (i*j)):=opI fun _ _ _ _ _ _ _ hc q=>mul_int q hc.ok
theorem qBd:OpR X (binaryOp .FloorDiv) (rI CDiv fun i j=>.int (i / j)):=opI fun i j _ _ _ _ _ hc q=>by
 have h1:(0:Int)<j:=hc.1;have h2:j<1073741824:=hc.2;exact floordiv_int (by omega) (by rw[Int.fdiv_eq_ediv_of_nonneg i (by omega)];exact q) (.inl (PyProof.noPylong_small (by omega)))
theorem qBe:OpR X (binaryOp .Mod) (rI (fun _ j=>0<j) fun i j=>.int (i % j)):=opI fun i j _ _ _ _ _ hc q=>by
 have h1:(0:Int)<j:=hc;exact mod_int' (by omega) (by rw[Int.fmod_eq_emod_of_nonneg i (by omega)];exact q)
theorem op_pow:OpR X (binaryOp .Pow) (rI CPow fun i j=>.int (i^j.toNat)):=opI fun _ _ _ _ _ _ _ hc q=>pow_int_small hc.1 hc.2.1 hc.2.2 q
theorem op_shl:OpR X (binaryOp .LShift) (rI CPow fun i j=>.int (i*2^j.toNat)):=opI fun _ _ _ _ _ _ _ hc q=>lshift_int_small hc.1 hc.2.1 hc.2.2 q
theorem op_shr:OpR X (binaryOp .RShift) (rI (fun _ j=>0<=j) fun i j=>.int (i / 2^j.toNat)):=opI fun i j _ _ _ _ _ hc q =>
 rshift_int hc (by rw[Int.fdiv_eq_ediv_of_nonneg i (two_pow_nn _)];exact q)
theorem op_and:OpR X (binaryOp .BitAnd) (rI0 fun i j=>.int (Builtin.bitAnd i j)):=opI0 fun _ _ _ _ _ _ _ q=>and_int q
theorem op_xor:OpR X (binaryOp .BitXor) (rI0 fun i j=>.int (Builtin.bitXor i j)):=opI0 fun _ _ _ _ _ _ _ q=>xor_int q
end
def scal:V->V->Bool
 | .non,.non=>true | .non,.int _=>true | .int _,.non=>true | .non,.bl _=>true | .bl _,.non=>true | .non,.str _=>true | .str _,.non=>true
 | .int _,.int _=>true | .bl _,.bl _=>true | .str _,.str _=>true | .byt _,.byt _=>true
 | .int _,.str _=>true | .str _,.int _=>true | .bl _,.str _=>true | .str _,.bl _=>true
 | _,_=>false
def rEq:R2:=fun x y H Q=>scal x y=true/\Q (.bl (decide (x=y))) H
def rNe:R2:=fun x y H Q=>scal x y=true/\Q (.bl (!decide (x=y))) H
theorem dec_int:decide (V.int i=V.int j)=(i == j):=by
 rw[hDa];simp
theorem dec_bl:decide (V.bl i=V.bl j)=(i == j):=by
 rw[hDa];simp
theorem dec_str:decide (V.str i=V.str j)=(i == j):=by
 rw[hDa];simp
theorem dec_byt:decide (V.byt i=V.byt j)=(i.toList == j.toList):=by
 rw[hDa];cases i;cases j;simp
section
variable {X:Cx} {a b c:Expr} {ta tb tc:TE} {pos:Pos}
theorem fin_bl (I:Inv X pins σ H s) (q:Q (.bl k) H) (e:k=k'):EP X pins σ Q (.bool k') s:=by
 subst e;exact⟨.bl k,H,I,rfl,q⟩
theorem qCs:OpR X (compareOp .Eq) rEq:=by
 intro pins s σ H x y v u Q I rx ry h;obtain⟨hs,q⟩:=h;cases x with
 | non =>
  cases rx;cases y with
  | non=>cases ry;exact PySem.EqNone.eq_none_none (fin_bl I q (by simp))
  | bl j=>cases ry;exact PySem.EqNone.eq_none_bool (fin_bl I q (by simp))
  | int j=>obtain⟨t',rfl⟩:=ry;exact PySem.EqNone.eq_none_int (fin_bl I q (by simp))
  | str j=>obtain⟨t',rfl⟩:=ry;exact PySem.EqNone.eq_none_str (fin_bl I q (by simp))
  | _=>exact absurd (show false=true from hs) hAo
 | bl i =>
  cases rx;cases y with
  | non=>cases ry;exact PySem.EqNone.eq_bool_none (fin_bl I q (by simp))
  | bl j=>cases ry;exact eq_bool (fin_bl I q dec_bl)
  | str j=>obtain⟨t',rfl⟩:=ry;exact PySem.EqMixed.eq_bool_str (fin_bl I q (by simp))
  | _=>exact absurd (show false=true from hs) hAo
 | int i =>
  obtain⟨t,rfl⟩:=rx;cases y with
  | non=>cases ry;exact PySem.EqNone.eq_int_none (fin_bl I q (by simp))
  | int j=>obtain⟨t',rfl⟩:=ry;exact eq_int (fin_bl I q dec_int)
  | str j=>obtain⟨t',rfl⟩:=ry;exact PySem.EqMixed.eq_int_str (fin_bl I q (by simp))
  | _=>exact absurd (show false=true from hs) hAo
 | str i =>
  obtain⟨t,rfl⟩:=rx;cases y with
  | non=>cases ry;exact PySem.EqNone.eq_str_none (fin_bl I q (by simp))
  | bl j=>cases ry;exact PySem.EqMixed.eq_str_bool (fin_bl I q (by simp))
  | int j=>obtain⟨t',rfl⟩:=ry;exact PySem.EqMixed.eq_str_int (fin_bl I q (by simp))
  | str j=>obtain⟨t',rfl⟩:=ry;exact eq_str (fin_bl I q dec_str)
  | _=>exact absurd (show false=true from hs) hAo
 | byt i =>
  obtain⟨t,rfl⟩:=rx;cases y with
  | byt j=>obtain⟨t',rfl⟩:=ry;exact PySem.W.eq_bytes (fin_bl I q dec_byt)
  | _=>exact absurd (show false=true from hs) hAo
 | _=>cases y <;> exact absurd (show false=true from hs) hAo
theorem op_ne:OpR X (compareOp .NotEq) rNe:=by
 intro pins s σ H x y v u Q I rx ry h;obtain⟨hs,q⟩:=h;cases x with
 | non =>
  cases rx;cases y with
  | non=>cases ry;exact PySem.EqNone.ne_none_none (fin_bl I q (by simp))
  | bl j=>cases ry;exact PySem.EqNone.ne_none_bool (fin_bl I q (by simp))
  | int j=>obtain⟨t',rfl⟩:=ry;exact PySem.EqNone.ne_none_int (fin_bl I q (by simp))
  | str j=>obtain⟨t',rfl⟩:=ry;exact PySem.EqNone.ne_none_str (fin_bl I q (by simp))
  | _=>exact absurd (show false=true from hs) hAo
 | bl i =>
  cases rx;cases y with
  | non=>cases ry;exact PySem.EqNone.ne_bool_none (fin_bl I q (by simp))
  | bl j=>cases ry;exact ne_bool (fin_bl I q (congrArg not dec_bl))
  | str j=>obtain⟨t',rfl⟩:=ry;exact PySem.EqMixed.ne_bool_str (fin_bl I q (by simp))
  | _=>exact absurd (show false=true from hs) hAo
 | int i =>
  obtain⟨t,rfl⟩:=rx;cases y with
  | non=>cases ry;exact PySem.EqNone.ne_int_none (fin_bl I q (by simp))
  | int j=>obtain⟨t',rfl⟩:=ry;exact ne_int (fin_bl I q (congrArg not dec_int))
  | str j=>obtain⟨t',rfl⟩:=ry;exact PySem.EqMixed.ne_int_str (fin_bl I q (by simp))
  | _=>exact absurd (show false=true from hs) hAo
 | str i =>
  obtain⟨t,rfl⟩:=rx;cases y with
  | non=>cases ry;exact PySem.EqNone.ne_str_none (fin_bl I q (by simp))
  | bl j=>cases ry;exact PySem.EqMixed.ne_str_bool (fin_bl I q (by simp))
  | int j=>obtain⟨t',rfl⟩:=ry;exact PySem.EqMixed.ne_str_int (fin_bl I q (by simp))
  | str j=>obtain⟨t',rfl⟩:=ry;exact ne_str (fin_bl I q (congrArg not dec_str))
  | _=>exact absurd (show false=true from hs) hAo
 | byt i =>
  obtain⟨t,rfl⟩:=rx;cases y with
  | byt j=>obtain⟨t',rfl⟩:=ry;exact PySem.W.ne_bytes (fin_bl I q (congrArg not dec_byt))
  | _=>exact absurd (show false=true from hs) hAo
 | _=>cases y <;> exact absurd (show false=true from hs) hAo
theorem op_lt:OpR X (compareOp .Lt) (rI0 fun i j=>.bl (decide (i<j))):=opB0 fun _ _ _ _ _ _ _ q=>lt_int q
theorem op_gt:OpR X (compareOp .Gt) (rI0 fun i j=>.bl (decide (j<i))):=opB0 fun _ _ _ _ _ _ _ q=>gt_int q
theorem op_ge:OpR X (compareOp .GtE) (rI0 fun i j=>.bl (decide (j<=i))):=opB0 fun _ _ _ _ _ _ _ q=>ge_int q
theorem op_isN:OpR X (compareOp .Is) (fun x y H Q=>y = .non/\Q (.bl (decide (x = .non))) H):=by
 intro pins s σ H x y v u Q I rx ry h;obtain⟨rfl,q⟩:=h;cases ry;refine is_none_gen (fin_bl I q ?_);cases x <;> first
  | (cases rx;rfl)
  | (obtain⟨t,rfl⟩:=rx;rfl)
theorem qAw (b:Expr) (h:op≠.In:=by decide) (h2:op≠.NotIn:=by decide):behindInMarks op b=false:=by
 have e1:(op == CmpOp.In)=false:=by cases op <;> first | rfl | exact absurd rfl h
 have e2:(op == CmpOp.NotIn)=false:=by cases op <;> first | rfl | exact absurd rfl h2
 cases b <;> simp[behindInMarks,e1,e2]
theorem qCr {op:CmpOp} {r:R2} (ho:OpR X (compareOp op) r) (ha:PE X a ta) (hb:PE X b tb) (hm:behindInMarks op b=false):PE X (.Compare a [op] [b] pos) (tOp r ta tb):=by
 intro pins s σ H Q I h;exact wpAny_Compare1 (binT ha hb I h fun v u s2 x y H2 I2 rx ry q=>ho pins s2 σ H2 x y v u Q I2 rx ry q) hm
def tTest (t:TE):TT:=fun σ H Q=>t σ H fun x H'=>∃ k,x = .bl k/\Q k H'
theorem qAp (ho:OpR X (compareOp op) r) (ha:PE X a ta) (hb:PE X b tb) (hm:behindInMarks op b=false):PT X (.Compare a [op] [b] pos) (tTest (tOp r ta tb)):=by
 intro pins s σ H Q I h;refine wpAny_isTrue_Compare1 (thn (ha pins s σ H _ I h) fun v s1 ⟨x,H1,I1,r1,q1⟩=>thn (hb pins s1 σ H1 _ I1 q1) fun u s2 ⟨y,H2,I2,r2,q2⟩ =>
  thn (ho pins s2 σ H2 x y v u _ I2 r1 r2 q2) fun c s3 ⟨z,H3,I3,r3,k,e,q3⟩=>?_) hm
 subst e;cases r3;exact wpAny_truthy_bool ⟨H3,I3,q3⟩
def TruV (K:PySem.W.Frag) (x:V) (H:Hp) (k:Bool):Prop :=
 match x with
 | .non=>k=false
 | .bl b=>k=b
 | .int i=>k=(i != 0)
 | .str y=>y.length<=sizeLine/\k=((y.length:Int) != 0)
 | .byt y=>y.size<=sizeLine/\k=((y.size:Int) != 0)
 | .ref p=>(∃ xs,SqL K H p xs/\k=!xs.isEmpty)\/(∃ xs,SqT K H p xs/\k=!xs.isEmpty)\/∃ kvs,H p=some (.dK kvs)/\k=!kvs.isEmpty
 | _=>False
theorem isEmpty_kv (r:KV kvs vs):(!vs.isEmpty)=!kvs.isEmpty:=by
 cases r <;> rfl
theorem qG4 (r:qBa xs its):(!its.toArray.isEmpty)=!xs.isEmpty:=by
 cases r <;> simp
theorem qG3:(sizeLine:Nat)<2^63:=by rw[sizeLine_eq];decide
theorem tru_ok:TruR X (fun x H Q=>∃ k,TruV X.K x H k/\Q k H):=by
 intro pins s σ H x v Q I rx h;obtain⟨k,e,q⟩:=h;have hl:=qG3;have hs:sizeLine=16777216:=sizeLine_eq;cases x with
 | non =>
  cases rx;have e':k=false:=e;subst e';exact truthy_none ⟨H,I,q⟩
 | bl b =>
  cases rx;have e':k=b:=e;subst e';exact wpAny_truthy_bool ⟨H,I,q⟩
 | int i =>
  obtain⟨t,rfl⟩:=rx;have e':k=(i != 0):=e;subst e';exact PySem.P.truthy_int ⟨H,I,q⟩
 | str y =>
  obtain⟨t,rfl⟩:=rx;obtain⟨hy,e'⟩:y.length<=sizeLine/\k=((y.length:Int) != 0):=e;subst e';exact PySem.P.truthy_str (by omega) ⟨H,I.tok _,q⟩
 | byt y =>
  obtain⟨t,rfl⟩:=rx;obtain⟨hy,e'⟩:y.size<=sizeLine/\k=((y.size:Int) != 0):=e;subst e';exact PySem.W.truthy_bytes (by omega) ⟨H,I.tok _,q⟩
 | ref p =>
  cases rx;have e':(∃ xs,SqL X.K H p xs/\k=!xs.isEmpty)\/(∃ xs,SqT X.K H p xs/\k=!xs.isEmpty)\/∃ kvs,H p=some (.dK kvs)/\k=!kvs.isEmpty:=e;rcases e' with ⟨xs,hx,e'⟩ | ⟨xs,hx,e'⟩ | ⟨kvs,hx,e'⟩
  ·subst e';obtain⟨its,r,pl,hz⟩:=I.list hx;have hlen:=r.length;exact wpAny_truthy_list pl.isList (by simp only[hAc];omega) ⟨H,I.tok _,by rw[qG4 r];exact q⟩
  ·subst e';obtain⟨its,r,pl,hz⟩:=I.tuple hx;have hlen:=r.length;exact truthy_tuple pl (by simp only[hAc];omega) ⟨H,I.tok _,by rw[qG4 r];exact q⟩
  ·subst e';obtain⟨hz,hS,vs,r,m⟩:kvs.length<=sizeLine/\(p == sysModules)=false/\∃ vs,KV kvs vs/\s.heap.DictOf (qA1 X.prog X.w) p vs:=I.hok p _ hx;have hlen:kvs.length=vs.length:=Paired.length r;exact wpAny_truthy_dict hS m (by omega) ⟨H,I.tok _,by rw[isEmpty_kv r];exact q⟩
 | _=>exact(show False from e).elim
theorem pt_truth (ha:PE X a ta) (he:∀ whole,isTrue a X.env whole=(do let v ← whole;standAt a.pos;holding [v] (truthy v))) :
  PT X a (fun σ H Q=>ta σ H fun x H'=>∃ k,TruV X.K x H' k/\Q k H'):=by
 intro pins s σ H Q I h;exact isTrue_plain (thn (ha pins s σ H _ I h) fun v s1 ⟨x,H1,I1,r1,q1⟩=>tru_ok pins s1 σ H1 x v Q I1 r1 q1) (he _)
theorem qEk:OpR X (binaryOp .Add) (fun x y H Q=>∃ i j,x = .str i/\y = .str j/\i.length+j.length<=sizeLine/\Q (.str (i++j)) H):=by
 intro pins s σ H x y v u Q I rx ry h;obtain⟨i,j,rfl,rfl,hz,q⟩:=h;obtain⟨t,rfl⟩:=rx;obtain⟨t',rfl⟩:=ry;exact add_str (fun t' tk=>⟨.str (i++j),H,I.tok _,⟨_,rfl⟩,q⟩) hz
theorem qCa (r:qBa [x] us):∃ u,us=[u]/\qBn x u:=by
 cases r with
 | cons r1 r2=>cases r2;exact⟨_,rfl,r1⟩
theorem vals2 (r:qBa [x,y] us):∃ u w',us=[u,w']/\qBn x u/\qBn y w':=by
 cases r with
 | cons r1 r2 =>
  cases r2 with
  | cons r3 r4=>cases r4;exact⟨_,_,rfl,r1,r3⟩
theorem call_abs:qA6 X (.builtin "abs") (fun xs H Q=>∃ i,xs=[.int i]/\Q (.int (if i<0 then -i else i)) H):=by
 intro pins s σ H xs us Q I r h;obtain⟨i,rfl,q⟩:=h;obtain⟨u,rfl,t,rfl⟩:=qCa r;exact call_abs_int fun u tk=>⟨.int (if i<0 then -i else i),H,I.tok _,⟨_,rfl⟩,q⟩
theorem call_min2 (hc:X.calm=true):qA6 X (.builtin "min") (fun xs H Q=>∃ i j,xs=[.int i,.int j]/\Q (.int (if j<i then j else i)) H):=by
 intro pins s σ H xs us Q I r h;obtain⟨i,j,rfl,q⟩:=h;obtain⟨u,w',rfl,⟨t,rfl⟩,⟨t',rfl⟩⟩:=vals2 r;refine min_two_ints (I.ok.hd hc) fun h' tk k=>⟨_,H,I.kept k,?_,q⟩
 by_cases hj:j<i
 ·rw[if_pos hj,if_pos hj];exact⟨_,rfl⟩
 ·rw[if_neg hj,if_neg hj];exact⟨_,rfl⟩
end
end L2
namespace L2
open PySem PySem.Spec PyProof.Rows
structure ObjM (h:Heap) (x dx C:Addr) (mA:Str->Option Value):Prop where
 obj:h.get? x=some (PySem.W.instObj C dx)
 ns:h.Ns1 dx mA
 ne:dx≠x
theorem lookIn_ns {h:Heap} {dx:Addr} {mA:Str->Option Value} (n:h.Ns1 dx mA):∃ od,h.get? dx=some od/\∀ name,PySem.W.lookIn name od=some (mA name):=by
 obtain⟨o,es,ep,ho,hd,hk,_,hm⟩:=n;refine⟨o,ho,fun name=>?_⟩;have e:=hm name;unfold nsFind findBy at e;rw[<-Array.find?_toList]at e;unfold PySem.W.lookIn;rw[hd];dsimp only;split
 ·rename_i y q;rw[q]at e;exact congrArg some e
 ·rename_i q;rw[q]at e;have a:es.toList.any (·.refKey)=false:=by
   rw[List.any_eq_false];intro y hy;obtain⟨z,t,hkey⟩:=hk y (Array.mem_toList_iff.mp hy);simp[DictEntry.refKey,hkey]
  have a':¬es.toList.any (·.refKey)=true:=by rw[a];exact hAo
  rw[if_neg a'];exact congrArg some e
theorem ObjM.look (I:ObjM h x dx C mA):∃ od,PySem.W.InstAt h x (PySem.W.instObj C dx) C (some od)/\∀ name,PySem.W.lookIn name od=some (mA name) :=
 let ⟨od,ho,hl⟩:=lookIn_ns I.ns
 ⟨od,⟨I.obj,rfl,rfl,ho⟩,hl⟩
theorem RelO.some_of (r:RelO (some v) o):∃ u,o=some u/\qBn v u:=by
 cases o with
 | none=>exact(show False from r).elim
 | some u=>exact⟨u,rfl,r⟩
section
variable {P:Program} {w:World} {H H':Hp} {h h':Heap} {a C dx:Addr} {fs fs':List (Str×V)}
theorem ins_get (hok:HOk P w H h) (e:H a=some (.ins C dx fs)):∃ mA,ObjM h a dx C mA/\(∀ f,RelO (fs.lookup f) (mA f))/\PySem.Within mA (fs.map (·.1))/\fs.length<=1000/\H dx=some (.own a):=by
 obtain⟨d,z,ne,ob,mA,n,r,q⟩:=(show qBg P w H h a (.ins C dx fs) from hok a _ e);exact⟨mA,⟨ob,n,ne⟩,r,q,z,d⟩
end
structure Cls (K:PySem.W.Frag) (C:Addr):Prop where
 pg:PySem.W.plainGet K C Str.empty=true
 hd:PySem.W.hasDictIn K C=true
 po:PySem.W.plainOver K C=true
 sa:PySem.W.findIn K (.ref C) "__setattr__" = some (some (.builtin "object.__setattr__"))
theorem Cls.get {K:PySem.W.Frag} {C:Addr} (c:Cls K C) (f:Str):PySem.W.plainGet K C f=true:=c.pg
structure Con (K:PySem.W.Frag) (C:Addr) (f:Str) (v:V) (u:Value):Prop where
 at_:PySem.W.findIn K (.ref C) f=some (some u)
 rel:qBn v u
 get:PySem.W.specialIn K u "__get__" = some none
 cp:PySem.W.copiedNames.contains f=false
structure Meth (K:PySem.W.Frag) (C:Addr) (m:Str) (f:Addr):Prop where
 at_:PySem.W.findIn K (.ref C) m=some (some (.ref f))
 fn:PySem.W.isFn K (.ref f)=true
 kp:PySem.W.keepIn K (.ref f)=true
section
variable {X:Cx} {pins:List (Addr×Obj)} {σ:St} {H:Hp} {s:Shared} {A:Around} {E:Value->Shared->Prop} {Q:Value->Shared->Prop} {c:Value} {b:Bool}
inductive TyOf (K:PySem.W.Frag) (H:Hp):V->Value->Prop where
 | non:TyOf K H .non (.type "NoneType")
 | bl (x:Bool):TyOf K H (.bl x) (.type "bool")
 | int (i:Int):TyOf K H (.int i) (.type "int")
 | str (x:Str):TyOf K H (.str x) (.type "str")
 | flt (x:UInt64):TyOf K H (.flt x) (.type "float")
 | lst {a:Addr} {xs:List V} (e:H a=some (.lst xs)):TyOf K H (.ref a) (.type "list")
 | frz {a:Addr} {o:Obj} {xs:List V} (e:H a=some (.frz o (.lst xs))):TyOf K H (.ref a) (.type "list")
 | tup {a:Addr} {xs:List V} (e:H a=some (.tup xs)):TyOf K H (.ref a) (.type "tuple")
 | dK {a:Addr} {kvs:List (Key×V)} (e:H a=some (.dK kvs)):TyOf K H (.ref a) (.type "dict")
 | dT {a:Addr} {kvs:List (List Key×V)} (e:H a=some (.dT kvs)):TyOf K H (.ref a) (.type "dict")
 | ins {a C dx:Addr} {fs:List (Str×V)} (e:H a=some (.ins C dx fs)) (cl:Cls K C) (ha:PySem.W.findIn K (.ref C) "__class__" = some (some (.builtin "object.__class__")))
   (hn:PySem.W.specialIn K (.builtin "object.__class__") "__get__" = some (some (.builtin "getset_descriptor.__get__"))) (htk:PySem.W.takesIn K (.builtin "object.__class__")=some true)
   (hm:PySem.W.mroIn K C (.type "object")=some true):TyOf K H (.ref a) (.ref C)
theorem isinst_ok (I:Inv X pins σ H s) (rx:qBn x u) (ty:TyOf X.K H x t) (e:PySem.W.kitOne X.K t c=some b) (h:∀ tk,Q (.bool b) { s with toks:=tk }) :
  wpAny (model X.prog X.w) A (call (.builtin "isinstance") [u,c]) Q E s:=by
 cases ty with
 | non=>cases(show u=Value.none from rx);exact hBr PySem.W.kitx_none I.kIn True.intro e (fun z=>nomatch z) h
 | bl y=>cases(show u=Value.bool y from rx);exact hBr PySem.W.kitx_bool I.kIn True.intro e (fun z=>nomatch z) h
 | int i=>obtain⟨t,q⟩:=(show ∃ t,u=Value.int i t from rx);cases q;exact hBr PySem.W.kitx_int I.kIn True.intro e (fun z=>nomatch z) h
 | str y=>obtain⟨t,q⟩:=(show ∃ t,u=Value.str y t from rx);cases q;exact hBr PySem.W.kitx_str I.kIn True.intro e (fun z=>nomatch z) h
 | flt y=>obtain⟨t,q⟩:=(show ∃ t,u=Value.float y t from rx);cases q;exact hBr PySem.W.kitx_float I.kIn True.intro e (fun z=>nomatch z) h
 | @lst a xs ea =>
  cases(show u=Value.ref a from rx);obtain⟨_,_,n,_,h1⟩:=(show qBg X.prog X.w H s.heap a (.lst xs) from I.hok a _ ea);exact hBr PySem.W.kitx_list I.kIn ⟨_,h1,rfl⟩ e (fun z=>nomatch z) h
 | @frz a ob xs ea =>
  cases(show u=Value.ref a from rx);obtain⟨_,_,_,n,_,h1⟩:=(show qBg X.prog X.w H s.heap a (.frz ob (.lst xs)) from I.hok a _ ea);exact hBr PySem.W.kitx_list I.kIn ⟨_,h1,rfl⟩ e (fun z=>nomatch z) h
 | @tup a xs ea =>
  cases(show u=Value.ref a from rx);obtain⟨_,_,_,p⟩:=(show qBg X.prog X.w H s.heap a (.tup xs) from I.hok a _ ea);obtain⟨o,h1,h2,_⟩:=p;exact hBr PySem.W.kitx_tuple I.kIn ⟨o,h1,h2⟩ e (fun z=>nomatch z) h
 | @dK a kvs ea =>
  cases(show u=Value.ref a from rx);obtain⟨_,_,vs,_,p⟩:=(show qBg X.prog X.w H s.heap a (.dK kvs) from I.hok a _ ea);obtain⟨o,es,ep,h1,h2,_⟩:=p;exact hBr PySem.W.kitx_dict I.kIn ⟨o,h1,h2.1⟩ e (fun z=>nomatch z) h
 | @dT a kvs ea =>
  cases(show u=Value.ref a from rx);obtain⟨_,_,xs,_,o,es,ep,h1,h2,_⟩:=(show qBg X.prog X.w H s.heap a (.dT kvs) from I.hok a _ ea);exact hBr PySem.W.kitx_dict I.kIn ⟨o,h1,h2.1⟩ e (fun z=>nomatch z) h
 | @ins a C dx fs ea cl ha hn htk hm =>
  cases(show u=Value.ref a from rx);obtain⟨mA,O,_⟩:=ins_get I.hok ea;obtain⟨od,J,_⟩:=O.look;exact hBr (PySem.W.kitx_own (cl.get _) cl.hd ha hn htk hm) I.kIn J e (fun z=>nomatch z) h
end
end L2
namespace L2
open PySem PySem.Spec PyProof.Rows
structure Room (k:Nat) (A:Around):Prop where
 hd:A.handled=none
 dp:A.depth+3*k+5<recursionLimit
 un:A.units+16*k+200<cLine
 gd:A.guards=some []
theorem Room.mono (r:Room k A) (h:j<=k):Room j A:=⟨r.hd,by have:=r.dp;omega,by have:=r.un;omega,r.gd⟩
theorem Room.deeper (r:Room (k+1) A) (env:Env):Room k (A.deeper env) :=
 ⟨r.hd,by have:=r.dp;show A.depth+1+3*k+5<_;omega,by have:=r.un;show A.units+3+16*k+200<_;omega,r.gd⟩
theorem Room.in1 (r:Room (k+1) A):Room k A.in1 :=
 ⟨r.hd,by have:=r.dp;show A.depth+3*k+5<_;omega,by have:=r.un;show A.units+1+16*k+200<_;omega,r.gd⟩
theorem Room.depth (r:Room k A):A.depth<recursionLimit:=by have:=r.dp;omega
theorem Room.units (r:Room k A):A.units+64<cLine:=by have:=r.un;omega
def tNil:TA:=fun _ H Q=>Q [] H
def qE2 (ta:TE) (tr:TA):TA:=fun σ H Q=>ta σ H fun x H1=>tr σ H1 fun xs H2=>Q (x :: xs) H2
section
variable {X:Cx} {e:Expr} {es:List Expr} {te:TE} {t:TA} {pos:Pos}
theorem qAc:PA X [] tNil:=fun _ _ _ _ H Q I h=>Calls.spliced_nil ⟨[],H,I,.nil,h⟩
theorem qAa (ha:PE X e te) (hr:PA X es t) (hs:starEach (e :: es) X.env=(false,eval e X.env) :: starEach es X.env:=by rfl):PA X (e :: es) (qE2 te t):=by
 intro pos pins s σ H Q I h;rw[hs];show wpAny _ _ (spliced ((false,eval e X.env) :: backTo pos (starEach es X.env))) _ _ s;refine Calls.spliced_cons (thn (ha pins s σ H _ I h) fun u s1 ⟨x,H1,I1,r1,q1⟩=>?_);exact thn (hr pos pins s1 σ H1 _ I1 q1) fun us s2 ⟨xs,H2,I2,r2,q2⟩=>⟨x :: xs,H2,I2,.cons r1 r2,q2⟩
def tTup (t:TA):TE:=fun σ H Q=>t σ H fun xs H1=>xs.length<=sizeLine/\∀ p,H1 p=none->Q (.ref p) (upd H1 p (.tup xs))
def tLst (t:TA):TE:=fun σ H Q=>t σ H fun xs H1=>xs.length<=sizeLine/\∀ p,H1 p=none->Q (.ref p) (upd H1 p (.lst xs))
theorem qCn {x1} (h:PA X es t):PE X (.Tuple es x1 pos) (tTup t):=by
 intro pins s σ H Q I hq;refine wpAny_Tuple_spliced (thn (h pos pins s σ H _ I hq) fun us s1 ⟨xs,H1,I1,r,z,q⟩=>⟨by rw[<-r.length];exact z,?_⟩);have hf:H1 s1.heap.objs.size=none:=I1.hok.fresh (hA5 _);refine⟨.ref s1.heap.objs.size,upd H1 s1.heap.objs.size (.tup xs),I1.laid (t':=s1.toks) (fun b u e=>Heap.get?_push_of_some _ e) (hA5 _) ?_,rfl,q _ hf⟩;exact⟨z,us,r,⟨_,Heap.get?_push_size _ rfl,rfl,_,rfl⟩⟩
theorem qBk (h:PA X es t):PE X (.List es pos) (tLst t):=by
 intro pins s σ H Q I hq;refine wpAny_List_spliced (thn (h pos pins s σ H _ I hq) fun us s1 ⟨xs,H1,I1,r,z,q⟩=>⟨by rw[<-r.length];exact z,?_⟩);have hf:H1 s1.heap.objs.size=none:=I1.hok.fresh (hA5 _);refine⟨.ref s1.heap.objs.size,upd H1 s1.heap.objs.size (.lst xs),I1.laid (t':=s1.toks) (fun b u e=>Heap.get?_push_of_some _ e) (hA5 _) ?_,rfl,q _ hf⟩;exact⟨z,us,0,r,Heap.get?_push_size _ rfl⟩
end
abbrev Sp:=List V->Hp->VK->XK->Prop
abbrev CXT:=List Env->Hp->Shared->XK->Value->Shared->Prop
structure Env0 (P:Program) (w:World) (K:PySem.W.Frag) (mg:Str->Option Value) (base:Heap) (A:Around) (outer:List Env) (s:Shared) (H:Hp):Prop where
 frames:A.frames=some outer
 mod:Mod K mg base
 bs:∀ b o,base.get? b=some o->s.heap.get? b=some o/\H b=none
 bsz:base.objs.size<=s.heap.objs.size
 funs:s.heap.FunFrames base outer
 frf:∀ b∈frs outer,H b=none
 hok:HOk P w H s.heap
 bare:AllBare s.gens
def CE (outer:List Env) (P:Program) (w:World) (H:Hp) (s:Shared) (Q:VK) (u:Value) (s':Shared):Prop :=
 ∃ v H',s'.os=s.os/\AllBare s'.gens/\Un (frs outer) [] H H' s.heap s'.heap/\HOk P w H' s'.heap/\qBn v u/\Q v H'
def CR (CX:CXT) (outer:List Env) (P:Program) (w:World) (H:Hp) (s:Shared) (Q:VK) (E:XK) (r:Result) (s':Shared):Prop :=
 match r with
 | .ok (.ret u)=>CE outer P w H s Q u s'
 | .ok _=>False
 | .error e=>CX outer H s E e s'
structure FnOk (P:Program) (w:World) (K:PySem.W.Frag) (mg:Str->Option Value) (base:Heap) (CX:CXT) (k:Nat) (f:Addr) (fd:FuncData) (ps:List Str) (sp:Sp):Prop where
 len:∀ vs H Q E,sp vs H Q E->vs.length=ps.length
 run:∀ (A:Around) (outer:List Env) (s:Shared) (H:Hp) (args:Args) (us:List Value) (vs:List V) (Q:VK) (E:XK),Room k A->Env0 P w K mg base A outer s H->BindsTo s fd args (ps.zip us)->qBa vs us->sp vs H Q E ->
  codeAny (model P w) A (.call (.ref f) args) (CR CX outer P w H s Q E) s
theorem Env0.in1 {P:Program} {w:World} {K:PySem.W.Frag} {mg:Str->Option Value} {base:Heap} {A:Around} {outer:List Env} {s:Shared} {H:Hp} (e:Env0 P w K mg base A outer s H) :
  Env0 P w K mg base A.in1 outer s H:=⟨e.frames,e.mod,e.bs,e.bsz,e.funs,e.frf,e.hok,e.bare⟩
section
variable {X:Cx} {pins:List (Addr×Obj)} {σ:St} {H:Hp} {s s':Shared}
theorem Inv.env0 (I:Inv X pins σ H s):Env0 X.prog X.w X.K X.mg X.base X.A X.stack s H :=
 ⟨I.ok.frames,I.ok.mod,I.bs,hAs I.ok.bsz I.sz,I.stack,I.stkFree,I.hok,I.bare⟩
theorem Inv.after (I:Inv X pins σ H s) (h:CE X.stack X.prog X.w H s Q u s'):EP X pins σ Q u s':=by
 obtain⟨v,H',os,bare,un,hok,r,q⟩:=h;obtain⟨hh,g,d,t,os'⟩:=s';obtain rfl:os'=s.os:=os;exact⟨v,H',I.call (h':=hh) (g':=g) (d':=d) (t':=t) (ch:=[]) un hok bare (fun b z=>absurd z (by simp)),r,q⟩
end
def tCall (sp:Sp) (dvs:List V) (E:XK) (t:TA):TE:=fun σ H Q=>t σ H fun vs H1=>sp (vs++dvs) H1 Q E
def Binds (K:PySem.W.Frag) (fd:FuncData) (ps:List Str) (ds:List Value):Prop :=
 ∀ (s:Shared) (us:List Value),K.In s.heap->(us++ds).length=ps.length->BindsTo s fd ⟨us,[]⟩ (ps.zip (us++ds))
theorem Binds.all {K:PySem.W.Frag} {fd:FuncData} {ps:List Str} (h:∀ us:List Value,us.length=ps.length->bindArgs fd ⟨us,[]⟩=pure (ps.zip us)):Binds K fd ps []:=fun s us _ hl=>by
 rw[hBi]at hl ⊢;exact .of_eq (h us hl)
def Passes (CX:CXT) (X:Cx) (E:XK):Prop:=∀ (pins:List (Addr×Obj)) (σ:St) (H:Hp) (s:Shared) (e:Value) (s':Shared),Inv X pins σ H s->CX X.stack H s E e s'->X.xe e s'
section
variable {X:Cx} {CX:CXT} {k:Nat} {f C:Addr} {fd:FuncData} {ps:List Str} {sp:Sp} {dvs:List V} {ds:List Value} {E:XK} {x m:Str} {p pos apos:Pos} {e o:Expr} {es:List Expr} {ta:TE} {t:TA}
theorem run_fn (F:FnOk X.prog X.w X.K X.mg X.base CX k f fd ps sp) (hr:Room k X.A) (hb:Binds X.K fd ps ds) (hd:qBa dvs ds) (hx:Passes CX X E)
  (I:Inv X pins σ H s) (r:qBa vs us) (h:sp (vs++dvs) H Q E):wpAny (model X.prog X.w) X.A (call (.ref f) us) (EP X pins σ Q) X.xe s:=by
 have r2:qBa (vs++dvs) (us++ds):=r.append hd;have hl:(us++ds).length=ps.length:=by rw[<-r2.length];exact F.len _ _ _ _ h
 refine wpAny_call (codeAny_mono (F.run X.A X.stack s H ⟨us,[]⟩ (us++ds) (vs++dvs) Q E hr I.env0 (hb s us I.kIn hl) r2 h) fun r s' hq=>?_);cases r with
 | error e=>exact hx pins σ H s e s' I hq
 | ok fl =>
  cases fl with
  | ret u=>exact I.after hq
  | next=>exact False.elim hq
  | brk=>exact False.elim hq
  | cont=>exact False.elim hq
theorem pe_call (F:FnOk X.prog X.w X.K X.mg X.base CX k f fd ps sp) (hr:Room k X.A) (hg:Gl X x) (hm:X.mg x=some (.ref f)) (hk:PySem.W.keepIn X.K (.ref f)=true) (hb:Binds X.K fd ps ds) (hd:qBa dvs ds) (hx:Passes CX X E)
  (ha:PA X (e :: es) t) (hdb:(x == ("__debug__" : Str))=false:=by decide) (he:starEach (e :: es) X.env=(false,eval e X.env) :: starEach es X.env:=by rfl) (hpl:(backTo pos (starEach es X.env)).any (·.1)=false:=by rfl) :
  PE X (.Call (.Name x p) (e :: es) [] pos) (tCall sp dvs E t):=by
 intro pins s σ H Q I h;refine wpAny_Call_Name_kw (ld_glob I hg hm ?_ hdb);refine PySem.W.callWith_K (h₀:=X.base) I.ok.mod.kin hk (thn (ha pos pins s σ H _ I h) fun us s1 ⟨vs,H1,I1,r,q⟩=>⟨I1.kIn,?_⟩) he hpl;exact run_fn F hr hb hd hx I1 r q
structure Mk (K:PySem.W.Frag) (C f:Addr):Prop where
 makes:PySem.W.makesIn K C=true
 init:PySem.W.findIn K (.ref C) "__init__" = some (some (.ref f))
 fn:PySem.W.isFn K (.ref f)=true
 kp:PySem.W.keepIn K (.ref C)=true
end
section
variable {X:Cx} {CX:CXT} {k:Nat} {f C:Addr} {fd:FuncData} {ps ks:List Str} {sp:Sp} {E:XK} {x m:Str} {p pos apos kpos:Pos} {e o:Expr} {es:List Expr} {kws:List Keyword} {te ta:TE} {t tk:TA} {nm:Option Str}
structure KBinds (K:PySem.W.Frag) (fd:FuncData) (ps ks:List Str) (g:List Value->List Value->List Value) (gV:List V->List V->List V):Prop where
 to:∀ (s:Shared) (us ws:List Value),K.In s.heap->(g us ws).length=ps.length->BindsTo s fd ⟨us,ks.zip ws⟩ (ps.zip (g us ws))
 rel:∀ {vs:List V} {us:List Value} {zs:List V} {ws:List Value},qBa vs us->qBa zs ws->qBa (gV vs zs) (g us ws)
variable {g:List Value->List Value->List Value} {gV:List V->List V->List V}
end
structure FnScope (N P:List Str) (sc:Scope):Prop where
 kind:sc.kind = .function
 co:sc.isCoroutine=false
 gen:sc.isGenerator=false
 nd:N.Nodup
 pre:N.take P.length=P
 par:∀ x∈P,sc.names.lookup x=some .local\/sc.names.lookup x=some .cell
 nofree:∀ y∈sc.names,y.2≠.free
theorem bindL_out {kindOf:Str->Option NameKind} {x:Str}:∀ {binds:List (Str×Value)} {m:Str->Option Value},(∀ v,(x,v)∉binds)->bindL kindOf binds m x=m x
 | [],_,_=>rfl
 | (n,v) :: r,m,h=>by
  unfold bindL;rw[bindL_out fun w hw=>h w (hA4 _ hw)];split
  ·have:x≠n:=by rintro rfl;exact h v hA3
   simp[this]
  ·rfl
theorem bindC_out {kindOf:Str->Option NameKind} {x:Str}:∀ {binds:List (Str×Value)} {m:Str->Option Value},(∀ v,(x,v)∉binds)->bindC kindOf binds m x=m x
 | [],_,_=>rfl
 | (n,v) :: r,m,h=>by
  unfold bindC;rw[bindC_out fun w hw=>h w (hA4 _ hw)];split
  ·rfl
  ·have:x≠n:=by rintro rfl;exact h v hA3
   simp[this]
theorem bindL_get {kindOf:Str->Option NameKind} {x:Str} {v:Value}:∀ {P:List Str} {vs:List Value} {i:Nat} {m:Str->Option Value},P.Nodup->P[i]?=some x->vs[i]?=some v->kindOf x=some .local ->
  bindL kindOf (P.zip vs) m x=some v
 | [],_,_,_,_,h,_,_=>by simp at h
 | _ :: _,[],_,_,_,_,h,_=>by simp at h
 | p :: P,w :: vs,0,m,nd,h1,h2,hk=>by
  simp at h1 h2;subst h1;subst h2;show bindL kindOf ((p,w) :: P.zip vs) m p=_;unfold bindL;rw[bindL_out fun v hv=>(hAx.mp nd).1 (List.of_mem_zip hv).1,if_pos hk];simp
 | p :: P,w :: vs,i+1,m,nd,h1,h2,hk=>by
  show bindL kindOf ((p,w) :: P.zip vs) m x=_;unfold bindL;exact bindL_get (i:=i) (hAx.mp nd).2 (by simpa using h1) (by simpa using h2) hk
theorem bindC_get {kindOf:Str->Option NameKind} {x:Str} {v:Value}:∀ {P:List Str} {vs:List Value} {i:Nat} {m:Str->Option Value},P.Nodup->P[i]?=some x->vs[i]?=some v->kindOf x≠some .local ->
  bindC kindOf (P.zip vs) m x=some v
 | [],_,_,_,_,h,_,_=>by simp at h
 | _ :: _,[],_,_,_,_,h,_=>by simp at h
 | p :: P,w :: vs,0,m,nd,h1,h2,hk=>by
  simp at h1 h2;subst h1;subst h2;show bindC kindOf ((p,w) :: P.zip vs) m p=_;unfold bindC;rw[bindC_out fun v hv=>(hAx.mp nd).1 (List.of_mem_zip hv).1,if_neg hk];simp
 | p :: P,w :: vs,i+1,m,nd,h1,h2,hk=>by
  show bindC kindOf ((p,w) :: P.zip vs) m x=_;unfold bindC;exact bindC_get (i:=i) (hAx.mp nd).2 (by simpa using h1) (by simpa using h2) hk
def start (N:List Str) (vs:List V):St:=vs.map some++List.replicate (N.length - vs.length) none
def qB5 (CX:CXT) (P:Program) (w:World) (K:PySem.W.Frag) (mg:Str->Option Value) (base:Heap) (N:List Str) (qual:Str) (scope:Scope) (f:Addr) (cd:Value) (A:Around) (outer:List Env) (s:Shared) (H:Hp) (E:XK):Cx where
 prog:=P
 w:=w
 K:=K
 mg:=mg
 base:=base
 A:=A.deeper (envOfC qual scope s.heap.objs.size f cd)
 N:=N
 s₀:=s
 H₀:=H
 env:=envOfC qual scope s.heap.objs.size f cd
 outer:=outer
 stack:=envOfC qual scope s.heap.objs.size f cd :: outer
 ex:=[]
 calm:=true
 fn:=fun _=>true
 pn:=[]
 xe:=fun e s'=>wpAny (model P w) (A.deeper (envOfC qual scope s.heap.objs.size f cd)) (leaving (envOfC qual scope s.heap.objs.size f cd) e) (fun _ s''=>CX outer H s E e s'') (fun e' s''=>CX outer H s E e' s'') s'
theorem cell_has {sc:Scope} {n:Nat} {x:Str} (h:sc.names.lookup x=some .cell):∃ c,(cellsFrom n sc.names []).lookup x=some c:=by
 have q:=hCs sc.names n [] (.inl h);exact hCg.mp q
theorem inv_start {CX:CXT} {P:Program} {w:World} {K:PySem.W.Frag} {mg:Str->Option Value} {base:Heap} {N ps:List Str} {qual:Str} {scope:Scope} {f:Addr} {cd:Value} {A:Around} {outer:List Env} {s s1:Shared} {H:Hp} {E:XK} {us:List Value} {vs:List V}
  (S:FnScope N ps scope) (hd:A.handled=none) (e0:Env0 P w K mg base A outer s H) (hl:vs.length=ps.length) (r:qBa vs us)
  (x:InCallC s s.heap.objs.size (bindL (envOfC qual scope s.heap.objs.size f cd).kindOf (ps.zip us) fun _=>none) (cellsFrom (s.heap.objs.size+1) scope.names []) (bindC (envOfC qual scope s.heap.objs.size f cd).kindOf (ps.zip us) fun _=>none) s1) :
  Inv (qB5 CX P w K mg base N qual scope f cd A outer s H E) [] (start N vs) H s1:=by
 have hpl:ps.length<=N.length:=by have:=congrArg List.length S.pre;rw[hAj]at this;omega
 obtain⟨h1,tk,rfl,hk⟩:=x.done;have noA:∀ b:Addr,b∉(qB5 CX P w K mg base N qual scope f cd A outer s H E).ex:=fun b z=>absurd (show b∈([]:List Addr) from z) (by simp)
 refine⟨⟨e0.mod,S.kind,rfl,rfl,hA5 _,fun y z c h1 h2=>?_,fun y hy=>?_,fun y c _ h=>?_,fun _=>hd,Around.frames_deeper e0.frames,.inr ⟨rfl,rfl⟩,fun b z=>absurd z (noA b),e0.bs,e0.bsz,fun b _ _=>noA b,fun b z=>absurd z (noA b),e0.funs,e0.frf⟩,
  rfl,e0.bare,Un.kept hk,⟨_,x.toInCall.ns,fun i y v h1 h2 h3=>?_⟩,fun y c h=>⟨_,x.cell y c h⟩,e0.hok.fresh (hA5 _),fun y c h=>?_,fun p hp=>absurd (show p∈([]:List (Addr×Obj)) from hp) (by simp),e0.hok.kept hk,?_⟩
 ·exact name_of_addr x.apart (hBa h1) (hBa h2)
 ·have hy:scope.names.lookup y=some .cell\/scope.names.lookup y=some .free:=hy;rcases hy with hy | hy
  ·exact cell_has hy
  ·exact absurd rfl (S.nofree _ (hBa hy))
 ·exact hB3 (x.above y c (hBa h))
 ·have hi:i<vs.length:=by
   unfold start at h2;by_cases hi:i<vs.length
   ·exact hi
   ·rw[hBy (by simpa using hi)]at h2;rw[List.getElem?_replicate]at h2;split at h2 <;> cases h2
  have ha:vs[i]?=some v:=by
   unfold start at h2;rw[hCd (by simpa using hi),hAh]at h2;cases e:vs[i]? with
   | none=>rw[e]at h2;cases h2
   | some a=>rw[e]at h2;cases h2;rfl
  obtain⟨u,hu,rv⟩:=r.get ha;have hp:ps[i]?=some y:=by
   rw[<-S.pre,List.getElem?_take_of_lt (by omega)];exact h1
  have ndP:ps.Nodup:=by rw[<-S.pre];exact S.nd.sublist (List.take_sublist _ _)
  refine⟨u,rv,?_⟩;rcases S.par y (hAu hp) with k | k
  ·exact .inl ⟨k,bindL_get ndP hp hu k⟩
  ·obtain⟨c,e⟩:=cell_has (n:=s.heap.objs.size+1) k;refine .inr ⟨.inl k,c,e,?_⟩;have q:=x.cell y c e;rw[bindC_get ndP hp hu (by show scope.names.lookup y≠_;rw[k];decide)]at q;exact q
 ·exact e0.hok.fresh (hB3 (x.above y c (hBa h)))
 ·unfold start;show _=N.length;rw[hAd,hA1,List.length_replicate];omega
theorem fn_of {CX:CXT} {P:Program} {w:World} {K:PySem.W.Frag} {mg:Str->Option Value} {base:Heap} {k:Nat} {f:Addr} {name qual:Str} {params:Arguments} {body:List Stmt} {scope:Scope} {dV kV doc pm cdv ct oc:Value} {an od:Option Addr}
  {osl:Array (Option Value)} {N ps:List Str} {sp:Sp} (lk:K.lookup f=some ⟨oc,od,.func (PySem.W.fnOf name qual params body scope dV kV doc pm an cdv ct),osl⟩) (hcd:PySem.W.codeIn K cdv qual=true) (S:FnScope N ps scope)
  (len:∀ vs H Q E,sp vs H Q E->vs.length=ps.length)
  (hbody:∀ (A:Around) (outer:List Env) (s:Shared) (H:Hp) (vs:List V) (Q:VK) (E:XK),Room k (A.deeper (envOfC qual scope s.heap.objs.size f cdv))->sp vs H Q E ->
   ∃ t,PSs (qB5 CX P w K mg base N qual scope f cdv A outer s H E) body t/\t { nx:=fun _ H'=>Q .non H',rt:=Q } (start N vs) H) :
  FnOk P w K mg base CX (k+1) f (PySem.W.fnOf name qual params body scope dV kV doc pm an cdv ct) ps sp:=by
 refine⟨len,fun A outer s H args us vs Q E hr e0 hb r hsp=>?_⟩;have hl:=len _ _ _ _ hsp;have KX:K.In s.heap:=e0.mod.kin.keeps fun b o e=>(e0.bs b o e).1
 have lim:s.heap.NoLimit:=e0.mod.nolimit.keeps fun b o e=>(e0.bs b o e).1
 have hkind:∀ y∈ps.zip us,scope.names.lookup y.1=some .local\/(scope.names.lookup y.1=some .cell/\((cellsFrom (s.heap.objs.size+1) scope.names []).lookup y.1).isSome=true):=fun ⟨n,v⟩ hy=>by
  rcases S.par n (List.of_mem_zip hy).1 with q | q
  ·exact .inl q
  ·exact .inr ⟨q,hCs _ _ _ (.inl q)⟩
 refine codeAny_call_function hr.depth (KX _ _ lk) rfl S.co S.gen rfl (PySem.W.codeRec_of KX hcd) (hb _ _ _ _ ?_);refine wpAny_newFunctionEnv_cells S.kind hkind fun env he s1 x=>?_
 subst he;refine⟨lim.keeps x.toInCall.keep,codeAny_func ?_⟩;obtain⟨t,ht,hq⟩:=hbody A outer s H vs Q E (hr.deeper _) hsp;have I:Inv (qB5 CX P w K mg base N qual scope f cdv A outer s H E) [] (start N vs) H s1:=inv_start S hr.hd e0 hl r x;refine wpAny_mono (ht [] s1 (start N vs) H _ I hq) (fun fl s' hs=>?_) fun e s' hs=>hs
 have fin:∀ {σ':St} {H':Hp} {v:V} {u:Value},Inv (qB5 CX P w K mg base N qual scope f cdv A outer s H E) [] σ' H' s'->qBn v u->Q v H'->CE outer P w H s Q u s' :=
  fun {σ' H' v u} J rv q=>⟨v,H',J.os,J.bare,J.base,J.hok,rv,q⟩
 cases fl with
 | ret u =>
  obtain⟨v,σ',H',J,rv,q⟩:=hs;exact fin J rv q
 | next =>
  obtain⟨σ',H',J,q⟩:=hs;exact fin (v:=V.non) (u:=Value.none) J rfl q
 | brk =>
  obtain⟨_,_,_,q⟩:=hs;exact False.elim q
 | cont =>
  obtain⟨_,_,_,q⟩:=hs;exact False.elim q
end L2
namespace L2
open PySem PySem.Spec PyProof.Rows
section
variable {X:Cx} {x:Str} {p pos:Pos} {e:Expr} {es:List Expr} {t:TA} {id T:String} {r:List V->Hp->VK->Prop}
def tCB (r:List V->Hp->VK->Prop) (t:TA):TE:=fun σ H Q=>t σ H fun vs H1=>r vs H1 Q
theorem qAj (hc:qA6 X (.builtin id) r) (hg:Gl X x) (hm:X.mg x=none) (hv:bootBuiltins x=some (.builtin id)) (ha:PA X (e :: es) t) (hn:x≠"__name__":=by decide) (hdb:(x == ("__debug__" : Str))=false:=by decide)
  (he:starEach (e :: es) X.env=(false,eval e X.env) :: starEach es X.env:=by rfl) (hpl:(backTo pos (starEach es X.env)).any (·.1)=false:=by rfl):PE X (.Call (.Name x p) (e :: es) [] pos) (tCB r t):=by
 intro pins s σ H Q I h;refine wpAny_Call_Name_kw (qEx I hg hm hv ?_ hn hdb);exact PyProof.Rows.callWith_builtin1 (thn (ha pos pins s σ H _ I h) fun us s1 ⟨vs,H1,I1,r1,q1⟩=>hc pins s1 σ H1 vs us Q I1 r1 q1) he hpl
theorem qBb (hc:qA6 X (.type T) r) (hg:Gl X x) (hm:X.mg x=none) (hv:bootBuiltins x=some (.type T)) (ha:PA X (e :: es) t) (hn:x≠"__name__":=by decide) (hdb:(x == ("__debug__" : Str))=false:=by decide)
  (he:starEach (e :: es) X.env=(false,eval e X.env) :: starEach es X.env:=by rfl) (hpl:(backTo pos (starEach es X.env)).any (·.1)=false:=by rfl):PE X (.Call (.Name x p) (e :: es) [] pos) (tCB r t):=by
 intro pins s σ H Q I h;refine wpAny_Call_Name_kw (qEx I hg hm hv ?_ hn hdb);exact hCp (thn (ha pos pins s σ H _ I h) fun us s1 ⟨vs,H1,I1,r1,q1⟩=>hc pins s1 σ H1 vs us Q I1 r1 q1) he hpl
end
end L2
namespace HT
open PySem PyProof.Rows
section
variable {prog:Program} {w:World} {A:Around} {E:Value->Shared->Prop} {s:Shared}
theorem cat_tup (ht:IsTup s.heap t vs.toArray) (hb:IsTup s.heap b ws.toArray) (hv:vs≠[])
  (h1:ws=[]->Q (.ref t) s) (h2:ws≠[]->Q (.ref s.heap.objs.size) { s with heap:=s.heap.push { cls:=.type "tuple",data:=.seq (vs++ws).toArray } })
  (hsz:vs.length+ws.length<=sizeLine):wpAny (model prog w) A (binaryOp .Add (.ref t) (.ref b)) Q E s:=by
 obtain⟨⟨cls,dd,data,sl⟩,ho,hc,n,hd⟩:=id ht;obtain⟨⟨cls2,dd2,data2,sl2⟩,ho2,hc2,n2,hd2⟩:=id hb;simp only at hc hd hc2 hd2;subst hc hd hc2 hd2;have e:vs.toArray++ws.toArray=(vs++ws).toArray:=by simp
 by_cases hw:ws=[]
 ·exact concat_meets ⟨_,ho,rfl⟩ ⟨_,ho2,rfl⟩ noFill_tuple_add seq_tuple_add PySem.F.slot_tuple_add PySem.F.entry_tuple_add (PySem.F.args_tuple_add_2 _ _)
   (tuple_addW1 t b vs.toArray ws.toArray n n2 dd dd2 sl sl2 (by simpa using hv) (by simp[hw])) ⟨ho,ho2,h1 hw⟩
 ·refine concat_meets ⟨_,ho,rfl⟩ ⟨_,ho2,rfl⟩ noFill_tuple_add seq_tuple_add PySem.F.slot_tuple_add PySem.F.entry_tuple_add (PySem.F.args_tuple_add_2 _ _)
   (tuple_addW2 t b vs.toArray ws.toArray n n2 dd dd2 sl sl2 (by simpa using hv) (by simpa using hw) (by rw[hAc,hAc];exact hsz)) ⟨ho,ho2,?_⟩
  rw[e];exact h2 hw
def sIx (n d:Nat):Option Int->Nat
 | none=>d
 | some v=>if v<0 then (v+(n:Int)).toNat else min v.toNat n
theorem sIx_none (n d:Nat):sIx n d none=d:=rfl
theorem sIx_nat (n d k:Nat):sIx n d (some (k:Int))=min k n:=by
 show(if (k:Int)<0 then ((k:Int)+(n:Int)).toNat else min (k:Int).toNat n)=min k n;rw[if_neg (by omega),hC2]
theorem sIx_le (n d:Nat) (hd:d<=n) (o:Option Int):sIx n d o<=n:=by
 cases o with
 | none=>exact hd
 | some v =>
  show(if v<0 then (v+(n:Int)).toNat else min v.toNat n)<=n;by_cases hv:v<0
  ·rw[if_pos hv];omega
  ·rw[if_neg hv];exact Nat.min_le_right _ _
theorem clip_eq (v:Int) (n d:Nat):(if v<0 then max (v+(n:Int)) 0 else min v (n:Int))=((sIx n d (some v):Nat):Int):=by
 show(if v<0 then max (v+(n:Int)) 0 else min v (n:Int))=(((if v<0 then (v+(n:Int)).toNat else min v.toNat n):Nat):Int);by_cases hv:v<0
 ·simp only[if_pos hv];omega
 ·simp only[if_neg hv];omega
theorem adjust_gen (lo hi:Option Int) (n:Nat):Builtin.Slice.sliceAdjust lo hi 1 (n:Int)=(((sIx n 0 lo:Nat):Int),((sIx n n hi:Nat):Int)):=by
 have h1:¬((1:Int)<0):=by omega
 unfold Builtin.Slice.sliceAdjust;simp only[h1,if_false];refine Prod.ext ?_ ?_
 ·cases lo with
  | none=>rfl
  | some v=>exact clip_eq v n 0
 ·cases hi with
  | none=>rfl
  | some v=>exact clip_eq v n n
theorem places_gen (i j:Nat):Builtin.Slice.slicePlaces (i:Int) (j:Int) 1=j - i:=by
 unfold Builtin.Slice.slicePlaces;have h1:(1:Int) > 0:=by omega
 simp only[h1,if_true,Int.ediv_one];split <;> omega
theorem qGq (p:IsPart v o) (h:Q o s):wpAny (model prog w) A (Builtin.Slice.slicePartIndex v) Q E s:=by
 cases p with
 | none=>exact slicePart_none h
 | int i t=>exact slicePart_int h
theorem qE3 {sl:Addr} {vl vu:Value} {lo hi:Option Int} {n:Nat} {Q:Int×Int×Nat->Shared->Prop} (hs:s.heap.IsSliceOf sl vl vu .none) (pl:IsPart vl lo) (pu:IsPart vu hi)
  (h:Q (((sIx n 0 lo:Nat):Int),1,sIx n n hi - sIx n 0 lo) s):wpAny (model prog w) A (Builtin.Slice.sliceApplied (.ref sl) (pure (n:Int))) Q E s:=by
 obtain⟨os,hos,hcs,hds⟩:=id hs;unfold Builtin.Slice.sliceApplied Builtin.Slice.sliceFields;refine wpAny_bind (wpAny_bind (wpAny_field hos hds (x:=vl) rfl (wpAny_bind (wpAny_field hos hds (x:=vu) rfl (wpAny_bind (wpAny_field hos hds (x:=.none) rfl (wpAny_pure ?_)))))));refine wpAny_bind (slicePart_none ?_);show wpAny _ _ (if ((1:Int) == 0)=true then _ else _) _ _ s;rw[if_neg (by decide)];refine wpAny_bind (qGq pl (wpAny_bind (qGq pu (wpAny_bind (wpAny_pure ?_)))));show wpAny _ _ (match Builtin.Slice.sliceAdjust lo hi 1 (n:Int) with | (lo,hi)=>pure (lo,(1:Int),Builtin.Slice.slicePlaces lo hi 1)) _ _ s;rw[adjust_gen lo hi n];show wpAny _ _ (pure (((sIx n 0 lo:Nat):Int),(1:Int),Builtin.Slice.slicePlaces ((sIx n 0 lo:Nat):Int) ((sIx n n hi:Nat):Int) 1)) _ _ s;rw[places_gen];exact wpAny_pure h
theorem pick_gen (xs:Array Value) (i k:Nat):((List.range k).filterMap fun (m:Nat)=>xs[((i:Int)+(m:Int)*1).toNat]?).toArray=((xs.toList.drop i).take k).toArray:=by
 have e:(fun (m:Nat)=>xs[((i:Int)+(m:Int)*1).toNat]?)=fun m=>xs[i+m]?:=by
  funext m
  have:((i:Int)+(m:Int)*1).toNat=i+m:=by omega
  rw[this]
 rw[e];have:=pick_run xs i k;rw[List.filterMap_map]at this;have e2:((fun x=>xs[x]?)∘fun x=>i+x)=fun m=>xs[i+m]?:=rfl
 rw[e2]at this;rw[this]
theorem getItem_tuple_cut {t sl:Addr} {items:Array Value} {vl vu:Value} {lo hi:Option Int} {Q:Value->Shared->Prop} (ht:IsTup s.heap t items) (hs:s.heap.IsSliceOf sl vl vu .none) (pl:IsPart vl lo) (pu:IsPart vu hi)
  (hw:¬(sIx items.size 0 lo=0/\sIx items.size items.size hi=items.size))
  (h:Q (.ref s.heap.objs.size) { s with heap:=s.heap.push { cls:=.type "tuple",data:=.seq ((items.toList.drop (sIx items.size 0 lo)).take (sIx items.size items.size hi - sIx items.size 0 lo)).toArray } })
  (hsz:items.size<=sizeLine):wpAny (model prog w) A (getItem (.ref t) (.ref sl)) Q E s:=by
 have htake:sizeOk (.seq ((items.toList.drop (sIx items.size 0 lo)).take (sIx items.size items.size hi - sIx items.size 0 lo)).toArray):=by
  show((items.toList.drop (sIx items.size 0 lo)).take (sIx items.size items.size hi - sIx items.size 0 lo)).toArray.size<=sizeLine;rw[hAc,hAj,hC1,hB0];omega
 have hj:sIx items.size items.size hi<=items.size:=sIx_le _ _ (hA5 _) hi;obtain⟨os,hos,hcs,hds⟩:=id hs;have hTs:s.TypeIs (.ref sl) "slice":=⟨os,hos,hcs⟩;unfold getItem;try with_reducible refine wpAny_holding ?_
 first | refine wpAny_bind (wpAny_pure ?_) | skip
 refine wpAny_bind (wpAny_sequenceKey ht.typeIs (by decide) ?_);refine wpAny_bind (wpAny_callSpecial?_slot (name:=Str.ofString "__getitem__") ht.typeIs PyProof.Rows.slot_tuple_getitem
  (wpAny_call_entry PyProof.Rows.slot_tuple_getitem ht.typeIs entry_tuple_getitem ?_ (args_tuple_getitem _ _)))
 show wpAny _ _ (Builtin.Tuple.tupleItemsOf (.ref t) >>= _) _ _ s;refine wpAny_bind (tupleItemsOf_ ht ?_);refine wpAny_bind (wpAny_typeOf hTs ?_);rw[if_pos (by decide)];refine wpAny_bind (qE3 hs pl pu ?_);have hno:¬((((sIx items.size 0 lo:Nat):Int) == 0 && (1:Int) == 1 && (sIx items.size items.size hi - sIx items.size 0 lo) == items.size)=true):=by
  intro q;rw[hB7,hB7]at q;have q1:((sIx items.size 0 lo:Nat):Int)=0:=eq_of_beq q.1.1;have q2:sIx items.size items.size hi - sIx items.size 0 lo=items.size:=eq_of_beq q.2;exact hw ⟨by omega,by omega⟩
 show wpAny _ _ (if (((sIx items.size 0 lo:Nat):Int) == 0 && (1:Int) == 1 && (sIx items.size items.size hi - sIx items.size 0 lo) == items.size)=true then _ else _) _ _ s;rw[if_neg hno,pick_gen]
 first
  | exact wpAny_bind (m:=Builtin.Tuple.tupleExact _) (wpAny_newObj_type (wpAny_pure ⟨_,rfl,wpAny_pure h⟩) htake)
  | exact wpAny_bind (m:=Builtin.Tuple.tupleExact _) (wpAny_newObj_type (wpAny_bind (wpAny_pure (wpAny_pure ⟨_,rfl,wpAny_pure h⟩))) htake)
  | exact wpAny_bind (wpAny_bind (m:=Builtin.Tuple.tupleExact _) (wpAny_newObj_type (wpAny_pure (wpAny_pure ⟨_,rfl,wpAny_pure h⟩)) htake))
  | exact wpAny_bind (wpAny_bind (m:=Builtin.Tuple.tupleExact _) (wpAny_newObj_type (wpAny_pure ⟨_,rfl,wpAny_pure h⟩) htake))
end
end HT
namespace L2
open PySem PySem.Spec PyProof.Rows
abbrev TO:=St->Hp->(Option Int->Hp->Prop)->Prop
def PO (X:Cx) (e:Option Expr) (t:TO):Prop :=
 ∀ (pins:List (Addr×Obj)) (s:Shared) (σ:St) (H:Hp) (Q:Option Int->Hp->Prop),Inv X pins σ H s->t σ H Q ->
  wpAny (model X.prog X.w) X.A (evalPart e X.env) (fun u s'=>∃ o H',Inv X pins σ H' s'/\IsPart u o/\Q o H') X.xe s
def tNoPart:TO:=fun _ H Q=>Q none H
def tPart (t:TE):TO:=fun σ H Q=>t σ H fun x H1=>∃ i,x = .int i/\Q (some i) H1
section
variable {X:Cx} {e:Expr} {te:TE} {lo hi:Option Expr} {tl th:TO} {pos p2:Pos}
theorem qEi:PO X none tNoPart:=by
 intro pins s σ H Q I h;rw[evalPart_none];exact wpAny_pure ⟨none,H,I,.none,h⟩
theorem qEh (h:PE X e te):PO X (some e) (tPart te):=by
 intro pins s σ H Q I hw;rw[evalPart_some];refine thn (h pins s σ H _ I hw) fun u s1 ⟨x,H1,I1,r1,q1⟩=>?_
 obtain⟨i,rfl,q⟩:=q1;obtain⟨t,rfl⟩:=r1;exact⟨some i,H1,I1,.int i t,q⟩
def SlR (X:Cx) (r:V->Option Int->Option Int->Hp->VK->Prop):Prop :=
 ∀ (pins:List (Addr×Obj)) (s:Shared) (σ:St) (H:Hp) (x:V) (v vl vu:Value) (lo hi:Option Int) (sl:Addr) (Q:VK),Inv X pins σ H s->qBn x v->s.heap.IsSliceOf sl vl vu .none->IsPart vl lo->IsPart vu hi->r x lo hi H Q ->
  ∃ T id,typeLookup (.type T) "__getitem__" = pure (some (.builtin id))/\s.TypeIs v T/\wpAny (model X.prog X.w) X.A (getItem v (.ref sl)) (EP X pins σ Q) X.xe s
def tSl (r:V->Option Int->Option Int->Hp->VK->Prop) (te:TE) (tl th:TO):TE:=fun σ H Q=>te σ H fun x H1=>tl σ H1 fun l H2=>th σ H2 fun u H3=>r x l u H3 Q
theorem qC2 (hr:SlR X r) (he:PE X e te) (hl:PO X lo tl) (hu:PO X hi th):PE X (.Subscript e (.Slice lo hi none p2) pos) (tSl r te tl th):=by
 intro pins s σ H Q I h;refine Subscript_ (thn (he pins s σ H _ I h) fun v s1 ⟨x,H1,I1,r1,q1⟩=>?_);refine wpAny_Slice (thn (hl pins s1 σ H1 _ I1 q1) fun vl s2 ⟨l,H2,I2,pl,q2⟩=>thn (hu pins s2 σ H2 _ I2 q2) fun vu s3 ⟨u,H3,I3,pu,q3⟩=>?_);rw[evalPart_none];refine wpAny_pure ?_;have I4:Inv X pins σ H3 { s3 with heap:=s3.heap.push { cls:=.type "slice",data:=.fields #[vl,vu,.none] } }:=I3.kept (t':=s3.toks) fun b ob q=>Heap.get?_push_of_some _ q
 obtain⟨T,id,hT,ht,hg⟩:=hr pins { s3 with heap:=s3.heap.push { cls:=.type "slice",data:=.fields #[vl,vu,.none] } } σ H3 x v vl vu l u s3.heap.objs.size Q I4 r1 (Heap.IsSliceOf.new ..) pl pu q3;show wpAny (model X.prog X.w) X.A (subscriptTail e (.Slice lo hi none p2) v (.ref s3.heap.objs.size)) (EP X pins σ Q) X.xe { s3 with heap:=s3.heap.push { cls:=.type "slice",data:=.fields #[vl,vu,.none] } };exact tail_any (ops:=[.ref s3.heap.objs.size,v]) ht hT hg (by with_unfolding_all rfl)
def cutV (xs:List V) (lo hi:Option Int):List V:=(xs.drop (HT.sIx xs.length 0 lo)).take (HT.sIx xs.length xs.length hi - HT.sIx xs.length 0 lo)
theorem qCj (xs:List V) (lo hi:Option Int):(cutV xs lo hi).length<=xs.length:=by
 unfold cutV;rw[hAj,hC1];omega
def rSlT (K:PySem.W.Frag):V->Option Int->Option Int->Hp->VK->Prop:=fun x lo hi H Q=>∃ a xs,x = .ref a/\SqT K H a xs /\
 ¬(HT.sIx xs.length 0 lo=0/\HT.sIx xs.length xs.length hi=xs.length)/\∀ p,H p=none->Q (.ref p) (upd H p (.tup (cutV xs lo hi)))
theorem sl_tup:SlR X (rSlT X.K):=by
 intro pins s σ H x v vl vu lo hi sl Q I rx hs pl pu h;obtain⟨a,xs,rfl,hx,hw,q⟩:=h;cases rx;obtain⟨its,r,ht,hz⟩:=I.tuple hx;have hlen:its.toArray.size=xs.length:=by rw[hAc];exact r.length.symm
 refine⟨"tuple",_,PyProof.Rows.slot_tuple_getitem.lookup,ht.typeIs,?_⟩;refine HT.getItem_tuple_cut ht hs pl pu (by rw[hlen];exact hw) ?_ (by rw[hlen];exact hz);rw[hlen];refine⟨.ref s.heap.objs.size,_,I.laid (t':=s.toks) (o:=.tup (cutV xs lo hi)) (fun b ob q=>Heap.get?_push_of_some _ q) (hA5 _) ?_,rfl,q _ (I.hok.fresh (hA5 _))⟩;exact⟨hAs (qCj xs lo hi) hz,_,(r.drop (HT.sIx xs.length 0 lo)).take (HT.sIx xs.length xs.length hi - HT.sIx xs.length 0 lo),IsTup.new _ _⟩
def rCatT (K:PySem.W.Frag):R2:=fun x y H Q=>∃ a b xs ys,x = .ref a/\y = .ref b/\SqT K H a xs/\SqT K H b ys/\xs≠[]/\xs.length+ys.length<=sizeLine /\
 (ys=[]->Q (.ref a) H)/\(ys≠[]->∀ p,H p=none->Q (.ref p) (upd H p (.tup (xs++ys))))
theorem qBa.nil_iff (r:qBa xs us):us=[]↔xs=[]:=by
 cases r with
 | nil=>simp
 | cons _ _=>simp
theorem op_catT:OpR X (binaryOp .Add) (rCatT X.K):=by
 intro pins s σ H x y v u Q I rx ry h;obtain⟨a,b,xs,ys,rfl,rfl,ha,hb,hx,hz,q1,q2⟩:=h;cases rx;cases ry;obtain⟨its,r1,p1,_⟩:=I.tuple ha;obtain⟨its2,r2,p2,_⟩:=I.tuple hb;refine HT.cat_tup p1 p2 (fun z=>hx (r1.nil_iff.mp z)) (fun z=>⟨.ref a,H,I,rfl,q1 (r2.nil_iff.mp z)⟩) (fun z=>?_) (by rw[<-r1.length,<-r2.length];exact hz);refine⟨.ref s.heap.objs.size,_,I.laid (t':=s.toks) (o:=.tup (xs++ys)) (fun b ob q=>Heap.get?_push_of_some _ q) (hA5 _) ?_,rfl,q2 (fun w=>z (r2.nil_iff.mpr w)) _ (I.hok.fresh (hA5 _))⟩;exact⟨by rw[hAd];exact hz,_,r1.append r2,IsTup.new _ _⟩
end
end L2
namespace L2
open PySem PySem.Spec PyProof.Rows
def ixN (n:Nat) (i:Int):Option Nat:=if 0<=i then (if i<n then some i.toNat else none) else if -(n:Int)<=i then some (i+n).toNat else none
def atI {α:Type} (xs:List α) (i:Int):Option α:=(ixN xs.length i).bind fun j=>xs[j]?
theorem ixN_seq (h:ixN n i=some j):seqIndex? i n=some j/\j<n/\-(n:Int)<=i/\i<n:=by
 unfold ixN at h;by_cases h0:0<=i
 ·rw[if_pos h0]at h;by_cases h1:i<n
  ·rw[if_pos h1]at h;have e:i.toNat=j:=hAv h;exact⟨by rw[seqIndex_of h0 h1,e],by omega,by omega,h1⟩
  ·rw[if_neg h1]at h;cases h
 ·rw[if_neg h0]at h;by_cases h1:-(n:Int)<=i
  ·rw[if_pos h1]at h;have e:(i+n).toNat=j:=hAv h;exact⟨by rw[seqIndex_neg (by omega) h1,e],by omega,h1,by omega⟩
  ·rw[if_neg h1]at h;cases h
theorem atI_get (h:atI xs i=some v):∃ j,seqIndex? i xs.length=some j/\xs[j]?=some v/\j<xs.length/\-(xs.length:Int)<=i/\i<xs.length:=by
 unfold atI at h;cases e:ixN xs.length i with
 | none=>rw[e]at h;cases h
 | some j =>
  rw[e]at h;obtain⟨h1,h2,h3,h4⟩:=ixN_seq e;exact⟨j,h1,h,h2,h3,h4⟩
theorem atI_nat {α:Type} {xs:List α} {j:Nat} {v:α} (h:xs[j]?=some v):atI xs (j:Int)=some v:=by
 have hj:j<xs.length:=(hAr.mp h).1;have e:ixN xs.length (j:Int)=some j:=by
  unfold ixN;rw[if_pos (by omega),if_pos (by omega)];simp
 unfold atI;rw[e];exact h
def PlainIx (b:Expr):Prop:=∀ o i,subscripted b false o i=operate [o,i] (getItem o i)
def IxR (X:Cx) (r:R2):Prop :=
 ∀ (value slice:Expr) (pins:List (Addr×Obj)) (s:Shared) (σ:St) (H:Hp) (x y:V) (v u:Value) (Q:VK),Inv X pins σ H s->qBn x v->qBn y u->r x y H Q ->
  subscripted slice false v u=operate [v,u] (getItem v u)->wpAny (model X.prog X.w) X.A (subscriptTail value slice v u) (EP X pins σ Q) X.xe s
def MtR (X:Cx) (id:String) (r:V->List V->Hp->VK->Prop):Prop :=
 ∀ (pins:List (Addr×Obj)) (s:Shared) (σ:St) (H:Hp) (x:V) (xs:List V) (v:Value) (us:List Value) (Q:VK),Inv X pins σ H s->qBn x v->qBa xs us->r x xs H Q ->
  wpAny (model X.prog X.w) X.A (call (.builtin id) (v :: us)) (EP X pins σ Q) X.xe s
section
variable {X:Cx} {a b:Expr} {ta tb:TE} {pos:Pos}
theorem pe_ix (hr:IxR X r) (ha:PE X a ta) (hb:PE X b tb) (hs:PlainIx b):PE X (.Subscript a b pos) (tOp r ta tb):=by
 intro pins s σ H Q I h;exact Subscript_ (binT ha hb I h fun v u s2 x y H2 I2 rx ry q=>hr a b pins s2 σ H2 x y v u Q I2 rx ry q (hs _ _))
def rIxL (K:PySem.W.Frag):R2:=fun x y H Q=>∃ p xs i v,x = .ref p/\y = .int i/\SqL K H p xs/\atI xs i=some v/\Q v H
def rIxT (K:PySem.W.Frag):R2:=fun x y H Q=>∃ p xs i v,x = .ref p/\y = .int i/\SqT K H p xs/\atI xs i=some v/\Q v H
def rIxS:R2:=fun x y H Q=>∃ z i c,x = .str z/\y = .int i/\z.length<=sizeLine/\atI z.cps.toList i=some c/\Q (.str ⟨#[c]⟩) H
theorem ix_list:IxR X (rIxL X.K):=by
 intro value slice pins s σ H x y v u Q I rx ry h hs;obtain⟨p,xs,i,z,rfl,rfl,hq,he,q⟩:=h;cases rx;obtain⟨t,rfl⟩:=ry;obtain⟨its,r,pl,hz⟩:=I.list hq;obtain⟨j,h1,h2,h3,h4,h5⟩:=atI_get he;obtain⟨w,ew,rw'⟩:=r.get h2;have hl:=r.length;have hn:=qG3;have fin:EP X pins σ Q w s:=⟨z,H,I,rw',q⟩;by_cases h0:0<=i
 ·have hj:i.toNat=j:=by
   rw[seqIndex_of h0 h5]at h1;exact hAv h1
  exact item_listR pl.isList h0 (by omega) (by rw[hj];simpa using ew) fin hs
 ·have hj:(i+(its.toArray.size:Int)).toNat=j:=by
   rw[seqIndex_neg (by omega) h4]at h1;rw[hAc,<-hl];exact hAv h1
  exact subscriptTail_builtinR (x:=w) pl.isList.typeIs slot_list_getitem.lookup
   (wpAny_getItem_list_neg (Q:=fun r s'=>r=w/\EP X pins σ Q r s') pl.isList (by omega) (by rw[hAc] <;> omega) (by omega) (by rw[hj];simpa using ew) ⟨rfl,fin⟩) hs
theorem qDe:IxR X (rIxT X.K):=by
 intro value slice pins s σ H x y v u Q I rx ry h hs;obtain⟨p,xs,i,z,rfl,rfl,hq,he,q⟩:=h;cases rx;obtain⟨t,rfl⟩:=ry;obtain⟨its,r,pl,hz⟩:=I.tuple hq;obtain⟨j,h1,h2,h3,h4,h5⟩:=atI_get he;obtain⟨w,ew,rw'⟩:=r.get h2;have hl:=r.length;have hn:=qG3;have fin:EP X pins σ Q w s:=⟨z,H,I,rw',q⟩;exact subscriptTail_builtinR (x:=w) pl.typeIs slot_tuple_getitem.lookup
  (getItem_tuple (j:=j) (Q:=fun r s'=>r=w/\EP X pins σ Q r s') pl (by omega) (by omega) (by rw[hAc,<-hl];exact h1) (by simpa using ew) ⟨rfl,fin⟩) hs
theorem ix_str:IxR X rIxS:=by
 intro value slice pins s σ H x y v u Q I rx ry h hs;obtain⟨z,i,c,rfl,rfl,hz,he,q⟩:=h;obtain⟨t,rfl⟩:=rx;obtain⟨t',rfl⟩:=ry;obtain⟨j,h1,h2,h3,h4,h5⟩:=atI_get he;have hl:z.cps.toList.length=z.length:=by simp[Str.length]
 rw[hl]at h1 h4 h5;have hn:=qG3;exact tail_any (typeIs_str s z t) slot_str_getitem.lookup (getItem_str (c:=c) (by
  have e1:decide (i < -(2^63:Int))=false:=decide_eq_false (by omega);have e2:decide (i >= 2^63)=false:=decide_eq_false (by omega);rw[e1,e2,Bool.or_false]) (by rw[h1];simpa using h2) ⟨.str ⟨#[c]⟩,H,I.tok _,⟨_,rfl⟩,q⟩) hs
theorem slice_bounds (lo hi:Option Int) (n:Nat):(sliceBounds lo hi none n).1=((HT.sIx n 0 lo:Nat):Int)/\(sliceBounds lo hi none n).2.1=((HT.sIx n n hi:Nat):Int)/\(sliceBounds lo hi none n).2.2=1:=by
 refine⟨?_,?_,rfl⟩
 ·cases lo with
  | none=>simp[sliceBounds,HT.sIx]
  | some i =>
   simp only[sliceBounds,HT.sIx,Option.getD_none,show(1:Int) > 0 by decide,if_true];by_cases h:i<0
   ·simp only[h,if_true] <;> omega
   ·simp only[h,if_false] <;> omega
 ·cases hi with
  | none=>simp[sliceBounds,HT.sIx]
  | some i =>
   simp only[sliceBounds,HT.sIx,Option.getD_none,show(1:Int) > 0 by decide,if_true];by_cases h:i<0
   ·simp only[h,if_true] <;> omega
   ·simp only[h,if_false] <;> omega
theorem slicePick_cut (its:List Value) (lo hi:Option Int):slicePick its.toArray lo hi none=((its.drop (HT.sIx its.length 0 lo)).take (HT.sIx its.length its.length hi - HT.sIx its.length 0 lo)).toArray:=by
 obtain⟨h1,h2,h3⟩:=slice_bounds lo hi its.toArray.size;unfold slicePick;rw[h1,h2,h3];simp only[sliceRange_one,pick_run,hAc] <;> rfl
def rSlL (K:PySem.W.Frag):V->Option Int->Option Int->Hp->VK->Prop:=fun x lo hi H Q=>∃ a xs,x = .ref a/\SqL K H a xs/\∀ p,H p=none->Q (.ref p) (upd H p (.lst (cutV xs lo hi)))
theorem sl_list:SlR X (rSlL X.K):=by
 intro pins s σ H x v vl vu lo hi sl Q I rx hs pl pu h;obtain⟨a,xs,rfl,hx,q⟩:=h;cases rx;obtain⟨its,r,ht,hz⟩:=I.list hx;have hlen:=r.length;refine⟨"list",_,slot_list_getitem.lookup,ht.isList.typeIs,?_⟩;refine wpAny_getItem_list_slice ht.isList hs pl pu .none (by simp) ?_ (by rw[hAc] <;> omega);rw[slicePick_cut,<-hlen];refine⟨.ref s.heap.objs.size,_,I.laid (t':=s.toks) (o:=.lst (cutV xs lo hi)) (fun b ob q=>Heap.get?_push_of_some _ q) (hA5 _) ?_,rfl,q _ (I.hok.fresh (hA5 _))⟩;exact⟨hAs (qCj xs lo hi) hz,_,0,(r.drop (HT.sIx xs.length 0 lo)).take (HT.sIx xs.length xs.length hi - HT.sIx xs.length 0 lo),Heap.get?_push_size _ rfl⟩
def flatV:V->Bool
 | .non=>true
 | .bl _=>true
 | .int _=>true
 | .str _=>true
 | _=>false
def eqV:V->V->Bool
 | .non,.non=>true
 | .bl a,.bl b=>a == b
 | .bl a,.int b=>(if a then 1 else 0) == b
 | .int a,.bl b=>a == (if b then 1 else 0)
 | .int a,.int b=>a == b
 | .str a,.str b=>a == b
 | _,_=>false
theorem eqAt_V (ry:qBn y u) (rx:qBn x v) (fy:flatV y=true) (fx:flatV x=true):SeqAt.EqAt A s u v (eqV y x):=by
 cases y with
 | non =>
  cases ry;cases x with
  | non=>cases rx;exact SeqAt.EqAt.same _
  | bl b=>cases rx;exact SeqAt.EqAt.none_bool b
  | int b=>obtain⟨t,rfl⟩:=rx;exact SeqAt.EqAt.none_int b t
  | str b=>obtain⟨t,rfl⟩:=rx;exact SeqAt.EqAt.none_str b t
  | _=>exact absurd (show false=true from fx) hAo
 | bl a =>
  cases ry;cases x with
  | non=>cases rx;exact SeqAt.EqAt.bool_none a
  | bl b=>cases rx;exact SeqAt.EqAt.bool_bool a b
  | int b=>obtain⟨t,rfl⟩:=rx;exact SeqAt.EqAt.bool_int a b t
  | str b=>obtain⟨t,rfl⟩:=rx;exact SeqAt.EqAt.bool_str a b t
  | _=>exact absurd (show false=true from fx) hAo
 | int a =>
  obtain⟨t',rfl⟩:=ry;cases x with
  | non=>cases rx;exact SeqAt.EqAt.int_none a t'
  | bl b=>cases rx;exact SeqAt.EqAt.int_bool a t' b
  | int b=>obtain⟨t,rfl⟩:=rx;exact SeqAt.EqAt.int_int a t' b t
  | str b=>obtain⟨t,rfl⟩:=rx;exact SeqAt.EqAt.int_str a t' b t
  | _=>exact absurd (show false=true from fx) hAo
 | str a =>
  obtain⟨t',rfl⟩:=ry;cases x with
  | non=>cases rx;exact SeqAt.EqAt.str_none a t'
  | bl b=>cases rx;exact SeqAt.EqAt.str_bool a t' b
  | int b=>obtain⟨t,rfl⟩:=rx;exact SeqAt.EqAt.str_int a t' b t
  | str b=>obtain⟨t,rfl⟩:=rx;exact SeqAt.EqAt.str_str a t' b t
  | _=>exact absurd (show false=true from fx) hAo
 | _=>exact absurd (show false=true from fy) hAo
def eqU (x:V) (u:Value):Bool:=match u with
 | .none=>eqV .non x
 | .bool b=>eqV (.bl b) x
 | .int i _=>eqV (.int i) x
 | .str z _=>eqV (.str z) x
 | _=>false
theorem eqU_of (r:qBn y u) (f:flatV y=true):eqU x u=eqV y x:=by
 cases y with
 | non=>cases r;rfl
 | bl b=>cases r;rfl
 | int i=>obtain⟨t,rfl⟩:=r;rfl
 | str z=>obtain⟨t,rfl⟩:=r;rfl
 | _=>exact absurd (show false=true from f) hAo
theorem qGf:∀ {xs:List V} {us:List Value},qBa xs us->xs.all flatV=true->us.any (eqU x)=xs.any fun y=>eqV y x
 | _,_,.nil,_=>rfl
 | y :: xs,u :: us,.cons r t,f=>by
  rw[List.all_cons,hB7]at f;rw[hD1,hD1,eqU_of r f.1,qGf t f.2]
theorem qDz (rx:qBn x v) (fx:flatV x=true):∀ {xs:List V} {us:List Value},qBa xs us->xs.all flatV=true->∀ u∈us,SeqAt.EqAt A s u v (eqU x u)
 | _,_,.nil,_=>fun u hu=>by cases hu
 | y :: xs,u :: us,.cons r t,f=>fun u' hu=>by
  rw[List.all_cons,hB7]at f;rcases hAa.mp hu with rfl | hu
  ·rw[eqU_of r f.1];exact eqAt_V r rx f.1 fx
  ·exact qDz rx fx t f.2 u' hu
def inV (x:V) (xs:List V):Bool:=xs.any fun y=>eqV y x
def rIn (K:PySem.W.Frag) (neg:Bool):R2:=fun x y H Q=>∃ p xs,y = .ref p/\(SqL K H p xs\/SqT K H p xs)/\flatV x=true/\xs.all flatV=true/\Q (.bl (if neg then !inV x xs else inV x xs)) H
theorem qCe:OpR X (compareOp .In) (rIn X.K false):=by
 intro pins s σ H x y v u Q I rx ry h;obtain⟨p,xs,rfl,hq,fx,fs,q⟩:=h;cases ry;rcases hq with hq | hq
 ·obtain⟨its,r,pl,hz⟩:=I.list hq;refine SeqAt.in_listAt (eqU x) pl.isList (fun w hw=>qDz rx fx r fs w (by simpa using hw)) ⟨.bl _,H,I,rfl,?_⟩;rw[show its.toArray.any (eqU x)=its.any (eqU x) by simp,qGf r fs];exact q
 ·obtain⟨its,r,pl,hz⟩:=I.tuple hq;refine SeqAt.in_tupleAt (eqU x) pl (fun w hw=>qDz rx fx r fs w (by simpa using hw)) ⟨.bl _,H,I,rfl,?_⟩;rw[show its.toArray.any (eqU x)=its.any (eqU x) by simp,qGf r fs];exact q
theorem op_notIn_seq:OpR X (compareOp .NotIn) (rIn X.K true):=by
 intro pins s σ H x y v u Q I rx ry h;obtain⟨p,xs,rfl,hq,fx,fs,q⟩:=h;cases ry;rcases hq with hq | hq
 ·obtain⟨its,r,pl,hz⟩:=I.list hq;refine SeqAt.notIn_listAt (eqU x) pl.isList (fun w hw=>qDz rx fx r fs w (by simpa using hw)) ⟨.bl _,H,I,rfl,?_⟩;rw[show its.toArray.any (eqU x)=its.any (eqU x) by simp,qGf r fs];exact q
 ·obtain⟨its,r,pl,hz⟩:=I.tuple hq;refine SeqAt.notIn_tupleAt (eqU x) pl (fun w hw=>qDz rx fx r fs w (by simpa using hw)) ⟨.bl _,H,I,rfl,?_⟩;rw[show its.toArray.any (eqU x)=its.any (eqU x) by simp,qGf r fs];exact q
theorem qAq:qA6 X (.builtin "len") (fun xs H Q=>∃ p ys,xs=[.ref p]/\(SqL X.K H p ys\/SqT X.K H p ys)/\Q (.int ys.length) H):=by
 intro pins s σ H xs us Q I r h;obtain⟨p,ys,rfl,hq,q⟩:=h;obtain⟨u,rfl,rx⟩:=qCa r;cases rx;have hn:=qG3;rcases hq with hq | hq
 ·obtain⟨its,r',pl,hz⟩:=I.list hq;have hlen:=r'.length;exact Calls.call_len_list pl.isList (by simp only[hAc] <;> omega) ⟨.int ys.length,H,I.tok _,⟨s.toks+1,by rw[hAc,hlen]⟩,q⟩
 ·obtain⟨its,r',pl,hz⟩:=I.tuple hq;have hlen:=r'.length;exact len_tuple pl (by simp only[hAc] <;> omega) ⟨.int ys.length,H,I.tok _,⟨s.toks+1,by rw[hAc,hlen]⟩,q⟩
theorem call_len_str:qA6 X (.builtin "len") (fun xs H Q=>∃ z,xs=[.str z]/\z.length<=sizeLine/\Q (.int z.length) H):=by
 intro pins s σ H xs us Q I r h;obtain⟨z,rfl,hz,q⟩:=h;obtain⟨u,rfl,t,rfl⟩:=qCa r;have hn:=qG3;exact len_str (by omega) ⟨.int z.length,H,I.tok _,⟨_,rfl⟩,q⟩
theorem qBs:qA6 X (.type "list") (fun xs H Q=>∃ p ys,xs=[.ref p]/\(SqL X.K H p ys\/SqT X.K H p ys)/\∀ l,H l=none->Q (.ref l) (upd H l (.lst ys))):=by
 intro pins s σ H xs us Q I r h;obtain⟨p,ys,rfl,hq,q⟩:=h;obtain⟨u,rfl,rx⟩:=qCa r;cases rx;have fin:∀ (its:List Value),qBa ys its->ys.length<=sizeLine->∀ (h':Heap) (c':Nat),(∀ b o',s.heap.get? b=some o'->h'.get? b=some o') ->
   h'.get? s.heap.objs.size=some { cls:=.type "list",dict:=none,data:=.seq its.toArray c',slots:=#[] }->EP X pins σ Q (.ref s.heap.objs.size) { s with heap:=h' }:=fun its r' hz h' c' kp e =>
  ⟨.ref s.heap.objs.size,_,I.laid (t':=s.toks) kp (hA5 _) (show qBg X.prog X.w _ h' _ (.lst ys) from ⟨hz,its,c',r',e⟩),rfl,q _ (I.hok.fresh (hA5 _))⟩
 rcases hq with hq | hq
 ·obtain⟨its,r',pl,hz⟩:=I.list hq;have hlen:=r'.length;obtain⟨o,ho,hc,n,hd⟩:=pl.isList;exact call_list_seq p (.inl rfl) ho hc hd (fun h' c' kp e=>fin its r' hz h' c' kp e) (by simp only[hAc] <;> omega)
 ·obtain⟨its,r',pl,hz⟩:=I.tuple hq;have hlen:=r'.length;obtain⟨o,ho,hc,n,hd⟩:=pl;exact call_list_seq p (.inr rfl) ho hc hd (fun h' c' kp e=>fin its r' hz h' c' kp e) (by simp only[hAc] <;> omega)
theorem call_tuple_of:qA6 X (.type "tuple") (fun xs H Q=>∃ p ys,xs=[.ref p]/\((SqL X.K H p ys/\∀ l,H l=none->Q (.ref l) (upd H l (.tup ys)))\/(SqT X.K H p ys/\Q (.ref p) H))):=by
 intro pins s σ H xs us Q I r h;obtain⟨p,ys,rfl,h⟩:=h;obtain⟨u,rfl,rx⟩:=qCa r;cases rx;rcases h with ⟨hq,q⟩ | ⟨hq,q⟩
 ·obtain⟨its,r',pl,hz⟩:=I.list hq;have hlen:=r'.length;refine call_tuple_list pl.isList (fun h' kp=>?_) (by simp only[hAc] <;> omega);have I1:Inv X pins σ H { s with heap:=h' }:=I.kept (t':=s.toks) kp;have I2:Inv X pins σ (upd H h'.objs.size (.tup ys)) { s with heap:=h'.push { cls:=.type "tuple",data:=.seq its.toArray } } :=
   I1.laid (t':=s.toks) (fun b o e=>Heap.get?_push_of_some _ e) (hA5 _) (show qBg X.prog X.w _ _ _ (.tup ys) from ⟨hz,its,r',IsTup.new _ _⟩)
  exact⟨.ref h'.objs.size,_,I2,rfl,q _ (I1.hok.fresh (hA5 _))⟩
 ·obtain⟨its,r',pl,hz⟩:=I.tuple hq;exact call_tuple_same pl ⟨.ref p,H,I,rfl,q⟩
def tyV (K:PySem.W.Frag) (T:String) (x:V) (H:Hp):Prop:=match x with
 | .str _=>T = "str"
 | .int _=>T = "int"
 | .ref p=>(T = "list"/\∃ xs,SqL K H p xs)\/(T = "tuple"/\∃ o,K.lookup p=some o/\o.cls = .type "tuple"/\o.dict=none) \/
   (T = "dict"/\((∃ kvs,H p=some (.dK kvs))\/∃ kvs,H p=some (.dT kvs)))\/(T = "set"/\∃ S n,H p=some (.set S n))
 | _=>False
theorem tyV_is (I:Inv X pins σ H s) (r:qBn x v) (ty:tyV X.K T x H) :
  s.TypeIs v T/\∀ a,v = .ref a->∃ ob,s.heap.get? a=some ob/\ob.dict=none:=by
 cases x with
 | str z =>
  obtain⟨t,rfl⟩:=r;cases(show T = "str" from ty);exact⟨typeIs_str s z t,fun _ e=>nomatch e⟩
 | int i =>
  obtain⟨t,rfl⟩:=r;cases(show T = "int" from ty);exact⟨typeIs_int s i t,fun _ e=>nomatch e⟩
 | ref p =>
  cases r;rcases ty with ⟨rfl,xs,hq⟩ | ⟨rfl,o,hk,hc,hd⟩ | ⟨rfl,hk⟩ | ⟨rfl,S,n,hk⟩
  ·obtain⟨its,_,pl,_⟩:=I.list hq;refine⟨pl.isList.typeIs,fun a e=>?_⟩;cases e;obtain⟨o,n,e,c,hd,_⟩:=pl;exact⟨o,e,hd⟩
  ·refine⟨⟨o,I.kIn p o hk,hc⟩,fun a e=>?_⟩;cases e;exact⟨o,I.kIn _ o hk,hd⟩
  ·have z:∃ o,s.heap.get? p=some o/\o.ExactDict:=by
    rcases hk with ⟨kvs,hk⟩ | ⟨kvs,hk⟩
    ·obtain⟨_,_,_,_,o,_,_,e,ex,_⟩:=I.hok p _ hk;exact⟨o,e,ex⟩
    ·obtain⟨_,_,_,_,o,_,_,e,ex,_⟩:=I.hok p _ hk;exact⟨o,e,ex⟩
   obtain⟨o,e,ex⟩:=z;refine⟨⟨o,e,ex.1⟩,fun a e2=>?_⟩;cases e2;exact⟨o,e,ex.2.1⟩
  ·obtain⟨o,_,_,_,e,ex,_⟩:=I.hok p _ hk;refine⟨⟨o,e,ex.1⟩,fun a e2=>?_⟩;cases e2;exact⟨o,e,ex.2.1⟩
 | _=>exact False.elim ty
def tBM0 (K:PySem.W.Frag) (T:String) (r:V->List V->Hp->VK->Prop) (to:TE):TE:=fun σ H Q=>to σ H fun x H1=>tyV K T x H1/\r x [] H1 Q
def tBM (K:PySem.W.Frag) (T:String) (r:V->List V->Hp->VK->Prop) (to:TE) (t:TA):TE:=fun σ H Q=>to σ H fun x H1=>tyV K T x H1/\t σ H1 fun xs H2=>r x xs H2 Q
variable {o e:Expr} {es:List Expr} {to:TE} {t:TA} {name:Str} {apos cpos:Pos} {T id:String} {r:V->List V->Hp->VK->Prop}
theorem pe_bm0 (pa:PlainAttrs T) (slot:Slot T name id) (hty:typeOf (.builtin id)=pure (.type "method_descriptor")) (hm:MtR X id r) (ho:PE X o to)
  (hbase:attributeBase o name X.env (eval o X.env)=eval o X.env:=by rfl) (hline:(apos.endLine == cpos.line)=true:=by rfl):PE X (.Call (.Attribute o name apos) [] [] cpos) (tBM0 X.K T r to):=by
 intro pins s σ H Q I h;refine wpAny_Call_method0_late hbase hline (thn (ho pins s σ H _ I h) fun v s1 ⟨x,H1,I1,r1,ty,q1⟩=>?_);obtain⟨h1,h2⟩:=tyV_is I1 r1 ty;exact⟨T,id,pa,slot,hty,h1,h2,Calls.callWith_builtin rfl (PySem.evalArgs_none (hm pins s1 σ H1 x [] v [] Q I1 r1 .nil q1))⟩
theorem pe_bm (pa:PlainAttrs T) (slot:Slot T name id) (hty:typeOf (.builtin id)=pure (.type "method_descriptor")) (hm:MtR X id r) (ho:PE X o to) (ha:PA X (e :: es) t)
  (hbase:attributeBase o name X.env (eval o X.env)=eval o X.env:=by rfl)
  (hfew:((backTo cpos (starEach (e :: es) X.env)).all (fun x=>!x.1) && (backToKw cpos (keywordEach [] X.env)).all (fun x=>x.1.isSome)
   && decide ((e :: es).length+([]:List Keyword).length+(if ([]:List Keyword).isEmpty then 0 else 1)<30))=true:=by rfl)
  (hline:(apos.endLine == cpos.line)=true:=by rfl) (hs:starEach (e :: es) X.env=(false,eval e X.env) :: starEach es X.env:=by rfl) (hplain:(backTo cpos (starEach es X.env)).any (·.1)=false:=by rfl) :
  PE X (.Call (.Attribute o name apos) (e :: es) [] cpos) (tBM X.K T r to t):=by
 intro pins s σ H Q I h;refine wpAny_Call_method_late hbase hfew hline rfl (thn (ho pins s σ H _ I h) fun v s1 ⟨x,H1,I1,r1,ty,q1⟩=>?_);obtain⟨h1,h2⟩:=tyV_is I1 r1 ty;refine⟨T,id,pa,slot,hty,h1,h2,?_⟩;have hA:=ha cpos pins s1 σ H1 _ I1 q1;rw[hs]at hA ⊢;refine Calls.callWith_builtin (by show(false || (backTo cpos (starEach es X.env)).any (·.1))=false;rw[hplain] <;> rfl) (Calls.evalArgs_plain ?_);exact thn hA fun us s2 ⟨vs,H2,I2,r2,q2⟩=>hm pins s2 σ H2 x vs v us Q I2 r1 r2 q2
end
end L2
namespace L2
open PySem PySem.Spec PyProof.Rows
def MtM (X:Cx) (id:String) (r:V->List V->Hp->VK->Prop):Prop :=
 ∀ (pins:List (Addr×Obj)) (s:Shared) (σ:St) (H:Hp) (x:V) (xs:List V) (v:Value) (us:List Value) (Q:VK),Inv X pins σ H s->qBn x v->qBa xs us->r x xs H Q ->
  wpAny (model X.prog X.w) X.A (call (.builtin id) (v :: us)) (EP X pins σ Q) X.xe s
theorem qBa.one:∀ {x:V} {us:List Value},qBa [x] us->∃ u,us=[u]/\qBn x u
 | _,_,.cons r .nil=>⟨_,rfl,r⟩
theorem qBa.zero:∀ {us:List Value},qBa [] us->us=[]
 | _,.nil=>rfl
section
variable {X:Cx} {pins:List (Addr×Obj)} {σ:St} {H:Hp} {s:Shared} {l b:Addr} {xs ys zs:List V}
theorem Inv.lset {its its':List Value} {n:Nat} {f:Array Value->Array Value} {t':Nat} (I:Inv X pins σ H s) (hH:H l=some (.lst xs))
  (e:s.heap.get? l=some { cls:=.type "list",data:=.seq its.toArray n }) (hf:f its.toArray=its'.toArray) (hv:qBa ys its') (hz:ys.length<=sizeLine) :
  Inv X pins σ (upd H l (.lst ys)) { s with heap:=s.heap.update l (Obj.mapSeq f),toks:=t' }:=by
 have q:=PySem.IsL.update e f;rw[hf]at q;refine I.write (x:=l) (e:=l) (by rw[hH];exact trivial) (.inl rfl) (fun b' u hb hu=>(Heap.get?_update_other s.heap (Obj.mapSeq f) (Ne.symm hb)).trans hu) ⟨_,q⟩ ?_;exact⟨hz,its',_,hv,q⟩
theorem Inv.lnew (I:Inv X pins σ H s) (hv:qBa ys its) (hz:ys.length<=sizeLine) :
  Inv X pins σ (upd H s.heap.objs.size (.lst ys)) { s with heap:=s.heap.push { cls:=.type "list",data:=.seq its.toArray },toks:=t' } :=
 I.laid (fun _ _ q=>Heap.get?_push_of_some _ q) (hA5 _) ⟨hz,its,0,hv,Heap.get?_push_size _ rfl⟩
theorem Inv.fresh (I:Inv X pins σ H s):H s.heap.objs.size=none:=I.hok.fresh (hA5 _)
theorem Inv.lstM (I:Inv X pins σ H s) (hH:H l=some (.lst xs)):xs.length<=sizeLine/\∃ (its:List Value) (n:Nat),qBa xs its/\xs.length=its.length/\s.heap.get? l=some { cls:=.type "list",data:=.seq its.toArray n }:=by
 obtain⟨z,its,n,r,e⟩:=I.hok l _ hH;exact⟨z,its,n,r,r.length,e⟩
end
section
variable {X:Cx}
def rAppend:V->List V->Hp->VK->Prop:=fun x vs H Q=>∃ l xs y,x = .ref l/\vs=[y]/\H l=some (.lst xs)/\xs.length<sizeLine/\Q .non (upd H l (.lst (xs++[y])))
theorem qCf:MtM X "list.append" rAppend:=by
 intro pins s σ H x vs v us Q I rx rv h;obtain⟨l,xs,y,rfl,rfl,hH,hz,q⟩:=h;cases rx;obtain⟨u,rfl,ru⟩:=rv.one;obtain⟨z,its,n,r,hl,e⟩:=I.lstM hH;refine call_meets F.slot_list_append ⟨_,e,rfl⟩ F.entry_list_append (F.args_list_append_2 _ _) (PySem.list_append l its.toArray n u (by rw[hAc];omega)) ⟨e,?_⟩;refine⟨.non,_,I.lset (its':=its++[u]) hH e (by simp) (r.append (.cons ru .nil)) ?_,rfl,q⟩;rw[hAd,List.length_singleton];omega
def rCat:R2:=fun x y H Q=>∃ l b xs zs,x = .ref l/\y = .ref b/\H l=some (.lst xs)/\H b=some (.lst zs)/\xs.length+zs.length<=sizeLine/\∀ p,H p=none->Q (.ref p) (upd H p (.lst (xs++zs)))
theorem qDd:OpR X (binaryOp .Add) rCat:=by
 intro pins s σ H x y v u Q I rx ry h;obtain⟨l,b,xs,zs,rfl,rfl,hH,hB,hz,q⟩:=h;cases rx;cases ry;obtain⟨z,its,n,r,hl,e⟩:=I.lstM hH;obtain⟨z2,its2,n2,r2,hl2,e2⟩:=I.lstM hB;refine PySem.P.add_list e e2 ?_ (by rw[hAc,hAc];omega);have ea:its.toArray++its2.toArray=(its++its2).toArray:=by simp
 rw[ea];exact⟨.ref _,_,I.lnew (t':=s.toks) (r.append r2) (by rw[hAd];omega),rfl,q _ I.fresh⟩
end
end L2
namespace Att
open PySem PySem.W PySem.Calls PyProof.Rows
theorem qF9:∀ (ns:List Int) (vs:List Value),WellAll P h vs (ns.map WData.int)->IntsAre vs ns:=by
 intro ns
 induction ns with
 | nil =>
  intro vs w;rw[List.map_nil]at w;cases w;exact .nil
 | cons n ns ih =>
  intro vs w;rw[hAm]at w;cases w with
  | cons a b =>
   cases a;exact .cons _ _ (ih _ b)
theorem script_of {l:OpenLaw} {n:Nat} (hn:l.most=some n) {P:Params} {h:Heap} {args:List WData} {vals:List Value}
  (hpre:l.row.toRowW.claim.pre args=true) (hwl:WellAll P h vals args) :
  ∃ a vs ns,vals=[Value.ref a]/\args=[WData.list (ns.map WData.int)]/\h.get? a=some { cls:=.type "list",data:=.seq vs.toArray }/\IntsAre vs ns/\ns.length<=n:=by
 have hsh:WShape.hasAll [] args [.list .int]=true:=(pre_splitW hpre).1;have hc:l.pre.holds [] { args:=args }=true:=(pre_splitW hpre).2;obtain⟨d,r,rfl,h1,h2⟩:=hasAllW_cons hsh;obtain rfl:=hasAllW_nil h2;obtain⟨xs,rfl,h3⟩:=hasW_list h1;obtain⟨ns,rfl⟩:=items_int h3;have hlen:ns.length<=n:=by
  unfold OpenLaw.pre at hc;have h4:(WTm.not (.lt (.lit (.int (n:Int))) (.len (.arg 0)))).holds [] { args:=[.list (ns.map .int)] }=true:=by
   have h4:=(holds_andW hc).1;rw[hn]at h4;exact h4
  have h5:=condW_of h4 (w_not (w_lt w_lit (w_len_list (w_arg rfl))));rw[hA1]at h5;refine Nat.le_of_not_lt fun q=>?_
  have q':(n:Int)<((ns.length:Nat):Int):=by omega
  first
   | (rw[decide_eq_true q']at h5;exact absurd h5 (by decide))
   | (simp at h5;omega)
 cases hwl with
 | cons w1 w2 =>
  cases w2;cases w1 with
  | list ho hall=>exact⟨_,_,ns,rfl,rfl,ho,qF9 ns _ hall,hlen⟩
theorem post_true (l:OpenLaw) (args:List WData):l.row.toRowW.claim.post args (.bool true) args=true :=
 postW_of (r:=l.row.toRowW) (X:=(true == true))
  (show WShape.has [] (.bool true) .bool=true by first | rfl | decide | simp[WShape.has,WShape.arms,WShape.armsAll])
  (show(WTm.eq .res (.lit (.bool true))).value [] { args:=args,res:=some (.bool true),after:=args }=some (.bool (true == true)) from w_eq_bool (w_res rfl) w_lit) rfl
theorem attach_call {l:OpenLaw} {n:Nat} {q:Program} {loose:List Str} {XP:(Str->Option Value)->Heap->Prop} {YP:World->Heap->Prop} {d:DefRec}
  (hn:l.most=some n) (hdf:d.params.defaults=[])
  (call:∀ (w:World) (s₀ s₁:Shared) (mg mb:Str->Option Value) (fa:Addr) (o:Obj) (pm cd doc:Value) (a:Addr) (vs:List Value) (ns:List Int),
   Ground q loose [] XP w s₀ mg mb s₁.heap->YP w s₁.heap ->
   s₁.heap.get? fa=some o->o.data = .func (docDef d.name d.params d.body d.scope pm cd doc)->s₁.heap.CodeRec cd d.name->mg d.name=some (.ref fa) ->
   s₁.heap.get? a=some { cls:=.type "list",data:=.seq vs.toArray }->IntsAre vs ns->ns.length<=n->s₁.gens=#[] ->
   codeAny (model l.prog w) callerA (.call (.ref fa) ⟨[.ref a],[]⟩) (fun r s'=>r = .ok (.ret (.bool true))/\OldK s₁.heap s'.heap/\s'.os=s₁.os/\AllBare s'.gens) s₁) :
  WalkO q loose XP YP l.row.toRowW d [] (fun f vs=>PySem.call f vs):=by
 intro w s₀ s₁ mg mb G Y fa o pm cd doc dV kV ho hd hcd hD hmg hg args vals as hpre hlay hrd hwl hlo;obtain rfl:dV = .none:=Dflts.none hD hdf;obtain rfl:kV = .none:=Dflts.noKw hD;obtain⟨a,vs,ns,rfl,rfl,hobj,hints,hlen⟩:=script_of hn hpre hwl;refine enter_call (codeAny_mono (call w s₀ s₁ mg mb fa o pm cd doc a vs ns G Y ho (fd_plain hd) hcd hmg hobj hints hlen hg) fun r s' hq=>?_);obtain⟨rfl,h2,h3,h4⟩:=hq;exact⟨.inl ⟨.bool true,.bool true,[],rfl,fun _=>rfl,.bool true,post_true l _,fun _=>⟨List.Pairwise.nil,fun _ hm=>(nomatch hm)⟩⟩,h2,h3,h4⟩
section
variable {prog:Program} {w:World} {A:Around} {E:Value->Shared->Prop} {s:Shared} {K:Frag}
def ledger (h:Heap) (L d:Addr):List (Addr×Obj):=(List.range h.objs.size).filterMap fun a=>if a=L\/a=d then none else (h.get? a).map fun o=>(a,o)
end
end Att
namespace L2
open PySem PySem.Spec PyProof.Rows
theorem qFn:∀ {vs:List Value} {ns:List Int},IntsAre vs ns->qBa (ns.map V.int) vs
 | _,_,.nil=>.nil
 | _,_,.cons n t h=>.cons ⟨t,rfl⟩ (qFn h)
end L2
namespace L2
open PySem PySem.Spec PyProof.Rows
def qAs (s:Stmt):Arguments:=match s with
 | .FunctionDef _ a _ _ _ _ _ _ _ _=>a
 | _=>{ posonlyargs:=[],args:=[],vararg:=none,kwonlyargs:=[],kw_defaults:=[],kwarg:=none,defaults:=[] }
def qAo (s:Stmt):List Stmt:=match s with
 | .FunctionDef _ _ b _ _ _ _ _ _ _=>b
 | _=>[]
def qAb (s:Stmt):Scope:=match s with
 | .FunctionDef _ _ _ _ _ _ sc _ _ _=>sc
 | _=>{ kind:=.function,names:=[],isGenerator:=false,isCoroutine:=false }
abbrev CX0:CXT:=fun _ _ _ _ _ _=>False
abbrev E0:XK:=fun _ _ _=>False
theorem qAz:Passes CX0 X E0:=fun _ _ _ _ _ _ _ h=>h.elim
structure Fun (K:PySem.W.Frag) (x qual:Str) (st:Stmt) (f:Addr) (fd:FuncData):Prop where
 ex:∃ (oc:Value) (od:Option Addr) (kV doc pm:Value) (an:Option Addr) (cdv ct:Value) (osl:Array (Option Value)),
  fd=PySem.W.fnOf x qual (qAs st) (qAo st) (qAb st) .none kV doc pm an cdv ct/\K.lookup f=some ⟨oc,od,.func fd,osl⟩/\PySem.W.codeIn K cdv qual=true
 kp:PySem.W.keepIn K (.ref f)=true
section
variable {P:Program} {w:World} {K:PySem.W.Frag} {mg:Str->Option Value} {base:Heap}
theorem Fun.ok {x qual:Str} {st:Stmt} {f:Addr} {fd:FuncData} {N ps:List Str} {k:Nat} {sp:Sp} (F:Fun K x qual st f fd) (S:FnScope N ps (qAb st)) (len:∀ vs H Q E,sp vs H Q E->vs.length=ps.length)
  (hbody:∀ (cdv:Value) (A:Around) (outer:List Env) (s:Shared) (H:Hp) (vs:List V) (Q:VK) (E:XK),Room k (A.deeper (envOfC qual (qAb st) s.heap.objs.size f cdv))->sp vs H Q E ->
   ∃ t,PSs (qB5 CX0 P w K mg base N qual (qAb st) f cdv A outer s H E).nox (qAo st) t/\t { nx:=fun _ H'=>Q .non H',rt:=Q } (start N vs) H):FnOk P w K mg base CX0 (k+1) f fd ps sp:=by
 obtain⟨oc,od,kV,doc,pm,an,cdv,ct,osl,rfl,lk,hcd⟩:=F.ex;refine fn_of lk hcd S len fun A outer s H vs Q E hr hsp=>?_
 obtain⟨t,h,q⟩:=hbody cdv A outer s H vs Q E hr hsp;exact⟨t,h.nox,q⟩
theorem Fun.binds {x qual:Str} {st:Stmt} {f:Addr} {fd:FuncData} {ps:List Str} (F:Fun K x qual st f fd)
  (h:∀ (kV doc pm:Value) (an:Option Addr) (cdv ct:Value) (us:List Value),us.length=ps.length->bindArgs (PySem.W.fnOf x qual (qAs st) (qAo st) (qAb st) .none kV doc pm an cdv ct) ⟨us,[]⟩=pure (ps.zip us)):Binds K fd ps []:=by
 obtain⟨oc,od,kV,doc,pm,an,cdv,ct,osl,rfl,lk,hcd⟩:=F.ex;exact .all (h kV doc pm an cdv ct)
theorem qA2 {x qual:Str} {st:Stmt} {f:Addr} {oc:Value} {od an:Option Addr} {osl:Array (Option Value)} {kV doc pm cdv ct:Value} (l:K.lookup f=some ⟨oc,od,.func (PySem.W.fnOf x qual (qAs st) (qAo st) (qAb st) .none kV doc pm an cdv ct),osl⟩)
  (c:PySem.W.codeIn K cdv qual=true) (k:PySem.W.keepIn K (.ref f)=true):Fun K x qual st f (PySem.W.fnOf x qual (qAs st) (qAo st) (qAb st) .none kV doc pm an cdv ct):=⟨⟨oc,od,kV,doc,pm,an,cdv,ct,osl,rfl,l,c⟩,k⟩
end
theorem hu_of (hr:Room k A):A.units+1<cLine:=hD9 (Nat.add_le_add_left (by decide:1<=64) _) hr.units
theorem qAi (h:n<=1000):n<sizeLine:=hD9 h (by decide)
section
variable {X:Cx}
theorem pv (i:Nat) (hN:X.N[i]?=some x:=by rfl) (hv:Vis X.env.scope x:=by first | exact Or.inl rfl | exact Or.inr (Or.inl rfl) | exact Or.inr (Or.inr rfl)) (hd:(x == ("__debug__" : Str))=false:=by decide)
  (hcd:(x == ("__classdict__" : Str))=false:=by decide):PE X (.Name x pos) (tVar i):=pe_var hN hv hd hcd
end
theorem iteF {A B:Prop} (h:B):if false=true then A else B:=by
 rw[if_neg hAo];exact h
theorem iteT {A B:Prop} (h:A):if true=true then A else B:=by
 rw[if_pos rfl];exact h
theorem qDa {c A B:Prop} [Decidable c] (h1:c->A) (h2:¬c->B):if c then A else B:=by
 by_cases h:c
 ·rw[if_pos h];exact h1 h
 ·rw[if_neg h];exact h2 h
end L2
set_option linter.all false
namespace L2
open PySem PySem.Spec PyProof.Rows
section
variable {κ:Type} [DecidableEq κ]
def valV (kvs:List (κ×V)) (k:κ):Option V:=(kvs.find? fun kv=>decide (kv.1=k)).map (·.2)
def qGh (kvs:List (κ×V)) (k:κ) (v:V):List (κ×V) :=
 if (kvs.any fun kv=>decide (kv.1=k))=true then kvs.map (fun kv=>if kv.1=k then (kv.1,v) else kv) else kvs++[(k,v)]
theorem qDr {p:κ×V} {r:List (κ×V)} {k:κ} (e:p.1=k):valV (p :: r) k=some p.2:=by simp[valV,hDb,e]
theorem qCz {p:κ×V} {r:List (κ×V)} {k:κ} (e:¬p.1=k):valV (p :: r) k=valV r k:=by simp[valV,hDb,e]
theorem qFa (k:κ):∀ kvs:List (κ×V),(kvs.any fun kv=>decide (kv.1=k))=(valV kvs k).isSome
 | []=>rfl
 | p :: r=>by
  rw[hD1];by_cases e:p.1=k
  ·simp only[qDr e,decide_eq_true e,Bool.true_or,Option.isSome_some]
  ·rw[qCz e,decide_eq_false e,Bool.false_or];exact qFa k r
theorem qDm (kvs:List (κ×V)) (k:κ) (v:V):(qGh kvs k v).length<=kvs.length+1:=by
 unfold qGh;split
 ·rw[hA1];omega
 ·rw[hAd,hB1,List.length_nil];omega
theorem putK_new {kvs:List (κ×V)} {k:κ} (v:V) (h:valV kvs k=none):qGh kvs k v=kvs++[(k,v)]:=by
 unfold qGh;rw[qFa,h];exact if_neg (by decide)
theorem RelO.isSome_eq (r:RelO o u):o.isSome=u.isSome:=by
 cases o with
 | none=>cases u with
  | none=>rfl
  | some _=>exact(show False from r).elim
 | some _=>cases u with
  | none=>exact(show False from r).elim
  | some _=>rfl
theorem RelO.getD (r:RelO o u) (rd:qBn d d'):qBn (o.getD d) (u.getD d'):=by
 cases o with
 | none=>cases u with
  | none=>exact rd
  | some _=>exact(show False from r).elim
 | some _=>cases u with
  | none=>exact(show False from r).elim
  | some _=>exact r
theorem KV.val {kvs:List (κ×V)} {vs:List (κ×Value)} (r:KV kvs vs) (k:κ):RelO (valV kvs k) (valueAt vs k):=by
 unfold KV at r
 induction r with
 | nil=>exact True.intro
 | @cons p q ps qs h t ih =>
  obtain⟨h1,h2⟩:=h;by_cases e:p.1=k
  ·have e':q.1=k:=h1.symm.trans e;have b:valueAt (q :: qs) k=some q.2:=by simp[valueAt,hDb,e']
   rw[qDr e,b];exact h2
  ·have e':¬q.1=k:=fun z=>e (h1.trans z)
   have b:valueAt (q :: qs) k=valueAt qs k:=by simp[valueAt,hDb,e']
   rw[qCz e,b];exact ih
theorem KV.any (r:KV kvs vs) (k:κ):(kvs.any fun kv=>decide (kv.1=k))=vs.any fun kv=>decide (kv.1=k):=by
 unfold KV at r
 induction r with
 | nil=>rfl
 | cons h t ih=>rw[hD1,hD1,ih,h.1]
theorem KV.repl (r:KV kvs vs) (k:κ) (ry:qBn y u) :
  KV (kvs.map fun kv=>if kv.1=k then (kv.1,y) else kv) (vs.map fun kv=>if kv.1=k then (kv.1,u) else kv):=by
 unfold KV at r ⊢
 induction r with
 | nil=>exact .nil
 | @cons p q ps qs h t ih =>
  rw[hAm,hAm];refine .cons ?_ ih;obtain⟨h1,h2⟩:=h;by_cases e:p.1=k
  ·rw[if_pos e,if_pos (h1.symm.trans e)];exact⟨h1,ry⟩
  ·rw[if_neg e,if_neg (fun z=>e (h1.trans z))];exact⟨h1,h2⟩
theorem KV.put (r:KV kvs vs) (k:κ) (ry:qBn y u):KV (qGh kvs k y) (stored vs k u):=by
 unfold qGh stored;rw[r.any k];by_cases e:(vs.any fun kv=>decide (kv.1=k))=true
 ·rw[if_pos e,if_pos e];exact r.repl k ry
 ·rw[if_neg e,if_neg e];exact Paired.snoc r ⟨rfl,ry⟩
theorem KV.length (r:KV kvs vs):kvs.length=vs.length:=Paired.length r
end
theorem kV_is (r:qBn (kV k) u):(qA1 P w).is k u=true:=by
 cases k with
 | inl i=>obtain⟨t,e⟩:=(show ∃ t,u=Value.int i t from r);subst e;exact mixKind_int P w i t
 | inr x=>obtain⟨t,e⟩:=(show ∃ t,u=Value.str x t from r);subst e;exact mixKind_str P w x t
theorem items_are:∀ {ks:List Key} {us:List Value},qBa (ks.map kV) us->ItemsAre (qA1 P w) ks us
 | [],_,r=>by rw[List.map_nil]at r;cases r;exact .nil
 | k :: ks,_,r=>by
  rw[hAm]at r;cases r with
  | cons h t=>exact .cons (kV_is h) (items_are t)
abbrev KT (H:Hp):List (List Key×V)->List (List Key×Addr×Value)->Prop:=Paired fun p q=>p.1=q.1/\H q.2.1=some (.tup (p.1.map kV))/\qBn p.2 q.2.2
theorem KT.val {H:Hp} {kvs:List (List Key×V)} {xs:List (List Key×Addr×Value)} (r:KT H kvs xs) (k:List Key):RelO (valV kvs k) ((atKey xs k).map (·.2)):=by
 induction r with
 | nil=>exact True.intro
 | @cons p q ps qs h t ih =>
  obtain⟨h1,_,h2⟩:=h;by_cases e:p.1=k
  ·have e':q.1=k:=h1.symm.trans e;have b:atKey (q :: qs) k=some q.2:=by simp[atKey,hDb,e']
   rw[qDr e,b];exact h2
  ·have e':¬q.1=k:=fun z=>e (h1.trans z)
   have b:atKey (q :: qs) k=atKey qs k:=by simp[atKey,hDb,e']
   rw[qCz e,b];exact ih
theorem KT.repl (r:KT H kvs xs) (k:List Key) (ry:qBn y u) :
  KT H (kvs.map fun kv=>if kv.1=k then (kv.1,y) else kv) (xs.map (putAt k u)):=by
 induction r with
 | nil=>exact .nil
 | @cons p q ps qs h t ih =>
  rw[hAm,hAm];refine .cons ?_ ih;obtain⟨h1,h2,h3⟩:=h;unfold putAt;by_cases e:p.1=k
  ·rw[if_pos e,if_pos (h1.symm.trans e)];exact⟨h1,h2,ry⟩
  ·rw[if_neg e,if_neg (fun z=>e (h1.trans z))];exact⟨h1,h2,h3⟩
theorem KT.put (r:KT H kvs xs) (k:List Key) (hb:H b=some (.tup (k.map kV))) (ry:qBn y u) :
  KT H (qGh kvs k y) (storedH xs k b u):=by
 have e:(kvs.any fun kv=>decide (kv.1=k))=(atKey xs k).isSome:=by
  rw[qFa,(r.val k).isSome_eq,Option.isSome_map]
 unfold qGh storedH;rw[e];by_cases q:(atKey xs k).isSome=true
 ·rw[if_pos q,if_pos q];exact r.repl k ry
 ·rw[if_neg q,if_neg q];exact Paired.snoc r ⟨rfl,hb,ry⟩
theorem KT.keeps (r:KT H kvs xs) (ht:∀ b ys,H b=some (.tup ys)->H' b=some (.tup ys)):KT H' kvs xs :=
 Paired.mapP r fun _ _ z=>⟨z.1,ht _ _ z.2.1,z.2.2⟩
section
variable {P:Program} {w:World} {H:Hp} {h:Heap} {a:Addr}
theorem rd_of (ok:HOk P w H h) (e:Rd H a u):qBg P w H h a u:=e.ok ok
theorem dk_rd (ok:HOk P w H h) (e:Rd H a (.dK kvs)):kvs.length<=sizeLine/\(a == sysModules)=false/\∃ vs,KV kvs vs/\h.DictOf (qA1 P w) a vs :=
 show qBg P w H h a (.dK kvs) from rd_of ok e
theorem dk_of (ok:HOk P w H h) (e:H a=some (.dK kvs)):kvs.length<=sizeLine/\(a == sysModules)=false/\∃ vs,KV kvs vs/\h.DictOf (qA1 P w) a vs:=dk_rd ok (.inl e)
theorem key_of (ok:HOk P w H h) (e:H a=some (.tup (ks.map kV))):(tupleKind (qA1 P w)).is h ks a:=by
 obtain⟨_,its,r,o,h1,h2,n,h3⟩:=(show qBg P w H h a (.tup (ks.map kV)) from ok a _ e);exact⟨o,its.toArray,n,h1,h2,h3,by simpa using items_are r⟩
theorem dt_rd (ok:HOk P w H h) (e:Rd H a (.dT kvs)):kvs.length<=sizeLine/\(a == sysModules)=false /\
  ∃ xs,KT H kvs xs/\h.DictOfH (tupleKind (qA1 P w)) a xs:=by
 obtain⟨z,y,xs,r,o,es,ep,h1,h2,h3,h4,h5⟩:=(show qBg P w H h a (.dT kvs) from rd_of ok e);refine⟨z,y,xs,r,o,es,ep,h1,h2,h3,h4,fun x hx=>?_,h5⟩;have all:∀ {l:List (List Key×V)} {m:List (List Key×Addr×Value)},KT H l m->∀ x∈m,(tupleKind (qA1 P w)).is h x.1 x.2.1:=by
  intro l m q
  induction q with
  | nil=>intro x hx;exact nomatch hx
  | @cons p q ps qs hq t ih =>
   intro x hx;rcases hAa.mp hx with e | hx
   ·subst e;exact key_of ok (by rw[<-hq.1];exact hq.2.1)
   ·exact ih x hx
 exact all r x hx
theorem dt_of (ok:HOk P w H h) (e:H a=some (.dT kvs)):kvs.length<=sizeLine/\(a == sysModules)=false /\
  ∃ xs,KT H kvs xs/\h.DictOfH (tupleKind (qA1 P w)) a xs:=dt_rd ok (.inl e)
end
def DGet (H:Hp) (a:Addr) (y:V) (r:Option V):Prop :=
 (∃ kvs k,Rd H a (.dK kvs)/\y=kV k/\r=valV kvs k)\/∃ kvs k b,Rd H a (.dT kvs)/\y = .ref b/\H b=some (.tup (k.map kV))/\r=valV kvs k
def DPut (H:Hp) (a:Addr) (y v:V) (H':Hp):Prop :=
 (∃ kvs k,H a=some (.dK kvs)/\y=kV k/\kvs.length<sizeLine/\H'=upd H a (.dK (qGh kvs k v))) \/
 ∃ kvs k b,H a=some (.dT kvs)/\y = .ref b/\H b=some (.tup (k.map kV))/\kvs.length<sizeLine/\H'=upd H a (.dT (qGh kvs k v))
theorem DGet.k {H:Hp} {a:Addr} {kvs:List (Key×V)} {k:Key} (e:H a=some (.dK kvs)):DGet H a (kV k) (valV kvs k):=.inl ⟨kvs,k,.inl e,rfl,rfl⟩
theorem DPut.k {H:Hp} {a:Addr} {kvs:List (Key×V)} {k:Key} {v:V} (e:H a=some (.dK kvs)) (hl:kvs.length<sizeLine):DPut H a (kV k) v (upd H a (.dK (qGh kvs k v))):=.inl ⟨kvs,k,e,rfl,hl,rfl⟩
section
variable {X:Cx} {pins:List (Addr×Obj)} {σ:St} {H:Hp} {s:Shared} {a:Addr} {y v:V} {u r:Value} {o:Option V} {A:Around} {E:Value->Shared->Prop}
theorem Inv.big (I:Inv X pins σ H s):sysModules<s.heap.objs.size:=by
 have h:mainGlobals<s.heap.objs.size:=(I.mod.glob.keeps I.bk).lt;exact Nat.lt_trans (by decide) h
theorem d_getItem (hu:A.units+1<cLine) (I:Inv X pins σ H s) (g:DGet H a y (some v)) (ry:qBn y u) (h:∀ w' s',Inv X pins σ H s'->qBn v w'->Q w' s') :
  wpAny (model X.prog X.w) A (getItem (.ref a) u) Q E s:=by
 rcases g with ⟨kvs,k,e,ey,l⟩ | ⟨kvs,k,b,e,ey,eb,l⟩
 ·subst ey;obtain⟨z,hd,vs,rel,dd⟩:=dk_rd I.hok e;obtain⟨w',hw,rw'⟩:=RelO.some_of (v:=v) (o:=valueAt vs k) (by rw[l];exact rel.val k);exact wpAny_getItem_of (kV_is ry) dd.mapOf hw (h w' _ (I.tok _) rw')
 ·subst ey;cases(show u=Value.ref b from ry);obtain⟨z,hd,xs,rel,dd⟩:=dt_rd I.hok e;obtain⟨w',hw,rw'⟩:=RelO.some_of (v:=v) (o:=(atKey xs k).map (·.2)) (by rw[l];exact rel.val k);obtain⟨p,hp,hp2⟩:=Option.map_eq_some_iff.mp hw;refine wpAny_getItem_heap (tupleKind_room_in1 hu) (key_of I.hok eb) dd hp ?_;rw[hp2];exact h w' _ (I.tok _) rw'
theorem d_write (I:Inv X pins σ H s) (mu:Mut (H a)) (hs:Heap.SameBut a s.heap h') (he:∃ q,h'.get? a=some q) (new:qBg X.prog X.w (upd H a ob) h' a ob) :
  Inv X pins σ (upd H a ob) { s with heap:=h',toks:=t' } :=
 I.write (x:=a) (e:=a) mu (.inl rfl) (fun b q hb z=>(hs.2 b hb).trans z) he new
theorem dk_new (z:kvs.length<=sizeLine) (hd:(a == sysModules)=false) (rel:KV kvs vs) (dd:h'.DictOf (qA1 P w) a vs) :
  qBg P w H' h' a (.dK kvs):=⟨z,hd,vs,rel,dd⟩
theorem d_setItem (hu:A.units+1<cLine) (I:Inv X pins σ H s) (g:DPut H a y v H') (ry:qBn y u) (rv:qBn v r) (h:∀ s',Inv X pins σ H' s'->Q () s') :
  wpAny (model X.prog X.w) A (setItem (.ref a) u r) Q E s:=by
 rcases g with ⟨kvs,k,e,ey,l,eH⟩ | ⟨kvs,k,b,e,ey,eb,l,eH⟩
 ·subst ey eH;obtain⟨z,hd,vs,rel,dd⟩:=dk_of I.hok e;have hz:vs.length<=sizeLine:=by rw[<-rel.length];exact z
  have hl:(qGh kvs k v).length<=sizeLine:=by have:=qDm kvs k v;omega
  refine wpAny_setItem_pairs (hsz:=hz) (kV_is ry) dd fun h' dd' hs=>h _ ?_
  have he:∃ q,h'.get? a=some q:=let ⟨q,_,_,hq,_⟩:=dd';⟨q,hq⟩;exact d_write I (by rw[e];exact True.intro) hs he (dk_new hl hd (rel.put k rv) dd')
 ·subst ey eH;cases(show u=Value.ref b from ry);obtain⟨z,hd,xs,rel,dd⟩:=dt_of I.hok e;have hz:xs.length<=sizeLine:=by rw[<-Paired.length rel];exact z
  have hl:(qGh kvs k v).length<=sizeLine:=by have:=qDm kvs k v;omega
  refine wpAny_setItem_heap (hsz:=hz) (tupleKind_room_in1 hu) (key_of I.hok eb) dd fun h' dd' hs=>h _ ?_
  obtain⟨q,es,ep,hq,h2,h3,h4,_,h5⟩:=dd';refine d_write I (by rw[e];exact True.intro) hs ⟨q,hq⟩ ⟨hl,hd,_,(rel.put k eb rv).keeps fun c ys ec=>?_,q,es,ep,hq,h2,h3,h4,h5⟩;rw[qAe (ne_of ec e (fun z=>nomatch z))];exact ec
end
def NoSl (i:Expr):Prop:=∀ ov iv,subscripted i false ov iv=operate [ov,iv] (getItem ov iv)
theorem subD_of {prog:Program} {w:World} {A:Around} {E:Value->Shared->Prop} {s:Shared} {env:Env} {value slice:Expr} {pos:Pos} {T id:String} {Q:Value->Shared->Prop}
  (hl:typeLookup (.type T) "__getitem__" = pure (some (.builtin id))) (hs:NoSl slice)
  (h:wpAny (model prog w) A (eval value env) (fun o s₁=>wpAny (model prog w) A (eval slice env) (fun i s₂=>s₂.TypeIs o T/\wpAny (model prog w) A (getItem o i) Q E s₂) E s₁) E s) :
  wpAny (model prog w) A (eval (.Subscript value slice pos) env) Q E s:=by
 refine Subscript_ (wpAny_mono h (fun o s₁ h₁=>wpAny_mono h₁ (fun i s₂ h₂=>?_) fun _ _ x=>x) fun _ _ x=>x);obtain⟨hT,h₂⟩:=h₂;unfold subscriptTail;refine wpAny_bind ?_;rw[getitemInPython_of_ne hT.not_modules];refine wpAny_bind (wpAny_specialOf hT hl ?_);have fin:wpAny (model prog w) A (subscripted slice false o i) (fun r s₃=>wpAny (model prog w) A (letTemporaryGo value o r >>= fun _=>pure r) Q E s₃) E s₂:=by
  rw[hs o i];exact wpAny_operating (wpAny_mono h₂ (fun r s₃ h₃=>wpAny_bind (wpAny_letTemporaryGo (wpAny_pure h₃))) fun _ _ x=>x)
 first
  | exact wpAny_pure (wpAny_bind fin)
  | exact wpAny_bind (wpAny_pure (wpAny_bind fin))
  | exact wpAny_bind fin
theorem dict_typeIs (I:Inv X pins σ H s) (g:DGet H a y o):s.TypeIs (.ref a) "dict":=by
 rcases g with ⟨kvs,k,e,_,_⟩ | ⟨kvs,k,b,e,_,_,_⟩
 ·obtain⟨_,_,vs,_,dd⟩:=dk_rd I.hok e;exact dd.typeIs
 ·obtain⟨_,_,xs,_,dd⟩:=dt_rd I.hok e;exact dd.typeIs
def tDGet (td ty:TE):TE:=fun σ H Q=>td σ H fun x H1=>ty σ H1 fun y H2=>∃ a v,x = .ref a/\DGet H2 a y (some v)/\Q v H2
def sDPut (td ty tv:TE):TS:=fun D σ H=>tv σ H fun v H1=>td σ H1 fun x H2=>ty σ H2 fun y H3=>∃ a H4,x = .ref a/\DPut H3 a y v H4/\D.nx σ H4
section
variable {X:Cx} {o i e value:Expr} {pos pos' tpos:Pos} {td ty tv:TE}
theorem pe_dget (hu:X.A.units+1<cLine) (ho:PE X o td) (hi:PE X i ty) (hs:NoSl i):PE X (.Subscript o i pos) (tDGet td ty):=by
 intro pins s σ H Q I h;refine subD_of PySem.F.slot_dict_getitem.lookup hs (thn (ho pins s σ H _ I h) fun u s1 ⟨x,H1,I1,rx,q1⟩=>thn (hi pins s1 σ H1 _ I1 q1) fun iv s2 ⟨y,H2,I2,ry,a,v,ex,g,q2⟩=>?_);subst ex;obtain rfl:u=Value.ref a:=rx;exact⟨dict_typeIs I2 g,d_getItem hu I2 g ry fun w' s3 I3 rw'=>⟨v,H2,I3,rw',q2⟩⟩
theorem ps_dput (hu:X.A.units+1<cLine) (ho:PE X o td) (hi:PE X i ty) (hv:PE X value tv) (hs:swapsWith value (some (.Subscript o i pos')) pos.line X.env=pure false) :
  PS X (.Assign [.Subscript o i pos'] value pos) (sDPut td ty tv):=by
 intro pins s σ H D I h;refine wpAny_Assign_Subscript (thn (hv pins s σ H _ I h) fun r s1 ⟨v,H1,I1,rv,q1⟩=>thn (ho pins s1 σ H1 _ I1 q1) fun u s2 ⟨x,H2,I2,rx,q2⟩=>thn (hi pins s2 σ H2 _ I2 q2) fun iv s3 ⟨y,H3,I3,ry,a,H4,ex,g,q3⟩=>?_) hs;subst ex;obtain rfl:u=Value.ref a:=rx;exact d_setItem hu I3 g ry rv fun s4 I4=>⟨σ,H4,I4,q3⟩
end
theorem dk_empty (h:Heap) (hb:sysModules<h.objs.size):qBg P w H (h.push { cls:=.type "dict",data:=.dict #[] }) h.objs.size (.dK []) :=
 ⟨hAq _,beq_eq_false_iff_ne.mpr (Ne.symm (hAk hb)),[],.nil,Heap.DictOf.new h⟩
def tDNewK:TE:=fun _ H Q=>∀ p,H p=none->Q (.ref p) (upd H p (.dK []))
section
variable {X:Cx} {pos:Pos}
theorem pe_dnewK:PE X (.Dict [] [] pos) tDNewK:=fun pins s σ H Q I h =>
 wpAny_Dict_empty ⟨.ref s.heap.objs.size,_,I.laid (a:=s.heap.objs.size) (o:=.dK []) (t':=s.toks) (fun _ _ q=>Heap.get?_push_of_some _ q) (hA5 _) (dk_empty s.heap I.big),rfl,h _ (I.hok.fresh (hA5 _))⟩
end
structure M1 (X:Cx) (o:Expr) (m:Str) (apos:Pos) (e:Expr) (cpos:Pos):Prop where
 base:attributeBase o m X.env (eval o X.env)=eval o X.env
 few:((backTo cpos (starEach [e] X.env)).all (fun x=>!x.1) && (backToKw cpos (keywordEach [] X.env)).all (fun x=>x.1.isSome)
  && decide (([e]:List Expr).length+([]:List Keyword).length+(if ([]:List Keyword).isEmpty then 0 else 1)<30))=true
 line:(apos.endLine == cpos.line)=true
 trees:backTo cpos (starEach [e] X.env)=[(false,eval e X.env)]
structure M2 (X:Cx) (o:Expr) (m:Str) (apos:Pos) (e f:Expr) (cpos:Pos):Prop where
 base:attributeBase o m X.env (eval o X.env)=eval o X.env
 few:((backTo cpos (starEach [e,f] X.env)).all (fun x=>!x.1) && (backToKw cpos (keywordEach [] X.env)).all (fun x=>x.1.isSome)
  && decide (([e,f]:List Expr).length+([]:List Keyword).length+(if ([]:List Keyword).isEmpty then 0 else 1)<30))=true
 line:(apos.endLine == cpos.line)=true
 trees:backTo cpos (starEach [e,f] X.env)=[(false,eval e X.env),(false,eval f X.env)]
def IsD (H:Hp) (a:Addr):Prop:=(∃ kvs,Rd H a (.dK kvs))\/∃ kvs,Rd H a (.dT kvs)
theorem isD_at (I:Inv X pins σ H s) (d:IsD H a) :
  s.TypeIs (.ref a) "dict"/\(∀ b,Value.ref a = .ref b->∃ ob,s.heap.get? b=some ob/\ob.dict=none)/\(a == sysModules)=false:=by
 rcases d with ⟨kvs,e⟩ | ⟨kvs,e⟩
 ·obtain⟨_,hd,vs,_,dd⟩:=dk_rd I.hok e;refine⟨dd.typeIs,fun b q=>?_,hd⟩;cases q;obtain⟨ob,_,_,h1,h2,_⟩:=dd;exact⟨ob,h1,h2.2.1⟩
 ·obtain⟨_,hd,xs,_,dd⟩:=dt_rd I.hok e;refine⟨dd.typeIs,fun b q=>?_,hd⟩;cases q;obtain⟨ob,_,_,h1,h2,_⟩:=dd;exact⟨ob,h1,h2.2.1⟩
section
variable {X:Cx} {pins:List (Addr×Obj)} {σ:St} {H:Hp} {s:Shared} {a:Addr} {y d:V} {u r:Value} {o:Option V} {A:Around} {E:Value->Shared->Prop}
theorem d_get2 (hu:A.units+1<cLine) (I:Inv X pins σ H s) (g:DGet H a y o) (ry:qBn y u) (rd:qBn d r) (h:∀ w' s',Inv X pins σ H s'->qBn (o.getD d) w'->Q w' s') :
  wpAny (model X.prog X.w) A (call (.builtin "dict.get") [.ref a,u,r]) Q E s:=by
 rcases g with ⟨kvs,k,e,ey,l⟩ | ⟨kvs,k,b,e,ey,eb,l⟩
 ·subst ey;obtain⟨z,hd,vs,rel,dd⟩:=dk_rd I.hok e;refine call_meetsIn PySem.F.slot_dict_get dd.typeIs PySem.F.entry_dict_get (PySem.F.args_dict_get_3 _ _ _) (meets_dict_get_default (qA1 X.prog X.w) a (kV_is ry) hd r) ⟨_,dd.mapOf,h _ _ (I.tok _) ?_⟩;rw[l];exact(rel.val k).getD rd
 ·subst ey;cases(show u=Value.ref b from ry);obtain⟨z,hd,xs,rel,dd⟩:=dt_rd I.hok e;refine call_meetsIn PySem.F.slot_dict_get dd.typeIs PySem.F.entry_dict_get (PySem.F.args_dict_get_3 _ _ _) (meetsH_dict_get_default (tupleKind (qA1 X.prog X.w)) a b hd r) ⟨tupleKind_room_in1 hu,k,xs,key_of I.hok eb,dd,h _ _ (I.tok _) ?_⟩;rw[l];exact(rel.val k).getD rd
end
def tDGet2 (td ty tx:TE):TE:=fun σ H Q=>td σ H fun x H1=>∃ a,x = .ref a/\IsD H1 a/\ty σ H1 fun y H2=>tx σ H2 fun z H3=>∃ o,DGet H3 a y o/\Q (o.getD z) H3
section
variable {X:Cx} {o e f:Expr} {apos cpos:Pos} {td ty tx:TE}
theorem pe_dget2 (hu:X.A.units+1<cLine) (ho:PE X o td) (he:PE X e ty) (hf:PE X f tx) (m:M2 X o "get" apos e f cpos):PE X (.Call (.Attribute o "get" apos) [e,f] [] cpos) (tDGet2 td ty tx):=by
 intro pins s σ H Q I h;refine wpAny_Call_method m.base m.few m.line PySem.F.plainAttrs_dict PySem.F.slot_dict_get PySem.F.type_dict_get (thn (ho pins s σ H _ I h) fun u s1 ⟨x,H1,I1,rx,a,ex,d,q1⟩=>?_);subst ex;obtain rfl:u=Value.ref a:=rx;obtain⟨t1,t2,_⟩:=isD_at I1 d;refine⟨t1,t2,?_⟩;rw[m.trees];refine Calls.callWith_builtin rfl (Calls.evalArgs_plain (Calls.spliced_cons (thn (he pins s1 σ H1 _ I1 q1) fun iv s2 ⟨y,H2,I2,ry,q2⟩ =>
  Calls.spliced_cons (thn (hf pins s2 σ H2 _ I2 q2) fun fv s3 ⟨z,H3,I3,rz,ov,g,q3⟩=>Calls.spliced_nil ?_))))
 exact d_get2 hu I3 g ry rz fun w' s4 I4 rw'=>⟨_,H3,I4,rw',q3⟩
end
end L2
namespace L2
open PySem PySem.Spec PyProof.Rows
end L2
namespace L2
open PySem PySem.Spec PyProof.Rows
def qB1 (cells:List (Str×Addr)):List (Str×NameKind)->List (Str×Addr)->List (Str×Addr)
 | [],acc=>acc
 | (n,k) :: r,acc=>if k == .free then qB1 cells r ((n,(cells.lookup n).getD 0) :: acc) else qB1 cells r acc
theorem qG7 (env:Env) (f:Str×NameKind->List (Str×Addr)->Sem (ForInStep (List (Str×Addr))))
  (hf:∀ n k cs,f (n,k) cs=if k == .free then (do let a ← cellOf env n;pure (.yield ((n,a) :: cs))) else pure (.yield cs)) :
  ∀ (names:List (Str×NameKind)) (acc:List (Str×Addr)),(∀ x∈names,x.2 = .free->∃ c,env.cells.lookup x.1=some c)->forIn names acc f=pure (qB1 env.cells names acc)
 | [],acc,_=>by rw[List.forIn_nil];rfl
 | (n,k) :: r,acc,h=>by
  have ih:=qG7 env f hf r;rw[List.forIn_cons,hf];unfold qB1;by_cases hk:(k == NameKind.free)=true
  ·rw[if_pos hk,if_pos hk];obtain⟨c,hc⟩:=h (n,k) hA3 (by simpa using hk);have e:cellOf env n=pure c:=by unfold cellOf;rw[hc]
   rw[e,hc];exact ih _ fun x hx=>h x (hA4 _ hx)
  ·rw[if_neg hk,if_neg hk];exact ih _ fun x hx=>h x (hA4 _ hx)
theorem closureFor_eq (h:∀ x∈scope.names,x.2 = .free->∃ c,env.cells.lookup x.1=some c):closureFor scope env=pure (qB1 env.cells scope.names []):=by
 simp only[closureFor];rw[qG7 env _ (fun n k cs=>by cases hk:k == NameKind.free <;> simp[hk]) scope.names [] h];rfl
theorem closL_mem:∀ {names:List (Str×NameKind)} {acc:List (Str×Addr)} {x:Str} {c:Addr},(x,c)∈qB1 cells names acc->(x,c)∈acc\/((x,NameKind.free)∈names/\c=(cells.lookup x).getD 0)
 | [],acc,x,c,h=>.inl h
 | (n,k) :: r,acc,x,c,h=>by
  unfold qB1 at h;by_cases hk:(k == NameKind.free)=true
  ·rw[if_pos hk]at h;rcases closL_mem h with q | ⟨q,e⟩
   ·rcases hAa.mp q with z | z
    ·cases z;exact .inr ⟨by rw[show NameKind.free=k from (by simpa using hk:k=NameKind.free).symm];exact hA3,rfl⟩
    ·exact .inl z
   ·exact .inr ⟨hA4 _ q,e⟩
  ·rw[if_neg hk]at h;rcases closL_mem h with q | ⟨q,e⟩
   ·exact .inl q
   ·exact .inr ⟨hA4 _ q,e⟩
theorem qE8 {α:Type} {x n:Str} {c:α} {l:List (Str×α)} (h:(l.lookup x).isSome=true):(((n,c) :: l).lookup x).isSome=true:=by
 rw[hCi];cases x == n <;> simp[h]
theorem qC8 {cells:List (Str×Addr)} {x:Str}:∀ {names:List (Str×NameKind)} {acc:List (Str×Addr)},((x,NameKind.free)∈names\/(acc.lookup x).isSome=true)->((qB1 cells names acc).lookup x).isSome=true
 | [],acc,h=>by
  rcases h with h | h
  ·cases h
  ·exact h
 | (n,k) :: r,acc,h=>by
  unfold qB1;by_cases hk:(k == NameKind.free)=true
  ·rw[if_pos hk];refine qC8 ?_;rcases h with h | h
   ·rcases hAa.mp h with z | z
    ·cases z;exact .inr (by rw[hCi];simp)
    ·exact .inl z
   ·exact .inr (qE8 h)
  ·rw[if_neg hk];refine qC8 ?_;rcases h with h | h
   ·rcases hAa.mp h with z | z
    ·cases z;exact absurd rfl hk
    ·exact .inl z
   ·exact .inr h
theorem cellsFrom_mem:∀ {names:List (Str×NameKind)} {n:Nat} {acc:List (Str×Addr)} {x:Str} {c:Addr},(x,c)∈cellsFrom n names acc->(x,c)∈acc\/(x,NameKind.cell)∈names
 | [],_,_,_,_,h=>.inl h
 | (y,k) :: r,n,acc,x,c,h=>by
  unfold cellsFrom at h;by_cases hk:(k == NameKind.cell)=true
  ·rw[if_pos hk]at h;rcases cellsFrom_mem h with q | q
   ·rcases hAa.mp q with z | z
    ·cases z;exact .inr (by rw[show NameKind.cell=k from (by simpa using hk:k=NameKind.cell).symm];exact hA3)
    ·exact .inl z
   ·exact .inr (hA4 _ q)
  ·rw[if_neg hk]at h;rcases cellsFrom_mem h with q | q
   ·exact .inl q
   ·exact .inr (hA4 _ q)
structure CellsTwo (h:Heap) (lo:Nat) (acc cs:List (Str×Addr)):Prop where
 part:∀ x c,(x,c)∈cs->(x,c)∈acc\/(h.IsCell c none/\lo<=c)
 inj:∀ x y c,lo<=c->(x,c)∈cs->(y,c)∈cs->x=y
theorem qCk:∀ (names:List (Str×NameKind)) (h:Heap) (lo:Nat) (acc:List (Str×Addr)),CellsTwo h lo acc0 acc->(∀ x c,(x,c)∈acc->c<h.objs.size)->lo<=h.objs.size ->
  CellsTwo (pushCells h names) lo acc0 (cellsFrom h.objs.size names acc)
 | [],_,_,_,x,_,_=>x
 | (name,kind) :: r,h,lo,acc,x,hl,hlo=>by
  unfold pushCells cellsFrom;split
  ·have:=qCk (acc0:=acc0) r (h.push { cls:=.type "cell",data:=.cell none }) lo ((name,h.objs.size) :: acc)
    ⟨fun n c hm=>by
      rcases hAa.mp hm with e | hm
      ·cases e;exact .inr ⟨⟨_,Heap.get?_push_size _ rfl,rfl⟩,hlo⟩
      ·rcases x.part n c hm with q | q
       ·exact .inl q
       ·exact .inr ⟨q.1.keeps fun b o e=>Heap.get?_push_of_some _ e,q.2⟩,
     fun a b c hc h1 h2=>by
      rcases hAa.mp h1 with e1 | h1 <;> rcases hAa.mp h2 with e2 | h2
      ·cases e1;cases e2;rfl
      ·cases e1;exact absurd (hl _ _ h2) (hBp _)
      ·cases e2;exact absurd (hl _ _ h1) (hBp _)
      ·exact x.inj a b c hc h1 h2⟩
    (fun n c hm=>by
     rw[Heap.size_push];rcases hAa.mp hm with e | hm
     ·cases e;exact hBj _
     ·exact hB6 (hl n c hm)) (by rw[Heap.size_push];omega)
   rwa [Heap.size_push]at this
  ·exact qCk r h lo acc x hl hlo
def qBv (env:Env) (scope:Scope) (C:Addr):Env :=
 { scope:=relabel scope env,locals:=C,globals:=env.globals,cells:=cellsFrom (C+1) scope.names (qB1 env.cells scope.names []),qual:=env.qual,func:=none,code:=env.code,frame:=env.frame,builtins:=env.builtins }
theorem qDp
  (hQ:Q { scope:=scope,locals:=s.heap.objs.size,globals:=env.globals,cells:=cellsFrom (s.heap.objs.size+1) scope.names cl,qual:=env.qual,func:=none,code:=env.code,frame:=env.frame,builtins:=env.builtins }
   { s with heap:=pushCells (s.heap.push { cls:=.type "dict",data:=.dict #[] }) scope.names }) :
  wpAny M A (newFunctionEnv scope env.globals cl [] env.qual none .none (some env)) Q E s:=by
 simp only[newFunctionEnv,Option.isSome_some,if_true];refine wpAny_bind (wpAny_alloc ?_);refine wpAny_bind (wpAny_layCells _ (fun name kind cells=>by cases hkc:kind == NameKind.cell <;> simp[hkc]) _ _ _ _ ?_);rw[show({ s with heap:=s.heap.push { cls:=.type "dict",data:=.dict #[] } }:Shared).heap.objs.size=s.heap.objs.size+1 from Heap.size_push ..];rw[List.forIn_nil];exact wpAny_bind (wpAny_pure (wpAny_pure hQ))
theorem compLoop_any (I:Nat->Shared->Prop)
  (turn:∀ n s,I n s->wpAny (model prog w) A (pyNext it) (fun r s₁=>match r with
   | none=>R (.ok .next) s₁
   | some v=>wpAny (model prog w) A (letOwnedTupleGo target it v) (fun _ s₁'=>wpAny (model prog w) A (assign target env v) (fun _ s₂ =>
     wpAny (model prog w) A (forIn ifs true fun c r=>if r=true then do let ok ← isTrue c env (eval c env);pure (ForInStep.yield ok) else pure (ForInStep.yield r)) (fun ok s₃ =>
      if ok=true then wpAny (model prog w) A (eval elt env) (fun x s₄ =>
       wpAny (model prog w) A (call (.builtin "list.append") [acc,x]) (fun _ s₅=>∃ m,m<n/\I m s₅) (fun _ _=>False) s₄) (fun _ _=>False) s₃
      else ∃ m,m<n/\I m s₃) (fun _ _=>False) s₂) (fun _ _=>False) s₁') (fun _ _=>False) s₁) (fun _ _=>False) s)
  (n:Nat) (h:I n s) :
  codeAny (model prog w) A (.compLoop (.ListComp elt [⟨target,iter,ifs,0⟩] scope pos) 0 it acc env) R s:=by
 refine codeAny_loop rfl I (fun n s hI=>?_) n h;show wpAny _ A ((compTurn (.ListComp elt [⟨target,iter,ifs,0⟩] scope pos) 0 it acc env).onRaise (fun x=>do noteFrame x env;theTreesLotGoes x)) _ _ s;refine wpAny_noted ?_;rw[compTurn_list];refine wpAny_bind (wpAny_standAt (wpAny_bind (wpAny_mono (turn n s hI) (fun r s₁ h₁=>?_) fun _ _ h'=>h'.elim)));cases r with
 | none=>exact wpAny_pure h₁
 | some v =>
  refine wpAny_bind (wpAny_mono h₁ (fun _ s₁' h₁=>?_) fun _ _ h'=>h'.elim);refine wpAny_bind (wpAny_mono h₁ (fun _ s₂ h₂=>wpAny_bind (wpAny_mono h₂ (fun ok s₃ h₃=>?_) fun _ _ h'=>h'.elim)) fun _ _ h'=>h'.elim);cases ok with
  | false=>exact wpAny_pure ⟨rfl,h₃⟩
  | true =>
   exact wpAny_bind (wpAny_bind (wpAny_mono h₃ (fun x s₄ h₄=>wpAny_bind (wpAny_mono h₄ (fun _ s₅ h₅=>wpAny_pure (wpAny_pure ⟨rfl,h₅⟩)) fun _ _ h'=>h'.elim)) fun _ _ h'=>h'.elim))
end L2
namespace L2
open PySem PySem.Spec PyProof.Rows
def qBp (X:Cx) (scope:Scope) (N':List Str) (C:Addr) (s:Shared) (H:Hp) (fp:List Addr):Cx :=
 { X with N:=N',s₀:=s,H₀:=H,env:=qBv X.env scope C,outer:=X.stack,stack:=X.stack,ex:=fp,fn:=fun x=>!(scope.names.lookup x == some .free),pn:=[],xe:=fun _ _=>False }
def subσ (sub:List (Option Nat)) (σ:St):St:=sub.map fun o=>o.bind fun i=>(σ[i]?).join
def cmpOkB (N:List Str) (sc:Scope) (N':List Str) (scope:Scope) (sub:List (Option Nat)):Bool :=
 scope.kind == .function && decide ((scope.names.map (·.1)).Nodup) && decide N'.Nodup && sub.length == N'.length &&
 (scope.names.all fun x=>!(x.2 == .free) || sc.names.lookup x.1 == some .cell || sc.names.lookup x.1 == some .free) &&
 ((sub.zip N').all fun p=>match p.1 with
  | none=>true
  | some i=>N[i]? == some p.2 && scope.names.lookup p.2 == some .free)
structure CmpOk (N:List Str) (sc:Scope) (N':List Str) (scope:Scope) (sub:List (Option Nat)):Prop where
 kind:scope.kind = .function
 nd:(scope.names.map (·.1)).Nodup
 nd':N'.Nodup
 len:sub.length=N'.length
 free:∀ x∈scope.names,x.2 = .free->sc.names.lookup x.1=some .cell\/sc.names.lookup x.1=some .free
 sub:∀ (j i:Nat) (x:Str),sub[j]?=some (some i)->N'[j]?=some x->N[i]?=some x/\scope.names.lookup x=some .free
theorem CmpOk.of {N:List Str} {sc:Scope} {N':List Str} {scope:Scope} {sub:List (Option Nat)} (h:cmpOkB N sc N' scope sub=true):CmpOk N sc N' scope sub:=by
 unfold cmpOkB at h;simp only[hB7]at h;obtain⟨⟨⟨⟨⟨h1,h2⟩,h3⟩,h4⟩,h5⟩,h6⟩:=h;refine⟨by simpa using h1,of_decide_eq_true h2,of_decide_eq_true h3,by simpa using h4,fun x hx hf=>?_,fun j i x hj hx=>?_⟩
 ·have q:=hCu.mp h5 x hx;rw[hf]at q;simp only[beq_self_eq_true,Bool.not_true,Bool.false_or,Bool.or_eq_true]at q;rcases q with q | q
  ·exact .inl (by simpa using q)
  ·exact .inr (by simpa using q)
 ·have q:=hCu.mp h6 (some i,x) (by
   refine hAu (i:=j) ?_;rw[List.getElem?_zip_eq_some];exact⟨hj,hx⟩)
  simp only[hB7]at q;exact⟨by simpa using q.1,by simpa using q.2⟩
theorem qBi:∀ {l:List (Str×α)} {x:Str} {c:α},(l.map (·.1)).Nodup->(x,c)∈l->l.lookup x=some c
 | (y,d) :: r,x,c,nd,h=>by
  rw[hCi];rcases hAa.mp h with e | h
  ·cases e;simp
  ·have ne:x≠y:=fun e=>by
    rw[hAm]at nd;exact(hAx.mp nd).1 (by rw[<-e];exact hAb.mpr ⟨(x,c),h,rfl⟩)
   rw[show(x == y)=false from by simpa using ne];exact qBi (hAx.mp nd).2 h
theorem qCv {sc:Scope}:∀ {names:List (Str×NameKind)} {x:Str},
  ((names.map fun (n,k)=>if (k == NameKind.free && sc.kind == .function && sc.names.lookup n == some .cell) then (n,NameKind.cell) else (n,k)).lookup x) =
   (names.lookup x).map fun k=>if (k == NameKind.free && sc.kind == .function && sc.names.lookup x == some .cell) then NameKind.cell else k
 | [],x=>rfl
 | (n,k) :: r,x=>by
  have ih:=@qCv sc r x;rw[hAm];show List.lookup x ((if (k == NameKind.free && sc.kind == .function && sc.names.lookup n == some .cell)=true then (n,NameKind.cell) else (n,k)) :: _)=_;by_cases hc:(k == NameKind.free && sc.kind == .function && sc.names.lookup n == some .cell)=true
  ·rw[if_pos hc,hCi,hCi];by_cases hx:x=n
   ·subst hx;rw[show(x == x)=true from beq_self_eq_true x];show some NameKind.cell=Option.map _ (some k);rw[hDc,if_pos hc]
   ·rw[show(x == n)=false by simpa using hx];exact ih
  ·rw[if_neg hc,hCi,hCi];by_cases hx:x=n
   ·subst hx;rw[show(x == x)=true from beq_self_eq_true x];show some k=Option.map _ (some k);rw[hDc,if_neg hc]
   ·rw[show(x == n)=false by simpa using hx];exact ih
section
variable {X:Cx} {pins:List (Addr×Obj)} {σ:St} {H H':Hp} {s:Shared}
theorem qG5 (I:Inv X pins σ H s) (hb:b∈frs X.stack) (n1:b≠X.env.locals):b∈X.fs:=(hAa.mp (I.stkSub b hb)).elim (fun e=>absurd e n1) id
theorem qGe {N':List Str} {scope:Scope} {sub:List (Option Nat)} {h3:Heap} (I:Inv X pins σ H s) (O:CmpOk X.N X.env.scope N' scope sub)
  (hk:∀ b o,s.heap.get? b=some o->h3.get? b=some o) :
  (∀ x c,(cellsFrom (h3.objs.size+1) scope.names (qB1 X.env.cells scope.names [])).lookup x=some c ->
   (((pushCells (h3.push { cls:=.type "dict",data:=.dict #[] }) scope.names).IsCell c none/\h3.objs.size+1<=c/\(x,NameKind.cell)∈scope.names)\/((x,NameKind.free)∈scope.names/\X.env.cells.lookup x=some c))) /\
  (∀ x y c,(cellsFrom (h3.objs.size+1) scope.names (qB1 X.env.cells scope.names [])).lookup x=some c->(cellsFrom (h3.objs.size+1) scope.names (qB1 X.env.cells scope.names [])).lookup y=some c->x=y):=by
 have hin:∀ x c,(x,c)∈qB1 X.env.cells scope.names []->(x,NameKind.free)∈scope.names/\X.env.cells.lookup x=some c:=fun x c h=>by
  rcases closL_mem h with q | ⟨q,e⟩
  ·cases q
  ·have hx:∃ c,X.env.cells.lookup x=some c:=by
    refine I.ok.has x ?_;rcases O.free _ q rfl with z | z
    ·exact .inl z
    ·exact .inr z
   obtain⟨c',hc'⟩:=hx;rw[hc']at e;exact⟨q,by rw[hc',e];rfl⟩
 have hlt:∀ x c,(x,c)∈qB1 X.env.cells scope.names []->c<h3.objs.size:=fun x c h=>by
  obtain⟨v,o,ho,_⟩:=I.cell x c (hin x c h).2;exact Heap.lt_size (hk _ _ ho)
 have two:=qCk (acc0:=qB1 X.env.cells scope.names []) scope.names (h3.push { cls:=.type "dict",data:=.dict #[] }) (h3.objs.size+1) (qB1 X.env.cells scope.names [])
  ⟨fun x c h=>.inl h,fun x y c hc h1 _=>absurd (hlt x c h1) (Nat.not_lt.mpr (Nat.le_of_succ_le hc))⟩ (fun x c h=>by rw[Heap.size_push];exact hB6 (hlt x c h)) (by rw[Heap.size_push];exact hA5 _)
 rw[Heap.size_push]at two;refine⟨fun x c h=>?_,fun x y c h1 h2=>?_⟩
 ·have m:=hBa h;rcases two.part x c m with q | q
  ·exact .inr (hin x c q)
  ·refine .inl ⟨q.1,q.2,?_⟩;rcases cellsFrom_mem m with z | z
   ·exact absurd (hlt x c z) (Nat.not_lt.mpr (Nat.le_of_succ_le q.2))
   ·exact z
 ·have m1:=hBa h1;have m2:=hBa h2;by_cases hc:h3.objs.size+1<=c
  ·exact two.inj x y c hc m1 m2
  ·rcases two.part x c m1 with q1 | q1
   ·rcases two.part y c m2 with q2 | q2
    ·exact I.ok.inj x y c (hin x c q1).2 (hin y c q2).2
    ·exact absurd q2.2 hc
   ·exact absurd q1.2 hc
theorem inv_comp {N':List Str} {scope:Scope} {sub:List (Option Nat)} {fp:List Addr} (I:Inv X pins σ H s) (O:CmpOk X.N X.env.scope N' scope sub) (hf:∀ b∈fp,FpOk X pins H b)
  (hfl:∀ b∈fp,b<s.heap.objs.size) :
  Inv (qBp X scope N' (s.heap.objs.size+1) s H fp) [(s.heap.objs.size,{ cls:=.type "list",data:=.seq #[] })] (subσ sub σ) H
   { s with heap:=pushCells ((s.heap.push { cls:=.type "list",data:=.seq #[] }).push { cls:=.type "dict",data:=.dict #[] }) scope.names }:=by
 have hk3:∀ b o,s.heap.get? b=some o->(s.heap.push { cls:=.type "list",data:=.seq #[] }).get? b=some o:=fun b o e=>Heap.get?_push_of_some _ e
 have sz3:(s.heap.push { cls:=.type "list",data:=.seq #[] }).objs.size=s.heap.objs.size+1:=Heap.size_push ..;have hk:∀ b o,s.heap.get? b=some o->(pushCells ((s.heap.push { cls:=.type "list",data:=.seq #[] }).push { cls:=.type "dict",data:=.dict #[] }) scope.names).get? b=some o :=
  fun b o e=>pushCells_keeps _ _ b o (Heap.get?_push_of_some _ (hk3 b o e))
 have cf:=qGe (h3:=s.heap.push { cls:=.type "list",data:=.seq #[] }) I O hk3;rw[sz3]at cf;have hC:H (s.heap.objs.size+1)=none:=I.hok.fresh (hAw _);have nsC:(pushCells ((s.heap.push { cls:=.type "list",data:=.seq #[] }).push { cls:=.type "dict",data:=.dict #[] }) scope.names).Ns (s.heap.objs.size+1) (fun _=>none):=by
  rw[<-sz3];exact(Heap.Ns.new _ _).keeps (pushCells_keeps _ _)
 have has:∀ x,(scope.names.lookup x=some .cell\/scope.names.lookup x=some .free)->∃ c,(cellsFrom (s.heap.objs.size+1+1) scope.names (qB1 X.env.cells scope.names [])).lookup x=some c:=fun x hx=>by
  refine hCg.mp (hCs _ _ _ ?_);rcases hx with z | z
  ·exact .inl z
  ·exact .inr (qC8 (.inl (hBa z)))
 have kindB:∀ x,(qBv X.env scope (s.heap.objs.size+1)).kindOf x=(scope.names.lookup x).map fun k=>if (k == NameKind.free && X.env.scope.kind == .function && X.env.scope.names.lookup x == some .cell) then NameKind.cell else k:=fun x=>qCv
 have cellOk:∀ x c,(qBv X.env scope (s.heap.objs.size+1)).cells.lookup x=some c->∃ v,(pushCells ((s.heap.push { cls:=.type "list",data:=.seq #[] }).push { cls:=.type "dict",data:=.dict #[] }) scope.names).IsCell c v:=fun x c h=>by
  rcases cf.1 x c h with q | q
  ·exact⟨_,q.1⟩
  ·obtain⟨v,z⟩:=I.cell x c q.2;exact⟨v,z.keeps hk⟩
 refine⟨⟨I.ok.mod,O.kind,I.ok.glob,I.ok.blt,hAw _,fun x y c h1 h2=>cf.2 x y c h1 h2,fun x hx=>?_,fun x c hx h=>?_,I.ok.hd,I.ok.frames,.inl rfl,fun b hb=>?_,fun b o e=>I.bs b o e,hAs I.ok.bsz I.sz,fun b o e hb=>?_,fun b hb=>?_,I.stack,I.stkFree⟩,
  rfl,I.bare,Un.kept hk,⟨fun _=>none,nsC,fun i x v h1 h2 h3=>?_⟩,cellOk,hC,fun x c h=>?_,fun p hp=>?_,I.hok.kept hk,?_⟩
 ·-- has
  refine has x ?_;have hx:(qBv X.env scope (s.heap.objs.size+1)).kindOf x=some .cell\/(qBv X.env scope (s.heap.objs.size+1)).kindOf x=some .free:=hx;rw[kindB]at hx;cases e:scope.names.lookup x with
  | none=>rw[e]at hx;rcases hx with z | z <;> cases z
  | some k =>
   rw[e]at hx;cases k with
   | cell=>exact .inl rfl
   | free=>exact .inr rfl
   | _=>exfalso;rcases hx with z | z <;> simp at z
 ·-- cab
  rcases cf.1 x c h with q | q
  ·have:=q.2.1;show s.heap.objs.size<=c;omega
  ·exfalso;have e:=qBi O.nd q.1;have hx':(!(scope.names.lookup x == some NameKind.free))=true:=hx;rw[e]at hx';exact absurd hx' (by decide)
 ·-- exf
  obtain⟨f0,f1,f2,f3,f4,f5⟩:=hf b hb;have lt:=hfl b hb;refine⟨fun e=>?_,fun x c h e=>?_⟩
  ·have e':b=s.heap.objs.size+1:=e;rw[e']at lt;exact absurd lt (Nat.not_lt.mpr (hAw _))
  ·rcases cf.1 x c h with q | q
   ·have z:=q.2.1;rw[e]at z;exact absurd lt (Nat.not_lt.mpr (hAs (hAs (hAw _) (hAw _)) z))
   ·exact f4 x c q.2 e
 ·-- noex
  obtain⟨f0,f1,f2,f3,f4,f5⟩:=hf b hb;rcases f3 with z | z
  ·exact I.ok.noex b o e z
  ·exact absurd (hAi (Heap.lt_size (I.ok.bs b o e).1) z) (hBp _)
 ·-- exfs
  obtain⟨f0,f1,f2,f3,f4,f5⟩:=hf b hb;exact fun z=>f2 (qG5 I z f1)
 ·-- loc
  have h1':N'[i]?=some x:=h1;have hsub:∃ k,sub[i]?=some (some k)/\(σ[k]?).join=some v:=by
   unfold subσ at h2;rw[hAh]at h2;cases e:sub[i]? with
   | none=>rw[e]at h2;cases h2
   | some o =>
    rw[e]at h2;cases o with
    | none=>cases h2
    | some k=>exact⟨k,rfl,by simpa using h2⟩
  obtain⟨k,hk1,hk2⟩:=hsub;obtain⟨nk,fx⟩:=O.sub i k x hk1 h1';have sk:σ[k]?=some (some v):=by
   cases e:σ[k]? with
   | none=>rw[e]at hk2;cases hk2
   | some o=>rw[e]at hk2;cases o with
    | none=>cases hk2
    | some y=>cases hk2;rfl
  have cx:=O.free _ (hBa fx) rfl;obtain⟨m,hn,hl⟩:=I.loc;obtain⟨u,ru,lk⟩:=hl k x v nk sk (by
   rcases cx with z | z
   ·exact .inr (.inl z)
   ·exact .inr (.inr z))
  refine⟨u,ru,.inr ⟨?_,?_⟩⟩
  ·show(qBv X.env scope (s.heap.objs.size+1)).kindOf x=some .cell\/(qBv X.env scope (s.heap.objs.size+1)).kindOf x=some .free;rw[kindB,fx];by_cases hc:(NameKind.free == NameKind.free && X.env.scope.kind == .function && X.env.scope.names.lookup x == some .cell)=true
   ·exact .inl (by rw[hDc,if_pos hc])
   ·exact .inr (by rw[hDc,if_neg hc])
  ·rcases lk with ⟨kl,_⟩ | ⟨_,c,hc,hcell⟩
   ·exfalso;have kl':X.env.scope.names.lookup x=some .local:=kl;rcases cx with z | z <;> rw[kl']at z <;> cases z
   ·obtain⟨c',hc'⟩:=has x (.inr fx);refine⟨c',hc',?_⟩;rcases cf.1 x c' hc' with q | q
    ·exfalso;have e:=qBi O.nd q.2.2;rw[fx]at e;cases e
    ·rw[hc]at q;have e:c=c':=hAv q.2;subst e;exact hcell.keeps hk
 ·-- freeC
  rcases cf.1 x c h with q | q
  ·exact I.hok.fresh (by have:=q.2.1;omega)
  ·exact I.freeC x c q.2
 ·-- pin
  have hp':p=(s.heap.objs.size,({ cls:=.type "list",data:=.seq #[] }:Obj)):=by
   have:p∈([]++[(s.heap.objs.size,({ cls:=.type "list",data:=.seq #[] }:Obj))]:List (Addr×Obj)):=hp
   simpa using this
  subst hp';refine⟨pushCells_keeps _ _ _ _ (Heap.get?_push_of_some _ (Heap.get?_push_size _ rfl)),I.hok.fresh (hA5 _),hAk (hBj _),fun z=>?_,fun v z=>?_⟩
  ·rcases hAa.mp (I.stkSub _ z) with e | e
   ·exact absurd I.lt (by rw[<-e];exact hBp _)
   ·exact I.nofs (hA5 _) e
  ·cases z
 ·-- len
  show(subσ sub σ).length=N'.length;unfold subσ;rw[hA1,O.len]
end
end L2
namespace L2
open PySem PySem.Spec PyProof.Rows
def Sle (σ σ2:St):Prop:=σ2.length=σ.length/\∀ (i:Nat) (v:V),σ[i]?=some (some v)->σ2[i]?=some (some v)
theorem Sle.refl (σ:St):Sle σ σ:=⟨rfl,fun _ _ h=>h⟩
theorem Sle.set (v:V) (h:Sle σ σ2) (hi:∀ u,σ[i]?≠some (some u)):Sle σ (σ2.set i (some v)):=by
 refine⟨by rw[List.length_set];exact h.1,fun j u hj=>?_⟩;have ne:i≠j:=fun e=>hi u (by rw[e];exact hj)
 rw[hCy ne];exact h.2 j u hj
def PTs (X:Cx) (ifs:List Expr) (t:TT):Prop :=
 ∀ (pins:List (Addr×Obj)) (s:Shared) (σ:St) (H:Hp) (Q:Bool->Hp->Prop),Inv X pins σ H s->t σ H Q ->
  wpAny (model X.prog X.w) X.A (forIn ifs true fun c r=>if r=true then do let ok ← isTrue c X.env (eval c X.env);pure (ForInStep.yield ok) else pure (ForInStep.yield r)) (TP X pins σ Q) X.xe s
def tNoTest:TT:=fun _ H Q=>Q true H
theorem qA7:PTs X [] tNoTest:=fun pins s σ H Q I h=>wpAny_tests_nil ⟨H,I,h⟩
theorem qB8 (h:PT X c t):PTs X [c] t:=fun pins s σ H Q I hw=>wpAny_tests_one (h pins s σ H Q I hw)
def qE0 (J:It) (σ0:St) (g:TG) (tt:TT) (te:TE) (Q:List V->Hp->Prop) (H1:Hp):Prop :=
 ∃ W:Nat->Nat->List V->Hp->Prop,(∃ m,W 0 m [] H1)/\∀ i m ys H,W i m ys H ->
  (J.stop i H/\Q ys H) \/
  (J.go i H/\∀ x H',J.yld i H x H'->g x σ0 H' fun σ2 H2=>Sle σ0 σ2/\tt σ2 H2 fun b H3 =>
   if b=true then te σ2 H3 (fun v H4=>ys.length<sizeLine/\∃ m',m'<m/\W (i+1) m' (ys++[v]) H4) else ∃ m',m'<m/\W (i+1) m' ys H3)
section
variable {X:Cx} {pins:List (Addr×Obj)} {σ:St} {H:Hp} {s:Shared}
theorem comp_core {target iter elt:Expr} {ifs:List Expr} {scope:Scope} {pos:Pos} {N':List Str} {sub:List (Option Nat)} {J:It} {fp:List Addr} {it:Addr} {tn:Nat->Heap->Prop} {g:TG} {tt:TT} {te:TE}
  {Qe:List V->Hp->Prop} {E:Value->Shared->Prop} {RR:Value->Addr->Result->Shared->Prop}
  (hc:X.calm=true) (I:Inv X pins σ H s) (O:CmpOk X.N X.env.scope N' scope sub) (T:Turn X.prog X.w X.K target J fp it tn) (st:tn 0 s.heap) (hf:∀ b∈fp,FpOk X pins H b)
  (B:∀ C s H fp,PG (qBp X scope N' C s H fp) target g/\PTs (qBp X scope N' C s H fp) ifs tt/\PE (qBp X scope N' C s H fp) elt te)
  (rd:qE0 J (subσ sub σ) g tt te Qe H)
  (hRR:∀ (acc C:Addr) (ys:List V) (H':Hp) (s':Shared),Inv X pins σ (upd H' acc (.lst ys)) s'->FpOk X pins (upd H' acc (.lst ys)) C->(∃ m,s'.heap.Ns C m)->H' acc=none->Qe ys H'->RR (.ref acc) C (.ok .next) s') :
  wpAny (model X.prog X.w) X.A (newList []) (fun acc s₃=>wpAny (model X.prog X.w) X.A (newFunctionEnv scope X.env.globals (qB1 X.env.cells scope.names []) [] X.env.qual none .none (some X.env)) (fun cenv s₄ =>
   codeAny (model X.prog X.w) X.A (.compStart (.ListComp elt [⟨target,iter,ifs,0⟩] scope pos) 0 (.ref it) acc { cenv with scope:=relabel scope X.env }) (RR acc cenv.locals) s₄) E s₃) E s:=by
 refine wpAny_newObj_type (qDp ?_);have hfl:∀ b∈fp,b<s.heap.objs.size:=fun b hb=>by
  obtain⟨o,e,_⟩:=T.obj _ _ st b hb;exact Heap.lt_size e
 have I0:=inv_comp (sub:=sub) I O hf hfl;have sz3:(s.heap.push { cls:=.type "list",data:=.seq #[] }).objs.size=s.heap.objs.size+1:=Heap.size_push ..;dsimp only;show codeAny _ _ (.compStart _ 0 (.ref it) (.ref s.heap.objs.size) { scope:=relabel scope X.env,locals:=(s.heap.push { cls:=.type "list",data:=.seq #[] }).objs.size,globals:=X.env.globals,cells:=cellsFrom ((s.heap.push { cls:=.type "list",data:=.seq #[] }).objs.size+1) scope.names (qB1 X.env.cells scope.names []),qual:=X.env.qual,func:=none,code:=X.env.code,frame:=X.env.frame,builtins:=X.env.builtins })
  (RR (.ref s.heap.objs.size) (s.heap.push { cls:=.type "list",data:=.seq #[] }).objs.size) { s with heap:=pushCells ((s.heap.push { cls:=.type "list",data:=.seq #[] }).push { cls:=.type "dict",data:=.dict #[] }) scope.names }
 rw[sz3];show codeAny _ _ (.compStart _ 0 (.ref it) (.ref s.heap.objs.size) (qBv X.env scope (s.heap.objs.size+1))) (RR (.ref s.heap.objs.size) (s.heap.objs.size+1)) _;generalize hs0:({ s with heap:=pushCells ((s.heap.push { cls:=.type "list",data:=.seq #[] }).push { cls:=.type "dict",data:=.dict #[] }) scope.names }:Shared)=s0 at I0 ⊢;have hk0:∀ b o,s.heap.get? b=some o->s0.heap.get? b=some o:=fun b o e=>by
  rw[<-hs0];exact pushCells_keeps _ _ b o (Heap.get?_push_of_some _ (Heap.get?_push_of_some _ e))
 have st0:tn 0 s0.heap:=T.keep _ _ _ st fun b hb o e=>hk0 b o e
 clear hs0 sz3;generalize hX:qBp X scope N' (s.heap.objs.size+1) s H fp=X' at I0;have xp:X'.prog=X.prog:=by rw[<-hX];rfl
 have xw:X'.w=X.w:=by rw[<-hX];rfl
 have xK:X'.K=X.K:=by rw[<-hX];rfl
 have xA:X'.A=X.A:=by rw[<-hX];rfl
 have xc:X'.calm=true:=by rw[<-hX];exact hc
 have xe:X'.env=qBv X.env scope (s.heap.objs.size+1):=by rw[<-hX];rfl
 have xx:X'.ex=fp:=by rw[<-hX];rfl
 have xo:X'.outer=X.stack:=by rw[<-hX];rfl
 have xf:X'.fs=frs X.stack:=by rw[<-hX];rfl
 have xpn:X'.pn=[]:=by rw[<-hX];rfl
 have x0:X'.s₀=s:=by rw[<-hX];rfl
 have xh:X'.H₀=H:=by rw[<-hX];rfl
 have xxe:X'.xe=fun _ _=>False:=by rw[<-hX];rfl
 obtain⟨hg,ht,he⟩:=B (s.heap.objs.size+1) s H fp;rw[hX]at hg ht he;clear hX;have stat:∀ {pl:List (Addr×Obj)} {H':Hp},(∀ p∈pl,p.1=s.heap.objs.size)->(∀ b∈fp,H' b=none)->∀ b∈fp,FpOk X' pl H' b:=fun {pl H'} hp hn b hb=>by
  obtain⟨f0,f1,f2,f3,f4,f5⟩:=hf b hb;refine⟨hn b hb,(I0.ok.exf b (by rw[xx];exact hb)).1,I0.ok.exfs b (by rw[xx];exact hb),.inl (by rw[xx];exact hb),(I0.ok.exf b (by rw[xx];exact hb)).2,fun p hp'=>?_⟩;rw[xpn,List.nil_append]at hp';rw[hp p hp'];exact hC9 (hfl b hb)
 obtain⟨W,⟨m0,w0⟩,turn⟩:=rd;have loop:∀ s3:Shared,s3=s0->codeAny (model X.prog X.w) X.A (.compLoop (.ListComp elt [⟨target,iter,ifs,0⟩] scope pos) 0 (.ref it) (.ref s.heap.objs.size) (qBv X.env scope (s.heap.objs.size+1))) (RR (.ref s.heap.objs.size) (s.heap.objs.size+1)) s3:=by
  intro s3 e3;refine compLoop_any (fun n s'=>∃ (i:Nat) (ys:List V) (H':Hp) (its:List Value) (k:Nat),Inv X' [(s.heap.objs.size,{ cls:=.type "list",data:=.seq its.toArray k })] (subσ sub σ) H' s'/\qBa ys its/\ys.length<=sizeLine/\tn i s'.heap/\(∀ b∈fp,H' b=none)/\W i n ys H') ?_ m0
   ⟨0,[],H,[],0,by rw[e3];exact I0,.nil,hAq _,by rw[e3];exact st0,fun b hb=>(hf b hb).1,w0⟩
  rintro n s4 ⟨i,ys,H4,its,k,I4,rv,hz,st4,fr4,w4⟩;have pe:∀ p∈([(s.heap.objs.size,({ cls:=.type "list",data:=.seq its.toArray k }:Obj))]:List (Addr×Obj)),p.1=s.heap.objs.size:=fun p hp=>by
   rw[hA7]at hp;rw[hp]
  rcases turn i n ys H4 w4 with ⟨stop,q⟩ | ⟨go,step⟩
  ·-- the end
   have td:=T.done X' xp xw xK xc i _ s4 (subσ sub σ) H4 (fun _ _=>False) I4 (stat pe fr4) st4 stop;rw[xA]at td;refine thn td fun r s5 ⟨hr,I5⟩=>?_
   subst hr;have pa:=I5.pin (s.heap.objs.size,{ cls:=.type "list",data:=.seq its.toArray k }) (by rw[xpn];simp);have nacc:H4 s.heap.objs.size=none:=pa.2.1;have nC:H4 (s.heap.objs.size+1)=none:=by have z:=I5.free;rw[xe]at z;exact z
   have un:Un (frs X.stack) fp H H4 s.heap s5.heap:=by have z:=I5.base;rw[xf,xx,xh,x0]at z;exact z
   have un2:Un (frs X.stack) fp H (upd H4 s.heap.objs.size (.lst ys)) s.heap s5.heap:=by
    refine⟨un.keep,un.slot,fun b o e n hx=>?_,un.there,fun b xs e=>?_,fun b o u e=>?_,fun b ps e=>?_⟩
    ·rw[qAe (hAk (Heap.lt_size e))];exact un.free b o e n hx
    ·have z:=un.tups b xs e;rw[qAe (qAf z nacc)];exact z
    ·have z:=un.frzs b o u e;rw[qAe (qAf z nacc)];exact z
    ·obtain⟨more,z⟩:=un.tbls b ps e;exact⟨more,by rw[qAe (qAf z nacc)];exact z⟩
   have hok5:HOk X.prog X.w H4 s5.heap:=by have z:=I5.hok;rw[xp,xw]at z;exact z
   have hok2:HOk X.prog X.w (upd H4 s.heap.objs.size (.lst ys)) s5.heap:=fun b u e=>by
    by_cases hb:b=s.heap.objs.size
    ·subst hb;rw[upd_same]at e;cases e;exact⟨hz,its,k,rv,pa.1⟩
    ·rw[qAe hb]at e;exact(hok5 b u e).stay (fun _ _ _ q=>q) (fun c q=>by rw[qAe (qAf q nacc)];exact q) fun c xs q=>by rw[qAe (qAf q nacc)];exact q
   have os5:s5.os=s.os:=by have z:=I5.os;rw[x0]at z;exact z
   have J5:Inv X pins σ (upd H4 s.heap.objs.size (.lst ys)) s5:=I.call' os5 un2 hok2 I5.bare fun b hb=>by
    obtain⟨f0,f1,f2,f3,f4,f5⟩:=hf b hb;exact⟨f3,f1,f4,f5⟩
   refine hRR _ _ ys H4 s5 J5 (I.fpOk (hAw _) ?_) ?_ nacc q
   ·rw[qAe (Nat.succ_ne_self _)];exact nC
   ·obtain⟨m,hn,_⟩:=I5.loc;rw[xe]at hn;exact⟨m,hn⟩
  ·-- one turn
   have ti:=T.item X' xp xw xK xc i _ s4 (subσ sub σ) H4 (fun _ _=>False) I4 (stat pe fr4) st4 go;rw[xA]at ti;refine thn ti fun r s5 ⟨u,hr,h5⟩=>?_
   subst hr;refine thn h5 fun _ s6 ⟨x,H6,I6,r6,y6,st6,fr6⟩=>?_
   have I6':=I6.pinned (stat pe fr6) (T.obj _ _ st6);have tg:=hg _ s6 (subσ sub σ) H6 x u _ I6' r6 (step x H6 y6);rw[xp,xw,xA,xe,xxe]at tg;refine thn tg fun _ s7 ⟨σ7,H7,I7,le7,q7⟩=>?_
   have tts:=ht _ s7 σ7 H7 _ I7 q7;rw[xp,xw,xA,xe,xxe]at tts;refine thn tts fun b s8 ⟨H8,I8,q8⟩=>?_
   cases b with
   | false =>
    rw[if_neg hAo]at q8 ⊢;obtain⟨m',hm',w8⟩:=q8;have I9:Inv X' ([(s.heap.objs.size,{ cls:=.type "list",data:=.seq its.toArray k })]++pinsAt fp s6.heap) (subσ sub σ) H8 s8:=I8.weak le7.1.symm le7.2;refine⟨m',hm',i+1,ys,H8,its,k,I9.unpinned,rv,hz,T.keep _ _ _ st6 fun b hb o e=>(I9.pin (b,o) (hA6 _ (hA6 _ (qBr hb e)))).1,fun b hb=>?_,w8⟩;obtain⟨o,e,d⟩:=T.obj _ _ st6 b hb;exact(I9.pin (b,o) (hA6 _ (hA6 _ (qBr hb e)))).2.1
   | true =>
    rw[if_pos rfl]at q8 ⊢;have tee:=he _ s8 σ7 H8 _ I8 q8;rw[xp,xw,xA,xe,xxe]at tee;refine thn tee fun vv s9 ⟨v,H9,I9,r9,lz,m',hm',w9⟩=>?_
    have I10:Inv X' ([(s.heap.objs.size,{ cls:=.type "list",data:=.seq its.toArray k })]++pinsAt fp s6.heap) (subσ sub σ) H9 s9:=I9.weak le7.1.symm le7.2;have pa:=I10.pin (s.heap.objs.size,{ cls:=.type "list",data:=.seq its.toArray k }) (by rw[xpn];simp);have hlen:=rv.length;refine wpAny_list_append_plain (items:=its.toArray) ⟨k,pa.1⟩ (fun h' pl sb=>?_) (by rw[hAc];omega);obtain⟨k',pl⟩:=pl;have keepIt:∀ b∈fp,∀ o,s6.heap.get? b=some o->h'.get? b=some o:=fun b hb o e=>by
     have nb:b≠s.heap.objs.size:=hAk (hfl b hb);exact(sb.2 b nb).trans (I10.pin (b,o) (hA6 _ (hA6 _ (qBr hb e)))).1
    have I11:Inv X' [] (subσ sub σ) H9 s9:=I10.pins_of fun p hp=>absurd hp (by simp)
    have sacc:s.heap.objs.size≠X'.env.locals:=pa.2.2.1;have I12:Inv X' [] (subσ sub σ) H9 { s9 with heap:=h' }:=I11.turned (t':=s9.toks) (it:=s.heap.objs.size) (fun b o hb e=>(sb.2 b hb).trans e) pa.2.1 sacc (.inr (by rw[x0];exact hA5 _))
     (fun y c hy z=>by
      obtain⟨w',o',ho',hd'⟩:=I10.cell y c hy;rw[z,pa.1]at ho';have z2:=hAv ho';rw[<-z2]at hd';cases hd') (fun p hp=>absurd hp (by rw[xpn];simp))
    refine⟨m',hm',i+1,ys++[v],H9,its++[vv],k',I12.pins_of (fun p hp=>?_),rv.append (.cons r9 .nil),by rw[hAd,List.length_singleton];omega,T.keep _ _ _ st6 keepIt,fun b hb=>?_,w9⟩
    ·rw[hA7]at hp;subst hp;refine⟨?_,pa.2.1,sacc,pa.2.2.2.1,fun v z=>by cases z⟩;show h'.get? s.heap.objs.size=_;rw[pl];simp
    ·obtain⟨o,e,d⟩:=T.obj _ _ st6 b hb;exact(I10.pin (b,o) (hA6 _ (hA6 _ (qBr hb e)))).2.1
 exact codeAny_compStart_list (loop _ rfl) (T.self _ 0 _ _ _ st0 (loop _ rfl))
end
end L2
namespace L2
open PySem PySem.Spec PyProof.Rows
def tComp (sub:List (Option Nat)) (wi:TI) (g:TG) (tt:TT) (te:TE):TE:=fun σ H Q=>wi σ H fun J H1 =>
 qE0 J (subσ sub σ) g tt te (fun ys H'=>∀ r,H' r=none->Q (.ref r) (upd H' r (.lst ys))) H1
section
variable {X:Cx} {target iter elt:Expr} {ifs:List Expr} {scope:Scope} {pos:Pos} {N':List Str} {sub:List (Option Nat)} {wi:TI} {g:TG} {tt:TT} {te:TE}
theorem clos_of (I:Inv X pins σ H s) (O:CmpOk X.N X.env.scope N' scope sub):closureFor scope X.env=pure (qB1 X.env.cells scope.names []) :=
 closureFor_eq fun x hx hf=>I.ok.has x.1 (by rcases O.free x hx hf with z | z;exact .inl z;exact .inr z)
theorem qFj (O:CmpOk X.N X.env.scope N' scope sub):∀ y∈scope.names,y.2 = .local->scope.names.lookup y.1=some .local:=fun y hy e=>by
 obtain⟨n,k⟩:=y;cases e;exact qBi O.nd hy
theorem pe_comp (hc:X.calm=true) (O:CmpOk X.N X.env.scope N' scope sub) (hi:PI X target iter wi)
  (B:∀ C s H fp,PG (qBp X scope N' C s H fp) target g/\PTs (qBp X scope N' C s H fp) ifs tt/\PE (qBp X scope N' C s H fp) elt te)
  (hs:∀ x,foldedSetIterable iter X.env x=pure x:=by intro _;rfl):PE X (.ListComp elt [⟨target,iter,ifs,0⟩] scope pos) (tComp sub wi g tt te):=by
 intro pins s σ H Q I h;rw[eval_ListComp];refine wpAny_comprehension_free (use:=none) rfl hs (clos_of I O) O.kind (qFj O) (thn (hi pins s σ H _ I h) fun v s1 h1=>thn h1 fun itv s2 h2=>?_);obtain⟨it,fp,tn,J,H2,e,I2,T,st2,f2,rd⟩:=h2;subst e;refine comp_core (RR:=fun acc C=>compPost (model X.prog X.w) X.A X.xe none (EP X pins σ Q) acc C) hc I2 O T st2 f2 B rd fun acc C ys H' s' I' fC hn na q=>?_
 obtain⟨m,hn⟩:=hn;obtain⟨f0,f1,f3,f4,f5,f6⟩:=fC;refine⟨m,hn,fun h' sb=>?_⟩;exact⟨.ref acc,upd H' acc (.lst ys),I'.turned (t':=s'.toks) (it:=C) (fun b o hb e=>(sb.2 b hb).trans e) f0 f1 f4 f5 f6,rfl,q acc na⟩
theorem ps_comp (hc:X.calm=true) (O:CmpOk X.N X.env.scope N' scope sub) (hi:PI X target iter wi)
  (B:∀ C s H fp,PG (qBp X scope N' C s H fp) target g/\PTs (qBp X scope N' C s H fp) ifs tt/\PE (qBp X scope N' C s H fp) elt te)
  (hN:X.N.Nodup) (hy:X.N[i]?=some y) (hx:Loc X.env.scope y)
  (hsw:swapsWith (.ListComp elt [⟨target,iter,ifs,0⟩] scope pos) (some (.Name y py)) spos.line X.env=pure true)
  (hs:∀ x,foldedSetIterable iter X.env x=pure x:=by intro _;rfl) (hf:X.fn y=true\/X.env.scope.names.lookup y=some .local:=by first | exact .inl rfl | exact .inr rfl | assumption) :
  PS X (.Assign [.Name y py] (.ListComp elt [⟨target,iter,ifs,0⟩] scope pos) spos) (tAsg (tComp sub wi g tt te) (gName i)):=by
 intro pins s σ H D I h;rw[exec_Assign_Name_used _ _ _ _ hsw];refine wpAny_bind (wpAny_standAt (wpAny_bind ?_));show wpAny _ _ (do let _ ← comprehension (.ListComp elt [⟨target,iter,ifs,0⟩] scope pos) scope X.env _ (newList []) false (eval iter X.env) (some (assign (.Name y py) X.env))) _ _ s;refine wpAny_bind (wpAny_mono (wpAny_comprehension_free (use:=some (assign (.Name y py) X.env)) (Q:=fun _ s'=>SP X pins D .next s') rfl hs (clos_of I O) O.kind (qFj O)
  (thn (hi pins s σ H _ I h) fun v s1 h1=>thn h1 fun itv s2 h2=>?_)) (fun _ s' hq=>wpAny_pure (wpAny_pure hq)) fun _ _ e=>e)
 obtain⟨it,fp,tn,J,H2,e,I2,T,st2,f2,rd⟩:=h2;subst e;refine comp_core (RR:=fun acc C=>compPost (model X.prog X.w) X.A X.xe (some (assign (.Name y py) X.env)) (fun _ s'=>SP X pins D .next s') acc C) hc I2 O T st2 f2 B rd fun acc C ys H' s' I' fC hn na q=>?_
 obtain⟨m,hn⟩:=hn;obtain⟨f0,f1,f3,f4,f5,f6⟩:=fC;show wpAny _ _ (assign (.Name y py) X.env (.ref acc)) _ _ s';refine wpAny_assign_Name (qFp (v:=.ref acc) I' hN hy hx rfl (fun s'' I'' ⟨a,sb,ha⟩=>?_) hf);have nCa:C≠a:=by
  rcases ha with z | z
  ·rw[z];exact f1
  ·exact fun e=>f5 _ _ z e.symm
 refine⟨m,hn.sameBut sb nCa,fun h' sb'=>?_⟩;exact⟨_,upd H' acc (.lst ys),I''.turned (t':=s''.toks) (it:=C) (fun b o hb e=>(sb'.2 b hb).trans e) f0 f1 f4 f5 f6,q acc na⟩
end
section
variable {σ0:St} {g:TG} {tt:TT} {te:TE} {Q:List V->Hp->Prop} {H1:Hp}
def Nxt (n i:Nat) (Pv:Nat->List V->Hp->Prop) (ys:List V) (H:Hp):Prop:=∃ m',m'<n - i/\m'=n - (i+1)/\i+1<=n/\Pv (i+1) ys H
theorem nxt (hi:i<n) (h:Pv (i+1) ys H):Nxt n i Pv ys H:=⟨_,by omega,rfl,hi,h⟩
theorem qAt {K:PySem.W.Frag} {a:Addr} {xs:List V} (Pv:Nat->List V->Hp->Prop) (h0:Pv 0 [] H1) (hl:∀ i ys H,i<=xs.length->Pv i ys H->SqL K H a xs)
  (hs:∀ i x ys H,xs[i]?=some x->Pv i ys H->g x σ0 H fun σ2 H2=>Sle σ0 σ2/\tt σ2 H2 fun b H3=>if b=true then te σ2 H3 (fun v H4=>ys.length<sizeLine/\Nxt xs.length i Pv (ys++[v]) H4) else Nxt xs.length i Pv ys H3)
  (hd:∀ ys H,Pv xs.length ys H->Q ys H):qE0 (Itl K a) σ0 g tt te Q H1:=by
 refine⟨fun i m ys H=>m=xs.length - i/\i<=xs.length/\Pv i ys H,⟨xs.length,by simp,hAq _,h0⟩,?_⟩;rintro i m ys H ⟨rfl,hi,p⟩;have q:=hl i ys H hi p;by_cases hlt:i<xs.length
 ·refine .inr ⟨⟨xs,xs[i],q,by simp[hlt]⟩,fun x H' y=>?_⟩;obtain⟨e,y⟩:=y;subst e;exact hs i x ys _ (y xs q) p
 ·have e:i=xs.length:=by omega
  subst e;exact .inl ⟨⟨xs,q,hA5 _⟩,hd ys H p⟩
theorem turns_range {lo:Int} {n:Nat} (Pv:Nat->List V->Hp->Prop) (h0:Pv 0 [] H1)
  (hs:∀ i ys H,i<n->Pv i ys H->g (.int (lo+i)) σ0 H fun σ2 H2=>Sle σ0 σ2/\tt σ2 H2 fun b H3=>if b=true then te σ2 H3 (fun v H4=>ys.length<sizeLine/\Nxt n i Pv (ys++[v]) H4) else Nxt n i Pv ys H3)
  (hd:∀ ys H,Pv n ys H->Q ys H):qE0 (Itr lo n) σ0 g tt te Q H1:=by
 refine⟨fun i m ys H=>m=n - i/\i<=n/\Pv i ys H,⟨n,by simp,hAq _,h0⟩,?_⟩;rintro i m ys H ⟨rfl,hi,p⟩;by_cases hlt:i<n
 ·refine .inr ⟨hlt,fun x H' y=>?_⟩;obtain⟨e,y⟩:=y;subst e y;exact hs i ys _ hlt p
 ·have e:i=n:=by omega
  subst e;exact .inl ⟨hA5 _,hd ys H p⟩
end
end L2
namespace L2
open PySem PySem.Spec PyProof.Rows PySem.SeqAt
mutual
inductive DR (K:PySem.W.Frag) (H:Hp):V->PyData->Prop
 | non:DR K H .non .none
 | bl (b:Bool):DR K H (.bl b) (.bool b)
 | int (i:Int):DR K H (.int i) (.int i)
 | str (x:Str):DR K H (.str x) (.str x)
 | lst {a:Addr} {xs:List V} {ds:List PyData}:SqL K H a xs->DRs K H xs ds->DR K H (.ref a) (.list ds)
 | tup {a:Addr} {xs:List V} {ds:List PyData}:SqT K H a xs->DRs K H xs ds->DR K H (.ref a) (.tuple ds)
inductive DRs (K:PySem.W.Frag) (H:Hp):List V->List PyData->Prop
 | nil:DRs K H [] []
 | cons {v:V} {d:PyData} {vs:List V} {ds:List PyData}:DR K H v d->DRs K H vs ds->DRs K H (v :: vs) (d :: ds)
end
section
variable {X:Cx} {pins:List (Addr×Obj)} {σ:St} {H:Hp} {s:Shared}
mutual
theorem DR.reads (I:Inv X pins σ H s):∀ {v:V} {d:PyData} {u:Value},DR X.K H v d->qBn v u->∃ as,Reads s.heap u d as
 | _,_,_,.non,r=>by cases r;exact⟨_,.none⟩
 | _,_,_,.bl b,r=>by cases r;exact⟨_,.bool b⟩
 | _,_,_,.int i,r=>by obtain⟨t,rfl⟩:=r;exact⟨_,.int i t⟩
 | _,_,_,.str x,r=>by obtain⟨t,rfl⟩:=r;exact⟨_,.str x t⟩
 | _,_,_,.lst hq hd,r=>by
  cases r;obtain⟨its,rv,⟨o,n,e,c,_,dt⟩,_⟩:=I.list hq;obtain⟨as,ra⟩:=DRs.reads I hd rv;exact⟨_,.list e c dt ra⟩
 | _,_,_,.tup hq hd,r=>by
  cases r;obtain⟨its,rv,⟨o,e,c,n,dt⟩,_⟩:=I.tuple hq;obtain⟨as,ra⟩:=DRs.reads I hd rv;exact⟨_,.tuple e c dt ra⟩
theorem DRs.reads (I:Inv X pins σ H s):∀ {vs:List V} {ds:List PyData} {us:List Value},DRs X.K H vs ds->qBa vs us->∃ as,ReadsAll s.heap us ds as
 | _,_,_,.nil,r=>by cases r;exact⟨_,.nil⟩
 | _,_,_,.cons h t,r=>by
  cases r with
  | cons r rr =>
   obtain⟨a1,q1⟩:=DR.reads I h r;obtain⟨a2,q2⟩:=DRs.reads I t rr;exact⟨_,.cons q1 q2⟩
end
end
def rEqD (K:PySem.W.Frag) (neg:Bool):R2:=fun x y H Q=>∃ dx dy,DR K H x dx/\DR K H y dy/\shaped dx=true/\shaped dy=true/\Q (.bl (if neg then !PyData.eqv dx dy else PyData.eqv dx dy)) H
section
variable {X:Cx}
theorem op_eqD (hu:X.A.units+64<cLine):OpR X (compareOp .Eq) (rEqD X.K false):=by
 intro pins s σ H x y v u Q I rx ry h;obtain⟨dx,dy,hx,hy,sx,sy,q⟩:=h;obtain⟨a1,r1⟩:=DR.reads I hx rx;obtain⟨a2,r2⟩:=DR.reads I hy ry;exact eq_dataH r1 r2 sx sy hu ⟨.bl (PyData.eqv dx dy),H,I,rfl,q⟩
theorem qF5 (hu:X.A.units+64<cLine):OpR X (compareOp .NotEq) (rEqD X.K true):=by
 intro pins s σ H x y v u Q I rx ry h;obtain⟨dx,dy,hx,hy,sx,sy,q⟩:=h;obtain⟨a1,r1⟩:=DR.reads I hx rx;obtain⟨a2,r2⟩:=DR.reads I hy ry;exact ne_dataH r1 r2 sx sy hu ⟨.bl (!PyData.eqv dx dy),H,I,rfl,q⟩
theorem qCb:∀ {us:List Value},qBa (ss.map V.str) us->StrsAre us ss:=by
 induction ss with
 | nil=>intro us r;cases r;exact .nil
 | cons a l ih =>
  intro us r;cases r with
  | cons r rr =>
   obtain⟨t,rfl⟩:=r;exact .cons a t (ih rr)
theorem qG1:∀ {us:List Value},StrsAre us ss->qBa (ss.map V.str) us:=by
 induction ss with
 | nil=>intro us r;cases r;exact .nil
 | cons a l ih =>
  intro us r;cases r with
  | cons _ _ r=>exact .cons ⟨_,rfl⟩ (ih r)
theorem qEz:qA6 X (.builtin "sorted") (fun xs H Q=>∃ p ss,xs=[.ref p]/\SqL X.K H p (ss.map V.str)/\ss.length<64/\∀ r ss',H r=none->ss'.Perm ss->sortedS ss'=true->Q (.ref r) (upd H r (.lst (ss'.map V.str)))):=by
 intro pins s σ H xs us Q I r h;obtain⟨p,ss,rfl,hq,h64,q⟩:=h;obtain⟨u,rfl,rx⟩:=qCa r;cases rx;obtain⟨its,rv,pl,hz⟩:=I.list hq;have hl:=rv.length;rw[hA1]at hl;refine sorted_strs pl.isList (qCb rv) (by omega) fun out ss' h1 h2 h3=>?_
 obtain⟨e,he⟩:=sortedAll_at s.heap its out;have nz:H (s.heap.objs.size+1)=none:=I.hok.fresh (hAw _);refine⟨.ref (s.heap.objs.size+1),_,I.laid (t':=s.toks) (a:=s.heap.objs.size+1) (o:=.lst (ss'.map V.str)) (fun b o eb=>sortedAll_old eb) (hAw _) ?_,rfl,q _ ss' nz h2 h3⟩;refine⟨?_,out.toList,e,qG1 h1,by simpa using he⟩;rw[hA1,h2.length_eq];exact hB3 (qAi (by omega))
end
end L2
namespace L2
open PySem PySem.Spec PyProof.Rows
section
variable {X:Cx}
theorem sl_str:SlR X (fun x lo hi H Q=>∃ z:Str,x = .str z/\z.length<=sizeLine/\Q (.str (Txt.slice z lo hi)) H):=by
 intro pins s σ H x v vl vu lo hi sl Q I rx hs pl pu h;obtain⟨z,rfl,hz,q⟩:=h;obtain⟨t,rfl⟩:=rx;refine⟨"str",_,F.slot_str_getitem.lookup,typeIs_str _ _ _,?_⟩;obtain⟨o,ho,hc,hd⟩:=hs;have fin:∀ t' k,EP X pins σ Q (.str (Txt.slice z lo hi) t') { s with toks:=k }:=fun t' k=>⟨.str (Txt.slice z lo hi),H,I.tok k,⟨t',rfl⟩,q⟩
 cases pl with
 | none =>
  cases pu with
  | none=>exact wpAny_getItem_str_slice (l:=none) (u:=none) (st:=none) ⟨o,ho,hc,hd⟩ rfl (post_val_or_str ⟨hAs (Txt.slice_le z _ _) hz,fin⟩)
  | int j uj=>exact wpAny_getItem_str_slice (l:=none) (u:=some (j,uj)) (st:=none) ⟨o,ho,hc,hd⟩ rfl (post_val_or_str ⟨hAs (Txt.slice_le z _ _) hz,fin⟩)
 | int i ui =>
  cases pu with
  | none=>exact wpAny_getItem_str_slice (l:=some (i,ui)) (u:=none) (st:=none) ⟨o,ho,hc,hd⟩ rfl (post_val_or_str ⟨hAs (Txt.slice_le z _ _) hz,fin⟩)
  | int j uj=>exact wpAny_getItem_str_slice (l:=some (i,ui)) (u:=some (j,uj)) (st:=none) ⟨o,ho,hc,hd⟩ rfl (post_val_or_str ⟨hAs (Txt.slice_le z _ _) hz,fin⟩)
theorem call_isinst:qA6 X (.builtin "isinstance") (fun xs H Q=>∃ x t c b,xs=[x,.ty c]/\TyOf X.K H x t/\PySem.W.kitOne X.K t (.type c)=some b/\Q (.bl b) H):=by
 intro pins s σ H xs us Q I r h;obtain⟨x,t,c,b,rfl,ty,e,q⟩:=h;obtain⟨u,w',rfl,rx,rc⟩:=vals2 r;cases(show w'=Value.type c from rc);exact isinst_ok I rx ty e fun tk=>⟨.bl b,H,I.tok tk,rfl,q⟩
end
end L2
namespace L2
open PySem PySem.Spec PyProof.Rows
section
variable {X:Cx}
theorem getD_all (bs:List Bool) (d:Bool):(List.range bs.length).all (fun i=>bs.getD i d)=bs.all id:=by
 induction bs with
 | nil=>rfl
 | cons b r ih =>
  rw[hB1,List.range_succ_eq_map,List.all_cons,List.all_map,List.all_cons];have e:((fun i=>(b :: r).getD i d)∘Nat.succ)=fun i=>r.getD i d:=by
   funext i;simp
  rw[e,ih];simp
theorem getD_any (bs:List Bool) (d:Bool):(List.range bs.length).any (fun i=>bs.getD i d)=bs.any id:=by
 induction bs with
 | nil=>rfl
 | cons b r ih =>
  rw[hB1,List.range_succ_eq_map,hD1,List.any_map,hD1];have e:((fun i=>(b :: r).getD i d)∘Nat.succ)=fun i=>r.getD i d:=by
   funext i;simp
  rw[e,ih];simp
theorem truths {P:Program} {w:World} {A:Around} {bs:List Bool} {its:List Value} (rv:qBa (bs.map V.bl) its) (d:Bool):TruthOf P w A (fun i v=>its.toArray[i]?=some v) (fun i=>bs.getD i d):=by
 intro i v s Q E hv hQ;have hv':its[i]?=some v:=by simpa using hv
 have hi:i<its.length:=(hAr.mp hv').1;have hl:=rv.length;rw[hA1]at hl;have hb:(bs.map V.bl)[i]?=some (V.bl bs[i]):=by rw[hAh,hA2 (by omega)];rfl
 obtain⟨u,hu,ru⟩:=rv.get hb;rw[hv']at hu;have e:v=Value.bool bs[i]:=(hAv hu).trans ru;rw[e];have e2:bs.getD i d=bs[i]:=by rw[hAg,hA2 (by omega)];rfl
 have hQ:Q (bs.getD i d) s:=hQ;rw[e2]at hQ;exact wpAny_truthy_bool hQ
theorem call_allB (hc:X.calm=true):qA6 X (.builtin "all") (fun xs H Q=>∃ (p:Addr) (bs:List Bool),xs=[.ref p]/\SqL X.K H p (bs.map V.bl)/\Q (.bl (bs.all id)) H):=by
 intro pins s σ H xs us Q I r h;obtain⟨p,bs,rfl,hq,q⟩:=h;obtain⟨u,rfl,rx⟩:=qCa r;cases rx;obtain⟨its,rv,pl,hz⟩:=I.list hq;have hl:=rv.length;rw[hA1]at hl;have hne:p≠s.heap.objs.size:=by
  obtain⟨o,n,e,_⟩:=pl;exact hAk (Heap.lt_size e)
 have hh:=I.ok.hd hc;refine call_all_walk (wpAny_pyIter_list pl.isList ?_);refine⟨s.heap.objs.size,_,_,_,_,_,fun i=>bs.getD i true,rfl,Walks.list (by exact hh) _ p hne its.toArray,⟨⟨_,Heap.get?_push_size _ rfl,rfl,rfl⟩,pl.isList.at fun o e=>Heap.get?_push_of_some _ e⟩,truths rv true,fun h' tk hk=>?_⟩;refine⟨.bl (bs.all id),H,I.kept (t':=tk) fun b o e=>hk b o ?_ (Heap.get?_push_of_some _ e),?_,q⟩
 ·intro z;rw[hA7]at z;exact absurd (Heap.lt_size e) (by rw[z];exact hBp _)
 ·show Value.bool _=Value.bool _;rw[hAc,<-hl,getD_all]
theorem call_anyB (hc:X.calm=true):qA6 X (.builtin "any") (fun xs H Q=>∃ (p:Addr) (bs:List Bool),xs=[.ref p]/\SqL X.K H p (bs.map V.bl)/\Q (.bl (bs.any id)) H):=by
 intro pins s σ H xs us Q I r h;obtain⟨p,bs,rfl,hq,q⟩:=h;obtain⟨u,rfl,rx⟩:=qCa r;cases rx;obtain⟨its,rv,pl,hz⟩:=I.list hq;have hl:=rv.length;rw[hA1]at hl;have hne:p≠s.heap.objs.size:=by
  obtain⟨o,n,e,_⟩:=pl;exact hAk (Heap.lt_size e)
 have hh:=I.ok.hd hc;refine call_any_walk (wpAny_pyIter_list pl.isList ?_);refine⟨s.heap.objs.size,_,_,_,_,_,fun i=>bs.getD i true,rfl,Walks.list (by exact hh) _ p hne its.toArray,⟨⟨_,Heap.get?_push_size _ rfl,rfl,rfl⟩,pl.isList.at fun o e=>Heap.get?_push_of_some _ e⟩,truths rv true,fun h' tk hk=>?_⟩;refine⟨.bl (bs.any id),H,I.kept (t':=tk) fun b o e=>hk b o ?_ (Heap.get?_push_of_some _ e),?_,q⟩
 ·intro z;rw[hA7]at z;exact absurd (Heap.lt_size e) (by rw[z];exact hBp _)
 ·show Value.bool _=Value.bool _;rw[hAc,<-hl,getD_any]
end
end L2
namespace L2
open PySem PySem.Spec PyProof.Rows
theorem orstand_led (t:SetTable) (n:Nat):(t.orStandIn n).led=t.led:=by
 unfold SetTable.orStandIn;split <;> rfl
theorem laynew_led (t:SetTable) (es:Array (Int×Value)) (h:Int) (x:Value):(layNew t es h x).2.1.led=t.led:=by
 unfold layNew;split
 ·exact orstand_led _ _
 ·rfl
theorem relay_led (t:SetTable) (es:Array (Int×Value)) (k:Nat):(relayAll t es k).2.1.led=t.led:=by
 unfold relayAll;split
 ·rename_i u order e;have eu:u.led=t.led:=by
   unfold SetTable.relaid SetTable.laid at e;cases hc:SetTable.layClean (SetTable.sizeAbove k - 1) (es.map (·.1)) with
   | none=>rw[hc]at e;cases e
   | some o =>
    rw[hc]at e;injection e with e
    injection e with e1 e2
    rw[<-e1]
  dsimp only;split
  ·exact eu
  ·rfl
 ·rfl
theorem relay_plain (t:SetTable) (es:Array (Int×Value)) (k:Nat) (hp:t.plain=false):(relayAll t es k).2.1.plain=false:=by
 unfold relayAll;split
 ·rename_i u order e;have eu:u.plain=t.plain:=by
   unfold SetTable.relaid SetTable.laid at e;cases hc:SetTable.layClean (SetTable.sizeAbove k - 1) (es.map (·.1)) with
   | none=>rw[hc]at e;cases e
   | some o =>
    rw[hc]at e;injection e with e
    injection e with e1 e2
    rw[<-e1]
  dsimp only;split
  ·exact eu.trans hp
  ·rfl
 ·rfl
def qBf (P:Program) (w:World) (h:Heap) (a:Addr) (ss:List Str):Prop :=
 ∃ (es:Array (Int×Value)) (ep:Nat) (t:SetTable),h.get? a=some { cls:=.type "set",dict:=none,data:=.set es ep t,slots:=#[] }/\ElemsOf (PySem.strKind P w) es.toList /\
  StrsAre (es.toList.map (·.2)) ss/\es.size<scanBound/\t.fits es.size=true/\t.led=!w.params.followText "set-order"/\(es.size≠0->t.plain=false)
theorem strs_mem:∀ {vs:List Value} {ss:List Str},StrsAre vs ss->((∃ v∈vs,Value.isStrOf x v=true)↔x∈ss)
 | _,_,.nil=>by simp
 | _,_,.cons y t r=>by
  have ih:=strs_mem (x:=x) r;have hy:Value.isStrOf x (.str y t)=true↔x=y:=by
   constructor
   ·intro h;obtain⟨u,e⟩:=Value.isStrOf_shape h;cases e;rfl
   ·rintro rfl;simp[Value.isStrOf]
  constructor
  ·rintro⟨v,hv,hp⟩;rcases hAa.mp hv with rfl | hv
   ·rw[hy.mp hp];exact hA3
   ·exact hA4 _ (ih.mp ⟨v,hv,hp⟩)
  ·intro h;rcases hAa.mp h with h | h
   ·exact⟨_,hA3,hy.mpr h⟩
   ·obtain⟨v,hv,hp⟩:=ih.mpr h;exact⟨v,hA4 _ hv,hp⟩
theorem strs_perm {es es1:List (Int×Value)} {ss:List Str} {k:Int} {x:Str} {t:Tok} (hS:StrsAre (es.map (·.2)) ss) (p:es1.Perm (es++[(k,.str x t)])):∃ ss1,StrsAre (es1.map (·.2)) ss1/\ss1.Perm (ss++[x]):=by
 have hall:∀ v,v∈es1.map (·.2)->∃ y u,v = .str y u:=by
  intro v hv;obtain⟨e,he,rfl⟩:=hAb.mp hv;rcases hAe.mp (p.mem_iff.mp he) with z | z
  ·exact hS.all _ (hBs z)
  ·rw[hA7]at z;subst z;exact⟨x,t,rfl⟩
 refine⟨_,strsAre_map _ hall,?_⟩;have q:=(p.map (·.2)).map strOf;rw[hA9,hA9,hS.strs]at q;exact q
theorem qEc {es es1:List (Int×Value)} {ss:List Str} (hS:StrsAre (es.map (·.2)) ss) (p:es1.Perm es):∃ ss1,StrsAre (es1.map (·.2)) ss1/\ss1.Perm ss:=by
 have hall:∀ v,v∈es1.map (·.2)->∃ y u,v = .str y u:=by
  intro v hv;obtain⟨e,he,rfl⟩:=hAb.mp hv;exact hS.all _ (hBs (p.mem_iff.mp he))
 refine⟨_,strsAre_map _ hall,?_⟩;have q:=(p.map (·.2)).map strOf;rw[hS.strs]at q;exact q
section
variable {P:Program} {w:World} {A:Around} {E:Value->Shared->Prop} {s:Shared} {a:Addr} {ss:List Str}
theorem qGp (ho:s.heap.get? a=some { cls:=.type "set",dict:=none,data:=.set es ep t,slots:=#[] }) :
  (s.heap.update a (Obj.putSet es' t')).get? a=some { cls:=.type "set",dict:=none,data:=.set es' (ep+1) t',slots:=#[] }:=by
 have q:=Heap.get?_update_self (Obj.putSet es' t') ho (by rw[putSet_of es' t' rfl];rfl);rw[putSet_of es' t' rfl]at q;exact q
theorem tset_tail {g:Bool->Sem Unit} (hg:∀ (b:Bool) (s1:Shared) (Q':Unit->Shared->Prop),Q' () s1->wpAny (model P w) A (g b) Q' E s1) {es es1:Array (Int×Value)} {ep:Nat} {t t2:SetTable} {ss1:List Str}
  (ho:s.heap.get? a=some { cls:=.type "set",dict:=none,data:=.set es ep t,slots:=#[] }) (e1:ElemsOf (PySem.strKind P w) es1.toList) (e2:StrsAre (es1.toList.map (·.2)) ss1) (e3:es1.size<scanBound) (e4:t2.fits es1.size=true)
  (e5:t2.led=!w.params.followText "set-order") (e6:t2.plain=false) {wasD:Bool} {R:Option Bool->Shared->Prop} (h:∀ h' ss',Heap.SameBut a s.heap h'->qBf P w h' a ss'->ss'.Perm ss1->R (some true) { s with heap:=h' }) :
  wpAny (model P w) A (do
    storeSet a es1 t2
    if (!wasD && t2.tooFull)=true then do
      g (relayAll t2 es1 (SetTable.grown es1.size)).2.2
      storeSet a (relayAll t2 es1 (SetTable.grown es1.size)).1 (relayAll t2 es1 (SetTable.grown es1.size)).2.1
      pure (some true)
     else pure (some true)) R E s:=by
 refine wpAny_bind (wpAny_storeSet_of ho rfl ?_ (fits_of_scanBound e3));have o1:(s.heap.update a (Obj.putSet es1 t2)).get? a=_:=qGp (s:=s) ho;have b1:=Heap.SameBut.update s.heap a (Obj.putSet es1 t2);split
 ·have p:=relayAll_perm t2 es1 (SetTable.grown es1.size);have f:=relayAll_fits t2 es1 (SetTable.grown es1.size);have l:=relay_led t2 es1 (SetTable.grown es1.size);have pl:=relay_plain t2 es1 (SetTable.grown es1.size) e6;generalize relayAll t2 es1 (SetTable.grown es1.size)=Rl at p f l pl ⊢;obtain⟨es2,t3,gv⟩:=Rl;dsimp only at p f l pl ⊢;have z2:es2.size=es1.size:=by rw[<-hB0,p.length_eq,hB0]
  obtain⟨ss2,q1,q2⟩:=qEc e2 p;refine wpAny_bind (hg _ _ _ (wpAny_bind (wpAny_storeSet_of o1 rfl ?_ (fits_of_scanBound (by rw[z2];exact e3)))));have o2:((s.heap.update a (Obj.putSet es1 t2)).update a (Obj.putSet es2 t3)).get? a=_:=qGp (s:={ s with heap:=s.heap.update a (Obj.putSet es1 t2) }) o1;exact wpAny_pure (h _ ss2 (b1.trans (Heap.SameBut.update _ a _)) ⟨es2,_,t3,o2,e1.perm p,q1,by rw[z2];exact e3,f,l.trans e5,fun _=>pl⟩ q2)
 ·exact wpAny_pure (h _ ss1 b1 ⟨es1,_,t2,o1,e1,e2,e3,e4,e5,fun _=>e6⟩ (hCm _))
theorem tset_add (hS:qBf P w s.heap a ss) (room:ss.length+1<scanBound)
  (h:∀ h' ss',Heap.SameBut a s.heap h'->qBf P w h' a ss'->(if x∈ss then ss'=ss else ss'.Perm (ss++[x]))->Q (!decide (x∈ss)) { s with heap:=h' }) :
  wpAny (model P w) A (setAddHashed a (.str x tk) ((PySem.strKind P w).hash x)) Q E s:=by
 obtain⟨es,ep,t,ho,e1,e2,e3,e4,e5,e6⟩:=hS;have hk:(PySem.strKind P w).is x (.str x tk)=true:=strKind_is P w x tk;have hsc:Value.scannable (.str x tk)=true:=rfl;have hz:ss.length=es.size:=by rw[<-e2.strs,hA1,hA1,hB0]
 unfold setAddHashed setAddHashedIn;refine wpAny_holding (wpAny_bind (wpAny_setState_of ho rfl e4 ?_));dsimp only;rw[byScan_of hsc e3 e1,if_pos rfl];unfold setAddByScan;refine wpAny_bind (wpAny_bind (wpAny_rule (wpAny_bind (wpAny_setScan_of hk ho rfl e4 e1 ?_))));cases hr:List.findIdx? (fun e=>(PySem.strKind P w).is x e.2) es.toList with
 | some j =>
  dsimp only;obtain⟨hj,hp,_⟩:=List.findIdx?_eq_some_iff_getElem.mp hr;have hm:x∈ss:=(strs_mem e2).mp ⟨_,hBs (hBw hj),hp⟩;have q:=h s.heap ss (Heap.SameBut.refl a _) ⟨es,ep,t,ho,e1,e2,e3,e4,e5,e6⟩ (by rw[if_pos hm]);rw[decide_eq_true hm]at q;exact wpAny_pure (wpAny_pure q)
 | none =>
  dsimp only;have hm:¬x∈ss:=fun z=>by
   obtain⟨v,hv,hp⟩:=(strs_mem e2).mpr z;obtain⟨e,he,rfl⟩:=hAb.mp hv;have q:=List.findIdx?_eq_none_iff.mp hr e he;rw[show(PySem.strKind P w).is x e.2=true from hp]at q;cases q
  have gw:∀ (b:Bool) (s1:Shared) (Q':Unit->Shared->Prop),Q' () s1->wpAny (model P w) A (match b with | true=>rule "set.scan.the-table-gave-way" | false=>pure ()) Q' E s1:=fun b s1 Q' hq=>by
   cases b
   ·exact wpAny_pure hq
   ·exact wpAny_rule hq
  have p:=layNew_perm t es ((PySem.strKind P w).hash x) (.str x tk);have f:=layNew_fits t es ((PySem.strKind P w).hash x) (.str x tk);have l:=laynew_led t es ((PySem.strKind P w).hash x) (.str x tk);generalize layNew t es ((PySem.strKind P w).hash x) (.str x tk)=L at p f l ⊢;obtain⟨es1,t1,wasD,gv⟩:=L;dsimp only at p f l ⊢;rw[hBl]at p;have d1:ElemsOf (PySem.strKind P w) es1.toList:=(e1.push hk hsc).perm p;obtain⟨ss1,d2,d3⟩:=strs_perm e2 p;have z1:es1.size=es.size+1:=by rw[<-hB0,p.length_eq,hAd,hB0];rfl
  have d4:es1.size<scanBound:=by rw[z1,<-hz];exact room
  have fin:∀ h' ss',Heap.SameBut a s.heap h'->qBf P w h' a ss'->ss'.Perm ss1->Q true { s with heap:=h' }:=fun h' ss' b1 b2 b3=>by
   have q:=h h' ss' b1 b2 (by rw[if_neg hm];exact b3.trans d3);rw[decide_eq_false hm]at q;exact q
  refine wpAny_bind (gw _ _ _ ?_);split
  ·rename_i hpl;refine wpAny_bind ?_;rw[hashByValue_scannable 8 hsc];refine wpAny_pure ?_;refine tset_tail gw ho d1 d2 d4 (SetTable.fits_plain_off f) (l.trans e5) rfl fun h' ss' b1 b2 b3=>?_
   exact wpAny_pure (fin h' ss' b1 b2 b3)
  ·rename_i hpl;refine wpAny_bind (wpAny_pure ?_);rw[if_pos rfl];refine tset_tail gw ho d1 d2 d4 f (l.trans e5) (by simpa using hpl) fun h' ss' b1 b2 b3=>?_
   exact wpAny_pure (fin h' ss' b1 b2 b3)
end
end L2
namespace L2
open PySem PySem.Spec PyProof.Rows
theorem qBf.at (x:qBf P w h a ss) (k:∀ o,h.get? a=some o->h'.get? a=some o):qBf P w h' a ss:=by
 obtain⟨es,ep,t,ho,r⟩:=x;exact⟨es,ep,t,k _ ho,r⟩
def Once (val:Nat->Str) (i:Nat) (ss:List Str):Prop:=ss.Nodup/\ss.length<=i/\∀ x,x∈ss↔∃ j,j<i/\val j=x
theorem Once.zero (val:Nat->Str):Once val 0 []:=⟨hCe,hA5 _,fun x=>by simp⟩
theorem Once.next (h:Once val i ss) (e:if val i∈ss then ss'=ss else ss'.Perm (ss++[val i])):Once val (i+1) ss':=by
 obtain⟨h1,h2,h3⟩:=h;by_cases hm:val i∈ss
 ·rw[if_pos hm]at e;subst e;refine⟨h1,by omega,fun x=>(h3 x).trans ⟨fun ⟨j,a,b⟩=>⟨j,by omega,b⟩,fun ⟨j,a,b⟩=>?_⟩⟩;by_cases hj:j<i
  ·exact⟨j,hj,b⟩
  ·have:j=i:=by omega
   subst this;subst b;exact(h3 _).mp hm
 ·rw[if_neg hm]at e;refine⟨e.nodup_iff.mpr ?_,?_,fun x=>?_⟩
  ·rw[hCc];exact⟨h1,by simp,fun y hy z hz=>by rw[hA7]at hz;subst hz;rintro rfl;exact hm hy⟩
  ·rw[e.length_eq,hAd]
   simpa using h2
  ·rw[e.mem_iff,hAe,h3 x,hA7];constructor
   ·rintro(⟨j,a,b⟩ | rfl)
    ·exact⟨j,by omega,b⟩
    ·exact⟨i,by omega,rfl⟩
   ·rintro⟨j,a,b⟩;by_cases hj:j<i
    ·exact .inl ⟨j,hj,b⟩
    ·have:j=i:=by omega
     subst this;exact .inr b.symm
section
variable {P:Program} {w:World} {A:Around} {R:Result->Shared->Prop} {I:Addr} {fp wr:List Addr} {G:Array GenState->Array GenState->Prop} {n:Nat} {Pv:Nat->Value->Prop} {St:Nat->Shared->Prop}
theorem tset_loop (W:WalksS P w A.in1 I fp wr G n Pv St) (S:Addr) (nS:S∉fp) (val:Nat->Str) (hv:∀ i v,Pv i v->∃ t,v = .str (val i) t) (nb:n+1<scanBound):∀ (k i:Nat) (s:Shared) (ss:List Str),n - i=k->i<=n->St i s->qBf P w s.heap S ss->Once val i ss ->
  (∀ s' ss',Moved (S :: wr) G s s'->qBf P w s'.heap S ss'->Once val n ss'->R (.ok (.ret .none)) s')->codeAny (model P w) A (.builtin "set.update.loop" ⟨[.ref S,.ref I],[]⟩) R s:=by
 have nw:S∉wr:=fun z=>nS (W.sub _ z)
 have sub:∀ b∈wr,b∈S :: wr:=fun b z=>hA4 _ z
 intro k
 induction k with
 | zero =>
  intro i s ss hk hi st hS ho r;have e:i=n:=by omega
  subst e;refine codeAny_builtin PyProof.Rows.F.entry_set_update_loop ?_;rw[Around.under_plainId PyProof.Rows.F.plain_set_update_loop _];show wpAny _ A.in1 (pyNext (.ref I) >>= _) _ _ _;refine wpAny_bind (W.done s _ _ st fun s1 m1=>wpAny_pure (r s1 ss (m1.mono sub) (hS.at fun o z=>m1.heap S o nw z) ho))
 | succ k ih =>
  intro i s ss hk hi st hS ho r;have lt:i<n:=by omega
  refine codeAny_builtin PyProof.Rows.F.entry_set_update_loop ?_;rw[Around.under_plainId PyProof.Rows.F.plain_set_update_loop _];show wpAny _ A.in1 (pyNext (.ref I) >>= _) _ _ _;refine wpAny_bind (W.item i s _ _ lt st fun v s1 pv st1 m1=>?_);obtain⟨t,rfl⟩:=hv i v pv;have hS1:qBf P w s1.heap S ss:=hS.at fun o z=>m1.heap S o nw z
  show wpAny _ A.in1 (holding [Value.str (val i) t] (setAdd S (.str (val i) t)) >>= _) _ _ s1;refine wpAny_bind (wpAny_holding ?_);unfold setAdd;refine wpAny_holding (wpAny_bind ((PySem.strKind P w).pyHash (strKind_is P w _ _) ?_));refine tset_add (s:={ s1 with toks:=s1.toks+1 }) hS1 (by have:=ho.2.1;omega) fun h2 ss2 sb2 hS2 q2=>?_
  refine wpAny_pure ⟨plainId_quiet PyProof.Rows.F.plain_set_update_loop _,ih (i+1) _ ss2 (by omega) lt (W.frame _ s1 _ _ st1 (hAw _) fun b hb o e=>?_) hS2 (ho.next q2) fun s3 ss3 m3 hS3 o3=>?_⟩
  ·rw[sb2.2 b (fun z:b=S=>nS (by rw[<-z];exact hb))];exact e
  ·refine r s3 ss3 (Moved.trans W.gtrans ((m1.mono sub).then_heap (hAw _) fun b o hb e=>?_) m3) hS3 o3;rw[sb2.2 b (fun z:b=S=>hb (by rw[z];exact hA3))];exact e
end
section
variable {P:Program} {w:World} {A:Around} {E:Value->Shared->Prop} {s:Shared}
abbrev setO (w:World):Obj:={ cls:=.type "set",dict:=none,data:=.set #[] 0 (.fresh 0 0 (!w.params.followText "set-order")),slots:=#[] }
theorem setO_ok (P:Program) (w:World) (e:h.get? a=some (setO w)):qBf P w h a []:=⟨#[],0,_,e,fun e he=>by simp at he,.nil,by show 0<scanBound;decide,by rfl,rfl,fun z=>absurd rfl z⟩
theorem code_setT (v:Value) (h:Q1 (.ref s.heap.objs.size) { s with heap:=s.heap.push (setO w) }):codeAny (model P w) A (.call (.builtin "set.__new__") ⟨[.type "set",v],[]⟩) (wants Q1 E) s:=by
 refine codeAny_of_tree ?_;show wpAny _ A.in1 (do checkBuiltinCall "set.__new__" ⟨[.type "set",v],[]⟩;again (.builtin "set.__new__" ⟨[.type "set",v],[]⟩)) _ _ s;refine wpAny_bind (wpAny_of_eq (PySem.F.newCall_set_1 v) (wpAny_pure ⟨plainId_quiet PySem.F.plain_set_new _,codeAny_builtin PySem.F.entry_set_new ?_⟩));rw[Around.under_plainId PySem.F.plain_set_new _];unfold Builtin.«set.__new__» Builtin.Frozenset.newClass;have hsub:=sub_set_self;obtain⟨hp,g,d,tk,os⟩:=s;dsimp only
 wp_walk
 refine wpAny_askSetting (wpAny_pure ?_);dsimp only;simp only[newObj];exact wpAny_bind (wpAny_alloc (wpAny_pure (wpAny_pure h)))
theorem call_setT (hh:A.handled=none) (hl:s.heap.IsList l items) (hi:StrsAre items.toList ss0) (hb:items.size+1<scanBound)
  (h:∀ (h':Heap) (tk:Nat) (ss:List Str),qBf P w h' s.heap.objs.size ss->Once (fun i=>ss0.getD i default) items.size ss->(∀ b o,b<s.heap.objs.size->s.heap.get? b=some o->h'.get? b=some o)->Q (.ref s.heap.objs.size) { s with heap:=h',toks:=tk }) :
  wpAny (model P w) A (call (.type "set") [.ref l]) Q E s:=by
 obtain⟨c,tl,hmro⟩:=hC6.mro;have hmade:=hC6.made;have hsub:=hC6.sub;refine wpAny_call (codeAny_of_tree ?_);show wpAny _ _ (callAny (.type "set") _) _ _ _;refine wpAny_pure ⟨Code.quiet_builtin _ (by decide +kernel),codeAny_builtin PySem.F.entry_type_call ?_⟩;rw[Around.under_plain (weight_type_call_type "set" [.ref l] []) rfl];have h1:=hC6.notType;have h2:=hC6.canCreate;have hct:=PySem.F.typeCall_set_1 (.ref l)
 repeat (any_goals (first | assumption | wp_step))
 refine codeAny_mono (code_setT (.ref l) (E:=E) (Q1:=fun obj s1=>obj = .ref s.heap.objs.size/\s1={ s with heap:=s.heap.push (setO w) }) ⟨rfl,rfl⟩) fun r s1 hr=>?_
 cases r with
 | error e=>exact hr
 | ok fl =>
  cases fl with
  | ret obj =>
   obtain⟨rfl,rfl⟩:=hr;have hS:(s.heap.push (setO w)).get? s.heap.objs.size=some (setO w):=Heap.get?_push_size _ rfl;have hT:Shared.TypeIs { s with heap:=s.heap.push (setO w) } (.ref s.heap.objs.size) "set":=⟨_,hS,rfl⟩;have hli:=hC6.init.lookup;have hbi:=hC6.init.bind (.ref s.heap.objs.size)
   repeat (any_goals (first | assumption | wp_step))
   refine codeAny_mono (codeAny_call_builtin (R:=wants (fun r s2=>r = .none/\∃ h' tk ss,s2={ s with heap:=h',toks:=tk }/\qBf P w h' s.heap.objs.size ss/\Once (fun i=>ss0.getD i default) items.size ss /\
     (∀ b o,b<s.heap.objs.size->s.heap.get? b=some o->h'.get? b=some o)) E) hC6.init.plain PySem.F.entry_set_init (check_set_init_1 hT ?_)) fun r2 s2 hr2=>?_
   ·obtain⟨ol,hol,hcl,nl,hdl⟩:=hl;obtain⟨ocls,odict,odata,oslots⟩:=ol;simp only at hcl hdl;subst hcl;subst hdl;have hol':(s.heap.push (setO w)).get? l=some { cls:=.type "list",dict:=odict,data:=.seq items nl,slots:=oslots }:=Heap.get?_push_of_some _ hol;have hsls:=PySem.F.sub_list_set;have hslf:=PySem.F.sub_list_frozenset;have hne:(Value.type "list" == Value.type "dict")=false:=by decide
    have hl1:(s.heap.push (setO w)).IsList l items:=⟨_,hol',rfl,nl,rfl⟩;unfold Builtin.«set.__init__» noKeywords Builtin.Frozenset.updateFrom;generalize hPI:pyIter=PI
    wp_walk
    subst hPI;refine wpAny_pyIter_list hl1 (wpAny_bind (wpAny_runValue ?_));have lS:l<s.heap.objs.size:=Heap.lt_size hol;have h3:A.in1.in1.in1.handled=none:=by simp[hh]
    have nI:l≠(s.heap.push (setO w)).objs.size:=by
     rw[Heap.size_push];exact hAk (hB6 lS)
    have nF:s.heap.objs.size∉[(s.heap.push (setO w)).objs.size,l]:=by
     rw[Heap.size_push];simp only[hAa,hA7,hCa,or_false,not_or];exact⟨hAk (hBj _),hC9 lS⟩
    have hval:∀ (i:Nat) (v:Value),items[i]?=some v->∃ t,v = .str ((fun i=>ss0.getD i default) i) t:=fun i v hv=>by
     have hv':items.toList[i]?=some v:=by rw[hAp];exact hv
     obtain⟨x,t,rfl⟩:=hi.all v (hAu hv');refine⟨t,?_⟩;have e:=congrArg (fun z=>z[i]?) hi.strs;simp only[hAh,hv']at e;show Value.str x t=Value.str (ss0.getD i default) t;rw[hAg,<-e];rfl
    refine tset_loop ((Walks.list h3 _ l nI items).toS) s.heap.objs.size nF (fun i=>ss0.getD i default) hval hb (items.size - 0) 0 _ [] (by omega) (hAq _) ⟨⟨_,Heap.get?_push_size _ rfl,rfl,rfl⟩,(hl1.push _)⟩ (setO_ok P w (Heap.get?_push_of_some _ hS)) (Once.zero _) fun s' ss' hm hS' hO=>?_
    obtain⟨h',g',d',tk',os'⟩:=s';cases(show g'=s.gens from hm.gens);cases(show d'=s.drawn from hm.drawn);cases(show os'=s.os from hm.os);show wpAny _ _ _ _ _ _;refine wpAny_pure ?_;show wpAny _ _ (ret Value.none) _ _ _;refine wpAny_pure ⟨rfl,h',tk',ss',rfl,hS',hO,fun b o hb e=>?_⟩;have b1:b≠s.heap.objs.size:=hAk hb;have b2:b≠(s.heap.push (setO w)).objs.size:=by
     rw[Heap.size_push];exact hAk (hB6 hb)
    exact hm.heap b o (by simp only[hAa,hA7,hCa,or_false,not_or];exact⟨b1,b2⟩) (Heap.get?_push_of_some _ (Heap.get?_push_of_some _ e))
   ·cases r2 with
    | error e=>exact hr2
    | ok fl2 =>
     cases fl2 with
     | ret r =>
      obtain⟨rfl,h',tk,ss,rfl,hS',hO,hk'⟩:=hr2
      repeat (any_goals (first | assumption | wp_step))
      exact h _ _ _ hS' hO hk'
     | _=>exact hr2.elim
  | _=>exact hr.elim
end
end L2
namespace L2
open PySem PySem.Spec PyProof.Rows
namespace FS
theorem entry_set_iter':entryFor table "set.__iter__" = some Builtin.«frozenset.__iter__»:=entryFor_alias (id':="frozenset.__iter__") (by kernel_rfl) rfl (by decide +kernel) (by kernel_rfl)
theorem slot_sin:Slot "set_iterator" "__next__" "set_iterator.__next__":=.of (owner:="set_iterator") (n:="__next__") (by rw[typeLookup_type,builtinLookup_eq_fast];kernel_rfl) (by decide +kernel) (by decide +kernel) (by decide +kernel) (by first | exact .inl (by decide +kernel) | exact .inr (by decide +kernel)) (by rw[isSubtype_type];kernel_rfl)
theorem entry_sin:entryFor table "set_iterator.__next__" = some Builtin.«set_iterator.__next__»:=entryFor_of_tree (by kernel_rfl)
theorem owner_si:Manifest.owners.lookup (String.ofList ['r','o','t','a','r','e','t','i','_','t','e','s'].reverse)=some Manifest.sig_set_iterator:=by kernel_rfl
theorem args_sin (a:Value):argsOk "set_iterator.__next__" ⟨[a],[]⟩:=by
 unfold argsOk;rw[signature?_of (id:="set_iterator.__next__") (n:=['_','_','t','x','e','n','_','_']) (o:=['r','o','t','a','r','e','t','i','_','t','e','s']) (by kernel_rfl) owner_si];kernel_rfl
theorem slot_sii:Slot "set_iterator" "__iter__" "set_iterator.__iter__":=.of (owner:="set_iterator") (n:="__iter__") (by rw[typeLookup_type,builtinLookup_eq_fast];kernel_rfl) (by decide +kernel) (by decide +kernel) (by decide +kernel) (by first | exact .inl (by decide +kernel) | exact .inr (by decide +kernel)) (by rw[isSubtype_type];kernel_rfl)
theorem entry_sii:entryFor table "set_iterator.__iter__" = some Builtin.«dict_keyiterator.__iter__»:=entryFor_alias (id':="dict_keyiterator.__iter__") (by kernel_rfl) (by first | rfl | decide +kernel | (unfold String.splitOn;simp +decide [String.splitOnAux])) (by decide +kernel) (by kernel_rfl)
theorem args_sii (a:Value):argsOk "set_iterator.__iter__" ⟨[a],[]⟩:=by
 unfold argsOk;rw[signature?_of (id:="set_iterator.__iter__") (n:=['_','_','r','e','t','i','_','_']) (o:=['r','o','t','a','r','e','t','i','_','t','e','s']) (by kernel_rfl) owner_si];kernel_rfl
end FS
theorem qEo:∀ (l:List α) (i:Nat) (x:α),l[i]?=some x->(x :: l.eraseIdx i).Perm l
 | [],i,x,h=>by simp at h
 | y :: l,0,x,h=>by simp at h;subst h;exact hCm _
 | y :: l,i+1,x,h=>by
  have q:=qEo l i x (by simpa using h);rw[List.eraseIdx_cons_succ];exact(List.Perm.swap y x _).trans (q.cons y)
section
variable {M:Model} {A:Around} {E:Value->Shared->Prop} {s:Shared}
theorem wp_choose (hn:n≠0) (h:∀ i d,i<n->Q i { s with drawn:=d }):wpAny M A (choose src n) Q E s:=fun Γ p _=>⟨hn,h _ _ (Nat.mod_lt _ (Nat.pos_of_ne_zero hn))⟩
theorem qEr:∀ (n:Nat) (xs:List α) (s:Shared) (Q:List α->Shared->Prop),xs.length=n->(∀ ys d,ys.Perm xs->Q ys { s with drawn:=d })->wpAny M A (drawOrder n xs) Q E s
 | 0,xs,s,Q,hl,h=>by
  have e:xs=[]:=hAy.mp hl;subst e;exact wpAny_pure (h [] s.drawn (hCm _))
 | n+1,[],s,Q,hl,h=>by simp at hl
 | n+1,y :: ys,s,Q,hl,h=>by
  show wpAny M A (choose .order (y :: ys).length >>= _) Q E s;refine wpAny_bind (wp_choose (by simp) fun i d hi=>?_);have e:(y :: ys)[i]?=some (y :: ys)[i]:=hA2 hi;rw[e];dsimp only;have p:=qEo (y :: ys) i _ e;refine wpAny_bind (qEr n ((y :: ys).eraseIdx i) _ _ ?_ fun zs d2 pz=>wpAny_pure (h _ d2 ((pz.cons _).trans p)));have:=p.length_eq;simp only[hB1]at this hl ⊢;omega
end
theorem pick_go (next:Nat->Nat):∀ (n k:Nat) (left:List α) (out:Array α),left.length=n->(pickOrder.go next n k left out).toList.Perm (out.toList++left)
 | 0,k,left,out,hl=>by
  have e:left=[]:=hAy.mp hl;subst e;rw[pickOrder.go,hBi]
 | n+1,k,left,out,hl=>by
  rw[pickOrder.go];have hi:next k % left.length<left.length:=Nat.mod_lt _ (by omega);have e:left[next k % left.length]?=some left[next k % left.length]:=hA2 hi;rw[e];dsimp only;have p:=qEo left _ _ e;have l:=p.length_eq;simp only[hB1]at l;refine(pick_go next n (k+1) _ _ (by omega)).trans ?_;rw[hBl,hBd];exact List.Perm.append_left _ p
theorem pick_perm (next:Nat->Nat) (xs:Array α):(pickOrder next xs).toList.Perm xs.toList:=by
 have q:=pick_go next xs.size 0 xs.toList #[] (by simp)
 simpa [pickOrder] using q
section
variable {P:Program} {w:World} {A:Around} {E:Value->Shared->Prop} {s:Shared} {a:Addr} {es:Array (Int×Value)} {ep:Nat} {t:SetTable}
theorem wp_setDrawn (ho:s.heap.get? a=some { cls:=.type "set",dict:=none,data:=.set es ep t,slots:=#[] }) (hf:t.fits es.size=true) (h:Q (!w.params.followText "set-order" && (!t.plain && decide (es.size > 1))) s):wpAny (model P w) A (setDrawn a) Q E s:=by
 unfold setDrawn;refine wpAny_bind (wpAny_setState_of ho rfl hf ?_);unfold setsByText;exact wpAny_bind (wpAny_bind (wpAny_askSetting (wpAny_pure (wpAny_pure h))))
theorem wp_setNextT (ho:s.heap.get? a=some { cls:=.type "set",dict:=none,data:=.set es ep t,slots:=#[] }) (hf:t.fits es.size=true) (hb:w.params.followText "set-order" = true)
  (h:Q (((pickOrder (w.params.setOrder a ep) es)[i]?).map fun e=>(e.2,slot)) s):wpAny (model P w) A (setNext a slot i ep) Q E s:=by
 unfold setNext;refine wpAny_bind (wpAny_setState_of ho rfl hf ?_);unfold setsByText;refine wpAny_bind (wpAny_bind (wpAny_askSetting (wpAny_pure ?_)));show wpAny _ _ (if (w.params.followText "set-order")=true then _ else _) _ _ _;rw[if_pos hb];rw[if_neg (by simp)];unfold setWalk;refine wpAny_bind (wpAny_bind (wpAny_setState_of ho rfl hf ?_));unfold setsByText;refine wpAny_bind (wpAny_bind (wpAny_askSetting (wpAny_pure ?_)));show wpAny _ _ (if (w.params.followText "set-order")=true then _ else _) _ _ _;rw[if_pos hb];exact wpAny_bind (wpAny_askSetting (wpAny_pure (wpAny_pure h)))
theorem wp_setNext1 (ho:s.heap.get? a=some { cls:=.type "set",dict:=none,data:=.set es ep t,slots:=#[] }) (hf:t.fits es.size=true) (hb:w.params.followText "set-order" = false) (h1:es.size<=1) (hl:t.led=true)
  (h:Q (match es[SetTable.below t.place slot]?,t.place[SetTable.below t.place slot]? with | some (_,x),some j=>some (x,j+1) | _,_=>none) s):wpAny (model P w) A (setNext a slot i ep) Q E s:=by
 unfold setNext;refine wpAny_bind (wpAny_setState_of ho rfl hf ?_);unfold setsByText;refine wpAny_bind (wpAny_bind (wpAny_askSetting (wpAny_pure ?_)));show wpAny _ _ (if (w.params.followText "set-order")=true then _ else _) _ _ _;rw[if_neg (by rw[hb];exact hAo)];show wpAny _ _ (if (!t.plain && decide (es.size > 1))=true then _ else _) _ _ _;rw[if_neg (by rw[hB7];rintro⟨_,z⟩;have:=of_decide_eq_true z;omega)];refine wpAny_bind ?_;show wpAny _ _ (if (!t.led && !es.isEmpty)=true then _ else _) _ _ _;rw[if_neg (by rw[hl];simp)];exact wpAny_pure (wpAny_pure h)
end
end L2
namespace L2
open PySem PySem.Spec PyProof.Rows
abbrev sIt (a:Addr) (f0:Value) (i n ep:Nat):Obj:={ cls:=.type "set_iterator",dict:=none,data:=.fields #[f0,rawInt i,.ref a,rawInt n,rawInt ep],slots:=#[] }
abbrev sOb (es:Array (Int×Value)) (ep:Nat) (t:SetTable):Obj:={ cls:=.type "set",dict:=none,data:=.set es ep t,slots:=#[] }
section
variable {P:Program} {w:World} {A:Around} {E:Value->Shared->Prop} {s:Shared} {a I:Addr} {es:Array (Int×Value)} {ep:Nat} {t:SetTable}
theorem sit_stop {T:Obj} {Q:Fin->Shared->Prop} {f0:Value} {i n:Nat} {pre:Sem Unit} (hh:A.handled=none) (hI:s.heap.get? I=some (sIt a f0 i n ep))
  (hp:∀ {Q':Unit->Shared->Prop},(∀ h1,Heap.SameBut I s.heap h1->(∃ g0,h1.get? I=some (sIt a g0 i n ep))->Q' () { s with heap:=h1 })->wpAny (model P w) A pre Q' E s)
  (hE:∀ h' e,Heap.ExtBut I s.heap h'->(∃ o,h'.get? e=some o/\o.cls = .type "StopIteration")->E (.ref e) { s with heap:=h' }) :
  wpAny (model P w) A (do pre;setField (.ref I) 2 .none;raiseNew (← newExc (.type "StopIteration") [])) Q E s:=by
 refine wpAny_bind (hp fun h1 b1 hg=>?_);obtain⟨g0,hI1⟩:=hg;refine wpAny_bind (wpAny_setField_rec hI1 (by simp) fun h2 hI2 b2=>?_);show wpAny _ _ (newExc (.type "StopIteration") [] >>= fun e=>raiseNew e) _ _ _;refine wpAny_bind ?_;simp only[newExc,newTuple];refine wpAny_bind (wpAny_newObj_type ?_ (by size_fits));refine wpAny_bind (m:=firstArgMember _ _) (wpAny_of_eq (a:=Value.none) (by first | rfl | (simp only[firstArgMember];rfl)) ?_);refine wpAny_newObj_type ?_ (by size_fits);simp only[raiseNew];refine wpAny_bind (wpAny_handled ?_);rw[hh];exact wpAny_bind (wpAny_pure (wpAny_throw (hE _ _ (((b1.trans b2).extBut.push _).push _) ⟨_,Heap.get?_push_size _ rfl,rfl⟩)))
end
section
variable {P:Program} {w:World} {a I:Addr} {es:Array (Int×Value)} {ep:Nat} {t:SetTable}
theorem walk_setI (hne:a≠I) (hf:t.fits es.size=true) (order:List Value) (sl:Nat->Nat)
  (nx:∀ (A:Around) (E:Value->Shared->Prop) (s:Shared) (Q:Option (Value×Nat)->Shared->Prop) (i:Nat),i<=order.length->s.heap.get? a=some (sOb es ep t)->Q ((order[i]?).map fun x=>(x,sl (i+1))) s->wpAny (model P w) A (setNext a (sl i) i ep) Q E s) :
  ∀ A:Around,A.handled=none->Walks P w A I [I,a] [I] order.length (fun i v=>order[i]?=some v) (fun i h=>h.get? I=some (sIt a (rawInt (sl i)) i es.size ep)/\h.get? a=some (sOb es ep t)):=fun A hh=>{
 sub:=fun b hb=>by simp at hb ⊢;exact .inl hb
 frame:=fun i h h' st k=>⟨k I (by simp) _ st.1,k a (by simp) _ st.2⟩
 item:=fun i s Q E hi st hQ=>by
  obtain⟨hI,ho⟩:=st;have hT:s.TypeIs (.ref I) "set_iterator":=⟨_,hI,rfl⟩;unfold pyNext;refine wpAny_bind (wpAny_attempt (wpAny_callSpecial?_slot (name:=Str.ofString "__next__") hT FS.slot_sin (wpAny_call_entry FS.slot_sin hT FS.entry_sin ?_ (FS.args_sin _))));unfold Builtin.«set_iterator.__next__»;refine wpAny_bind (wpAny_pure (wpAny_bind (wpAny_fieldsOf hI rfl ?_)));show wpAny _ _ (setEntries a >>= _) _ _ _;refine wpAny_bind (wpAny_setEntries_of ho rfl hf ?_);rw[if_neg (by simp)];show wpAny _ _ (setNext a (sl i) i ep >>= _) _ _ _;refine wpAny_bind (nx _ _ s _ i (hB3 hi) ho ?_);rw[hA2 hi];show wpAny _ _ (setField (.ref I) 0 (rawInt (sl (i+1))) >>= _) _ _ _;refine wpAny_bind (wpAny_setField_rec hI (by simp) fun h1 hI1 b1=>wpAny_bind (wpAny_setField_rec hI1 (by simp) fun h2 hI2 b2=>?_));refine wpAny_pure ⟨_,rfl,wpAny_pure (hQ _ h2 s.toks (hA2 hi) ⟨hI2,?_⟩ fun b o hb e=>?_)⟩
  ·exact b2.extBut _ _ hne (b1.extBut _ _ hne ho)
  ·have nb:b≠I:=by simpa using hb
   exact b2.extBut _ _ nb (b1.extBut _ _ nb e)
 done:=fun s Q E st hQ=>by
  obtain⟨hI,ho⟩:=st;have hT:s.TypeIs (.ref I) "set_iterator":=⟨_,hI,rfl⟩;unfold pyNext;refine wpAny_bind (wpAny_attempt (wpAny_callSpecial?_slot (name:=Str.ofString "__next__") hT FS.slot_sin (wpAny_call_entry FS.slot_sin hT FS.entry_sin ?_ (FS.args_sin _))));unfold Builtin.«set_iterator.__next__»;refine wpAny_bind (wpAny_pure (wpAny_bind (wpAny_fieldsOf hI rfl ?_)));show wpAny _ _ (setEntries a >>= _) _ _ _;refine wpAny_bind (wpAny_setEntries_of ho rfl hf ?_);rw[if_neg (by simp)];show wpAny _ _ (setNext a (sl order.length) order.length ep >>= _) _ _ _;refine wpAny_bind (nx _ _ s _ order.length (hA5 _) ho ?_);rw[hBe (hA5 _)];refine sit_stop (pre:=pure ()) (T:=sOb es ep t) (by exact hh) hI (fun q=>wpAny_pure (q _ (Heap.SameBut.refl ..) ⟨_,hI⟩)) fun h' e k he=>?_
  obtain⟨oe,h1,h2⟩:=he;refine wpAny_bind (wpAny_isInstance (T:="StopIteration") (b:=true) ⟨oe,h1,h2⟩ isSubtype_stop (wpAny_pure (hQ _ s.toks fun b o hb e=>k _ _ (by simpa using hb) e)))
 self:=fun i s Q E st hQ=>by
  have hT:s.TypeIs (.ref I) "set_iterator":=⟨_,st.1,rfl⟩;refine wpAny_pyIter_slot hT FS.slot_sii (wpAny_call_entry FS.slot_sii hT FS.entry_sii ?_ (FS.args_sii _));exact wpAny_pure ⟨_,rfl,"set_iterator",_,hT,FS.slot_sin.lookup,hQ⟩ }
end
end L2
namespace L2
open PySem PySem.Spec PyProof.Rows
abbrev tOb (xs:Array Value):Obj:={ cls:=.type "tuple",data:=.seq xs }
section
variable {P:Program} {w:World} {a I T:Addr} {es:Array (Int×Value)} {ep:Nat} {t:SetTable}
theorem walk_setD (hne:a≠I) (hT0:T≠I) (hf:t.fits es.size=true) (ps:List Nat) (order:List Value) (hl:order.length=ps.length) (hp:∀ (i p:Nat),ps[i]?=some p->∃ k x,es[p]?=some (k,x)/\order[i]?=some x) :
  ∀ A:Around,A.handled=none->Walks P w A I [I,a,T] [I] order.length (fun i v=>order[i]?=some v) (fun i h=>h.get? I=some (sIt a (.ref T) i es.size ep)/\h.get? a=some (sOb es ep t)/\h.get? T=some (tOb (ps.map fun (p:Nat)=>rawInt p).toArray)):=fun A hh=>{
 sub:=fun b hb=>by simp at hb ⊢;exact .inl hb
 frame:=fun i h h' st k=>⟨k I (by simp) _ st.1,k a (by simp) _ st.2.1,k T (by simp) _ st.2.2⟩
 item:=fun i s Q E hi st hQ=>by
  obtain⟨hI,ho,hTt⟩:=st;have hT:s.TypeIs (.ref I) "set_iterator":=⟨_,hI,rfl⟩;unfold pyNext;refine wpAny_bind (wpAny_attempt (wpAny_callSpecial?_slot (name:=Str.ofString "__next__") hT FS.slot_sin (wpAny_call_entry FS.slot_sin hT FS.entry_sin ?_ (FS.args_sin _))));unfold Builtin.«set_iterator.__next__»;refine wpAny_bind (wpAny_pure (wpAny_bind (wpAny_fieldsOf hI rfl ?_)));show wpAny _ _ (setEntries a >>= _) _ _ _;refine wpAny_bind (wpAny_setEntries_of ho rfl hf ?_);rw[if_neg (by simp)];show wpAny _ _ (seqItems? (.ref T) >>= _) _ _ _;refine wpAny_bind (wpAny_seqItems hTt rfl ?_);have hip:i<ps.length:=by rw[<-hl];exact hi
  obtain⟨k,x,h1,h2⟩:=hp i _ (hA2 hip);have e1:((ps.map fun (p:Nat)=>rawInt p).toArray)[i]?=some (rawInt ((ps[i]:Nat):Int)):=by simp[hip]
  show wpAny _ _ (match ((ps.map fun (p:Nat)=>rawInt p).toArray)[((i:Int)).toNat]? with | some (.int place _)=>_ | some _=>_ | none=>_) _ _ _;rw[hC2,e1];show wpAny _ _ (setNextDrawn a ps[i] ep >>= _) _ _ _;unfold setNextDrawn;refine wpAny_bind (wpAny_bind (wpAny_setState_of ho rfl hf ?_));dsimp only;rw[if_neg (by simp),h1];refine wpAny_pure (wpAny_bind (wpAny_setField_rec hI (by simp) fun h3 hI3 b3=>?_));refine wpAny_pure ⟨_,rfl,wpAny_pure (hQ _ h3 s.toks h2 ⟨hI3,b3.extBut _ _ hne ho,b3.extBut _ _ hT0 hTt⟩ fun b o hb e=>b3.extBut _ _ (by simpa using hb) e)⟩
 done:=fun s Q E st hQ=>by
  obtain⟨hI,ho,hTt⟩:=st;have hT:s.TypeIs (.ref I) "set_iterator":=⟨_,hI,rfl⟩;unfold pyNext;refine wpAny_bind (wpAny_attempt (wpAny_callSpecial?_slot (name:=Str.ofString "__next__") hT FS.slot_sin (wpAny_call_entry FS.slot_sin hT FS.entry_sin ?_ (FS.args_sin _))));unfold Builtin.«set_iterator.__next__»;refine wpAny_bind (wpAny_pure (wpAny_bind (wpAny_fieldsOf hI rfl ?_)));show wpAny _ _ (setEntries a >>= _) _ _ _;refine wpAny_bind (wpAny_setEntries_of ho rfl hf ?_);rw[if_neg (by simp)];show wpAny _ _ (seqItems? (.ref T) >>= _) _ _ _;refine wpAny_bind (wpAny_seqItems hTt rfl ?_);have e1:((ps.map fun (p:Nat)=>rawInt p).toArray)[order.length]?=none:=by simp[hl]
  show wpAny _ _ (match ((ps.map fun (p:Nat)=>rawInt p).toArray)[((order.length:Int)).toNat]? with | some (.int place _)=>_ | some _=>_ | none=>_) _ _ _;rw[hC2,e1];refine sit_stop (pre:=setField (.ref I) 0 (rawInt 0)) (T:=sOb es ep t) (by exact hh) hI (fun q=>wpAny_setField_rec hI (by simp) fun h1 hI1 b1=>q _ b1 ⟨_,hI1⟩) fun h' e k he=>?_
  obtain⟨oe,h1,h2⟩:=he;refine wpAny_bind (wpAny_isInstance (T:="StopIteration") (b:=true) ⟨oe,h1,h2⟩ isSubtype_stop (wpAny_pure (hQ _ s.toks fun b o hb e=>k _ _ (by simpa using hb) e)))
 self:=fun i s Q E st hQ=>by
  have hT:s.TypeIs (.ref I) "set_iterator":=⟨_,st.1,rfl⟩;refine wpAny_pyIter_slot hT FS.slot_sii (wpAny_call_entry FS.slot_sii hT FS.entry_sii ?_ (FS.args_sii _));exact wpAny_pure ⟨_,rfl,"set_iterator",_,hT,FS.slot_sin.lookup,hQ⟩ }
end
theorem below_lt (h:j<=p):SetTable.below #[p] j=0:=by
 unfold SetTable.below;show SetTable.below.go #[p] j 1 0 1=0;unfold SetTable.below.go;have e:¬(#[p]:Array Nat).getD ((0+1) / 2) j<j:=by show ¬p<j;omega
 rw[if_pos (by decide)];dsimp only;rw[if_neg e];rfl
theorem below_ge (h:p<j):SetTable.below #[p] j=1:=by
 unfold SetTable.below;show SetTable.below.go #[p] j 1 0 1=1;unfold SetTable.below.go;have e:(#[p]:Array Nat).getD ((0+1) / 2) j<j:=by show p<j;omega
 rw[if_pos (by decide)];dsimp only;rw[if_pos e];rfl
theorem below_nil (j:Nat):SetTable.below #[] j=0:=rfl
section
variable {P:Program} {w:World} {A:Around} {E:Value->Shared->Prop} {s:Shared} {a:Addr} {ss:List Str}
theorem iter_setT (hS:qBf P w s.heap a ss)
  (h:∀ (I:Addr) (fp:List Addr) (vs:List Value) (ss1:List Str) (St:Nat->Heap->Prop) (h1:Heap) (d:Drawn),StrsAre vs ss1->ss1.Perm ss->(∀ b o,s.heap.get? b=some o->h1.get? b=some o)->(∀ A:Around,A.handled=none->Walks P w A I fp [I] vs.length (fun i v=>vs[i]?=some v) St) ->
   St 0 h1->I∈fp->(∀ b∈fp,b<h1.objs.size/\(b=a\/s.heap.objs.size<=b))->s.heap.objs.size<=I->s.heap.objs.size<=h1.objs.size->Q (.ref I) { s with heap:=h1,drawn:=d }):wpAny (model P w) A (pyIter (.ref a)) Q E s:=by
 obtain⟨es,ep,t,ho,e1,e2,e3,e4,e5,e6⟩:=hS;have hT:s.TypeIs (.ref a) "set":=⟨_,ho,rfl⟩;have ha:a<s.heap.objs.size:=Heap.lt_size ho;have hp4:t.place.size=es.size:=by
  unfold SetTable.fits at e4;rw[hB7]at e4;exact eq_of_beq e4.1
 refine wpAny_pyIter_slot hT PySem.F.slot_set_iter (wpAny_call_entry PySem.F.slot_set_iter hT FS.entry_set_iter' ?_ (PySem.F.args_set_iter_1 _));unfold Builtin.«frozenset.__iter__» Builtin.Frozenset.slot0;refine wpAny_bind (wpAny_bind (wpAny_pure (wpAny_pure ?_)));unfold Builtin.Frozenset.sizeOf;refine wpAny_bind (wpAny_bind (wpAny_setEntries_of ho rfl e4 (wpAny_pure ?_)));refine wpAny_bind (wp_setDrawn ho e4 ?_);dsimp only;cases hb:w.params.followText "set-order" with
 | true =>
  rw[if_neg (by simp)];refine wpAny_bind (wpAny_pure (wpAny_bind (wpAny_setEpoch_of ho rfl e4 ?_)));show wpAny _ _ (newFields "set_iterator" _ >>= _) _ _ _;refine wpAny_bind (wpAny_newObj_type (wpAny_pure ⟨_,rfl,"set_iterator",_,⟨_,Heap.get?_push_size _ rfl,rfl⟩,FS.slot_sin.lookup,?_⟩) (by show 5<=_;decide));have p:=pick_perm (w.params.setOrder a ep) es;obtain⟨ss1,q1,q2⟩:=qEc e2 p;refine h s.heap.objs.size [s.heap.objs.size,a] _ ss1 _ _ s.drawn q1 q2 (fun b o e=>Heap.get?_push_of_some _ e) (walk_setI (ep:=ep) (es:=es) (t:=t) (hAk ha) e4 _ (fun _=>0) ?_) ⟨Heap.get?_push_size _ rfl,Heap.get?_push_of_some _ ho⟩ (by simp) ?_ (hA5 _) (by rw[Heap.size_push];exact hAw _)
  ·intro A' E' s' Q' i hi ho' hq;refine wp_setNextT ho' e4 hb ?_;rw[hAh,hAp,Option.map_map]at hq;exact hq
  ·intro b hbm;rw[Heap.size_push];simp at hbm;rcases hbm with rfl | rfl
   ·exact⟨hBj _,.inr (hA5 _)⟩
   ·exact⟨hB6 ha,.inl rfl⟩
 | false =>
  have led:t.led=true:=by rw[e5,hb];rfl
  by_cases hz:es.size > 1
  ·have pl:t.plain=false:=e6 (by omega);rw[if_pos (by rw[pl,decide_eq_true hz];rfl)];refine wpAny_bind (qEr es.size (List.range es.size) s _ (by simp) fun ps d pp=>?_);refine wpAny_bind (wpAny_newTuple (s:={ s with drawn:=d }) ?_ (by rw[hA1,pp.length_eq,hC3];exact fits_of_scanBound e3));have ho1:(s.heap.push (tOb (ps.map fun (p:Nat)=>rawInt p).toArray)).get? a=some (sOb es ep t):=Heap.get?_push_of_some _ ho;refine wpAny_bind (wpAny_setEpoch_of (s:={ s with heap:=s.heap.push (tOb (ps.map fun (p:Nat)=>rawInt p).toArray),drawn:=d }) ho1 rfl e4 ?_);show wpAny _ _ (newFields "set_iterator" _ >>= _) _ _ _;refine wpAny_bind (wpAny_newObj_type (wpAny_pure ⟨_,rfl,"set_iterator",_,⟨_,Heap.get?_push_size _ rfl,rfl⟩,FS.slot_sin.lookup,?_⟩) (by show 5<=_;decide));have hlt:∀ p∈ps,p<es.size:=fun p hm=>hBb.mp (pp.mem_iff.mp hm)
   have ep1:(ps.filterMap fun p=>es[p]?).Perm es.toList:=by
    have q:=pp.filterMap fun p=>es[p]?
    rw[filterMap_getElem?_range]at q;exact q
   have hfm:∀ l:List Nat,(∀ p∈l,p<es.size)->(l.filterMap fun p=>es[p]?).length=l.length/\∀ (i p:Nat),l[i]?=some p->∃ k x,es[p]?=some (k,x)/\((l.filterMap fun p=>es[p]?).map (·.2))[i]?=some x:=by
    intro l
    induction l with
    | nil=>intro _;exact⟨rfl,fun i p z=>by simp at z⟩
    | cons c l ih =>
     intro hm;obtain⟨i1,i2⟩:=ih fun p hp=>hm p (hA4 _ hp)
     have hcl:c<es.size:=hm c hA3;have hc:es[c]?=some es[c]:=hBm hcl;rw[hBq,hc];refine⟨by simp[i1],fun i p z=>?_⟩;cases i with
     | zero =>
      have e:c=p:=by simpa using z
      subst e;exact⟨_,_,hc,by simp⟩
     | succ i =>
      obtain⟨k,x,a1,a2⟩:=i2 i p (by simpa using z);exact⟨k,x,a1,by simpa using a2⟩
   obtain⟨f1,f2⟩:=hfm ps hlt;obtain⟨ss1,q1,q2⟩:=qEc e2 ep1;have sz1:(s.heap.push (tOb (ps.map fun (p:Nat)=>rawInt p).toArray)).objs.size=s.heap.objs.size+1:=Heap.size_push ..;refine h (s.heap.push (tOb (ps.map fun (p:Nat)=>rawInt p).toArray)).objs.size [(s.heap.push (tOb (ps.map fun (p:Nat)=>rawInt p).toArray)).objs.size,a,s.heap.objs.size] _ ss1 _ _ d q1 q2 (fun b o e=>Heap.get?_push_of_some _ (Heap.get?_push_of_some _ e))
    (walk_setD (ep:=ep) (es:=es) (t:=t) (T:=s.heap.objs.size) ?_ ?_ e4 ps _ (by rw[hA1,f1]) f2) ⟨Heap.get?_push_size _ rfl,Heap.get?_push_of_some _ ho1,Heap.get?_push_of_some _ (Heap.get?_push_size _ rfl)⟩ (by simp) ?_ ?_ ?_
   ·rw[sz1];exact hAk (hB6 ha)
   ·rw[sz1];exact hAk (hBj _)
   ·intro b hbm;rw[Heap.size_push,sz1];rw[sz1]at hbm;simp at hbm;rcases hbm with rfl | rfl | rfl
    ·exact⟨hBj _,.inr (hAw _)⟩
    ·exact⟨hB6 (hB6 ha),.inl rfl⟩
    ·exact⟨hB6 (hBj _),.inr (hA5 _)⟩
   ·rw[sz1];exact hAw _
   ·rw[Heap.size_push,sz1];exact Nat.le_succ_of_le (hAw _)
  ·rw[if_neg (by rw[decide_eq_false hz];simp)];refine wpAny_bind (wpAny_pure (wpAny_bind (wpAny_setEpoch_of ho rfl e4 ?_)));show wpAny _ _ (newFields "set_iterator" _ >>= _) _ _ _;refine wpAny_bind (wpAny_newObj_type (wpAny_pure ⟨_,rfl,"set_iterator",_,⟨_,Heap.get?_push_size _ rfl,rfl⟩,FS.slot_sin.lookup,?_⟩) (by show 5<=_;decide));refine h s.heap.objs.size [s.heap.objs.size,a] _ ss _ _ s.drawn e2 (hCm _) (fun b o e=>Heap.get?_push_of_some _ e) (walk_setI (ep:=ep) (es:=es) (t:=t) (hAk ha) e4 _ (fun i=>if i=0 then 0 else t.place.getD 0 0+1) ?_) ⟨Heap.get?_push_size _ rfl,Heap.get?_push_of_some _ ho⟩ (by simp) ?_ (hA5 _) (by rw[Heap.size_push];exact hAw _)
   ·intro A' E' s' Q' i hi ho' hq;refine wp_setNext1 ho' e4 hb (by omega) led ?_;rw[hA1,hB0]at hi;rcases hDp es.size 1 with z0 | z1
    ·have e0:es=#[]:=Array.eq_empty_of_size_eq_zero (by omega);have p0:t.place=#[]:=Array.eq_empty_of_size_eq_zero (by omega);subst e0;rw[p0]at hq ⊢;rw[below_nil]
     simpa using hq
    ·have z:es.size=1:=by omega
     obtain⟨x,e0⟩:∃ x,es=#[x]:=by
      have:=Array.size_eq_one_iff.mp z;exact this
     obtain⟨p,p0⟩:∃ p,t.place=#[p]:=Array.size_eq_one_iff.mp (by omega);subst e0;rw[p0]at hq ⊢;obtain⟨k,x⟩:=x;by_cases i0:i=0
     ·subst i0;rw[if_pos rfl,below_lt (hAq _)]
      simpa using hq
     ·have i1:i=1:=by simp at hi;omega
      subst i1;rw[if_neg (by decide)];show Q' (match (#[(k,x)]:Array (Int×Value))[SetTable.below #[p] (p+1)]?,(#[p]:Array Nat)[SetTable.below #[p] (p+1)]? with | some (_,x),some j=>some (x,j+1) | _,_=>none) s';rw[below_ge (hBj _)]
      simpa using hq
   ·intro b hbm;rw[Heap.size_push];simp at hbm;rcases hbm with rfl | rfl
    ·exact⟨hBj _,.inr (hA5 _)⟩
    ·exact⟨hB6 ha,.inl rfl⟩
end
end L2
namespace L2
open PySem PySem.Spec PyProof.Rows
section
variable {X:Cx} {pins:List (Addr×Obj)} {σ:St} {H:Hp} {s:Shared} {h':Heap}
theorem Inv.turnedT {t':Nat} {d':Drawn} {ch:List Addr} {a:Addr} {o:HO} (I:Inv X pins σ H s) (k:∀ b u,b∉ch->s.heap.get? b=some u->h'.get? b=some u) (f:∀ b∈ch,FpOk X pins H b) (hp:s.heap.objs.size<=a) (new:qBg X.prog X.w (upd H a o) h' a o) :
  Inv X pins σ (upd H a o) { s with heap:=h',toks:=t',drawn:=d' }:=by
 have nit:∀ b u,H b=some u->b∉ch:=fun b u e z=>by rw[(f b z).1]at e;cases e
 have hn:H a=none:=I.hok.fresh hp;refine I.step (g':=s.gens) (d':=d') (ch:=ch) (fun b hb=>?_) (fun b u _ _ hc e _=>k b u hc e) (fun b u _ _ hc e _=>⟨u.slots,k b u hc e⟩) (fun b u _ e n=>?_) (fun b u hc e=>⟨u,k b u hc e⟩) (fun b xs q=>by rw[qAe (qAf q hn)];exact q) (fun b u v q=>by rw[qAe (qAf q hn)];exact q)
  (fun b ps q=>⟨#[],by rw[qAe (qAf q hn),q];simp⟩) (fun m hm=>?_) (fun b u e=>?_) I.bare
 ·obtain⟨_,f1,_,f3,f4,f5⟩:=f b hb;exact⟨f3,f1,f4,f5⟩
 ·rw[qAe (hAk (hAi (Heap.lt_size e) hp))];exact n
 ·obtain⟨ob,es,ep,ho,r⟩:=hm;exact⟨ob,es,ep,k _ ob (fun z=>(f _ z).2.1 rfl) ho,r⟩
 ·by_cases hb:b=a
  ·subst hb;rw[upd_same]at e;cases e;exact new
  ·rw[qAe hb]at e;refine(I.hok b u e).stay (fun c v hc q=>k c v ?_ q) (fun c q=>by rw[qAe (qAf q hn)];exact q) fun c xs q=>by rw[qAe (qAf q hn)];exact q
   rcases hc with z | z
   ·rw[z];exact nit b u e
   ·exact nit c _ z
end
section
variable {P:Program} {w:World} {A:Around} {E:Value->Shared->Prop} {s:Shared} {a:Addr} {ss:List Str}
theorem collect_setT (hh:A.handled=none) (hS:qBf P w s.heap a ss)
  (h:∀ (vs:List Value) (ss1:List Str) (h1:Heap) (tk:Nat) (d:Drawn),StrsAre vs ss1->ss1.Perm ss->(∀ b o,s.heap.get? b=some o->h1.get? b=some o)->s.heap.objs.size<=h1.objs.size->Q vs { s with heap:=h1,toks:=tk,drawn:=d }):wpAny (model P w) A (collect (.ref a)) Q E s:=by
 unfold collect;refine wpAny_bind (wpAny_runValue (codeAny_builtin PySem.F.entry_proto_collect ?_));rw[Around.under_plainId PySem.F.plain_proto_collect _];show wpAny _ A.in1 (newList [] >>= fun l=>again (.builtin "list.__iadd__" ⟨[l,.ref a],[]⟩)) _ _ _;refine wpAny_bind (wpAny_newObj_type ?_);refine wpAny_pure ⟨plainId_quiet PySem.F.plain_list_iadd _,codeAny_builtin PySem.F.entry_list_iadd ?_⟩;rw[Around.under_plainId PySem.F.plain_list_iadd _];have hS1:qBf P w (s.heap.push (seqObj "list" #[] 0)) a ss:=hS.at fun o e=>Heap.get?_push_of_some _ e
 have hL1:(s.heap.push (seqObj "list" #[] 0)).get? s.heap.objs.size=some (seqObj "list" #[] 0):=Heap.get?_push_size _ rfl;have hT:∀ s':Shared,qBf P w s'.heap a ss->s'.TypeIs (.ref a) "set":=fun s' z=>by
  obtain⟨es,ep,t,ho,_⟩:=z;exact⟨_,ho,rfl⟩
 have ha:a<s.heap.objs.size:=by
  obtain⟨es,ep,t,ho,_⟩:=hS;exact Heap.lt_size ho
 have hz:ss.length<scanBound:=by
  obtain⟨es,ep,t,_,_,e2,e3,_⟩:=hS;rw[<-e2.strs,hA1,hA1,hB0];exact e3
 have hne:Builtin.List.listSameRef (.ref s.heap.objs.size) (.ref a)=false:=by
  show(s.heap.objs.size == a)=false;exact beq_eq_false_iff_ne.mpr (hC9 ha)
 show wpAny _ A.in1 (Builtin.List.listExtendWith (.ref s.heap.objs.size) (.ref a) (.ref s.heap.objs.size)) _ _ { s with heap:=s.heap.push (seqObj "list" #[] 0) };unfold Builtin.List.listExtendWith;refine wpAny_bind (wpAny_typeOf (hT _ hS1) ?_);rw[if_neg (by rw[hne];decide)];refine wpAny_bind (iter_setT hS1 fun I fp vs ss1 St h1 d q1 q2 q3 W st hI hfp hge hsz=>?_);have hS2:qBf P w h1 a ss:=hS1.at fun o e=>q3 _ _ e
 have hL2:h1.get? s.heap.objs.size=some (seqObj "list" #[] 0):=q3 _ _ hL1;refine wpAny_bind (wpAny_holding ?_);unfold Builtin.List.listLengthHint;refine wpAny_bind (wpAny_specialOf (hT { s with heap:=h1,drawn:=d } hS2) PySem.F.slot_set_len.lookup ?_);dsimp only;rw[show splitId "set.__len__" = some ("set","__len__") from by decide +kernel];dsimp only;refine wpAny_bind (wpAny_isInstance (b:=true) (hT { s with heap:=h1,drawn:=d } hS2) sub_set_self ?_);rw[if_neg (by decide),if_pos (by decide +kernel)];refine wpAny_bind (wpAny_typeOf (hT { s with heap:=h1,drawn:=d } hS2) (wpAny_pure ?_));rw[if_pos (by decide +kernel)];refine wpAny_bind (wpAny_rule ?_);unfold Builtin.List.listTouch;have hL3:=get?_update_seq hL2 (·.push .none);have hL4:=get?_update_seq hL3 (·.pop);refine wpAny_bind (wpAny_bind (listUpdate_at (s:={ s with heap:=h1,drawn:=d }) hL2 rfl (listUpdate_at (s:={ s with heap:=h1.update s.heap.objs.size (Obj.mapSeq (·.push .none)),drawn:=d }) hL3 rfl ?_)));have nS:s.heap.objs.size∉fp:=fun z=>by
  rcases(hfp _ z).2 with e | e
  ·exact absurd e (hC9 ha)
  ·rw[size_push']at e;exact absurd e (Nat.not_succ_le_self _)
 have upd2:∀ b o,b≠s.heap.objs.size->h1.get? b=some o->((h1.update s.heap.objs.size (Obj.mapSeq (·.push .none))).update s.heap.objs.size (Obj.mapSeq (·.pop))).get? b=some o:=fun b o hb e=>by
  rw[Heap.get?_update_ne _ _ _ _ hb,Heap.get?_update_ne _ _ _ _ hb];exact e
 have hv:vs.length<=sizeLine:=by
  have e1:=q2.length_eq;have e2:vs.length=ss1.length:=by rw[<-q1.strs,hA1]
  rw[e2,e1];exact fits_of_scanBound hz
 have st3:=(W A.in1.in1.in1 (by exact hh)).frame 0 _ ((h1.update s.heap.objs.size (Obj.mapSeq (·.push .none))).update s.heap.objs.size (Obj.mapSeq (·.pop))) st fun b hb o e=>upd2 b o (fun z=>nS (z▸hb)) e
 refine wpAny_pure ⟨plainId_quiet PySem.F.plain_extend_loop _,codeAny_extend_loopS ((W _ (by exact hh)).toS) hv _ nS _ vs.length 0 _ _ _ rfl (hAq _) st3 hL4 (ItemsOf.nil _) fun s' acc' c' hm hS' hacc=>?_⟩;show wpAny _ A (load s.heap.objs.size >>= _) _ _ s';refine wpAny_bind (wpAny_load hS' ?_);have eacc:acc'.toList=vs:=by
  refine hCn fun i=>?_
  by_cases hi:i<vs.length
  ·have hi':i<acc'.size:=by rw[hacc.1];exact hi
   rw[hAp,hBm hi'];exact(hacc.2 i _ (hBm hi')).symm
  ·rw[hAp,Array.getElem?_eq_none (by rw[hacc.1];omega),hBe (by omega)]
 show wpAny _ A (pure acc'.toList) _ _ s';rw[eacc];obtain⟨h5,g5,d5,tk5,os5⟩:=s';cases(show g5=s.gens from hm.gens);cases(show d5=d from hm.drawn);cases(show os5=s.os from hm.os);have keep:∀ b o,h1.get? b=some o->b≠s.heap.objs.size->b≠I->h5.get? b=some o:=fun b o e n1 n2=>hm.heap b o (by simp only[hAa,hCa,or_false,not_or];exact⟨n1,n2⟩) (upd2 b o n1 e)
 refine wpAny_pure (h vs ss1 h5 tk5 d q1 q2 (fun b o e=>?_) ?_)
 ·have lt:=Heap.lt_size e;refine keep b o (q3 b o (Heap.get?_push_of_some _ e)) (hAk lt) (hAk (hAi lt ?_));rw[size_push']at hge;exact Nat.le_of_succ_le hge
 ·exact hB3 (Heap.lt_size hS')
end
def SetS (P:Program) (w:World) (a:Addr) (ss:List Str):HO:=.ext fun h=>qBf P w h a ss
section
variable {X:Cx}
theorem call_setS (hc:X.calm=true):qA6 X (.type "set") (fun xs H Q=>∃ (p:Addr) (ss0:List Str),xs=[.ref p]/\SqL X.K H p (ss0.map V.str)/\ss0.length<1000/\∀ (r:Addr) (ss:List Str),H r=none->ss.Nodup->ss.length<=ss0.length->(∀ x,x∈ss↔x∈ss0)->Q (.ref r) (upd H r (SetS X.prog X.w r ss))):=by
 intro pins s σ H xs us Q I r h;obtain⟨p,ss0,rfl,hq,hl,q⟩:=h;obtain⟨u,rfl,rx⟩:=qCa r;cases rx;obtain⟨its,rv,pl,hz⟩:=I.list hq;have hlen:=rv.length;rw[hA1]at hlen;refine call_setT (I.ok.hd hc) pl.isList (by simpa using qCb rv) (by have:scanBound=4096:=rfl;simp;omega) fun h' tk ss hS hO hk=>?_
 obtain⟨o1,o2,o3⟩:=hO;rw[hAc,<-hlen]at o2 o3;refine⟨.ref s.heap.objs.size,_,I.laid (t':=tk) (a:=s.heap.objs.size) (o:=SetS X.prog X.w s.heap.objs.size ss) (fun b o e=>hk b o (Heap.lt_size e) e) (hA5 _) ⟨hS,?_,fun h1 h2 z k=>z.at k⟩,rfl,q _ ss (I.hok.fresh (hA5 _)) o1 o2 fun x=>?_⟩
 ·obtain⟨es,ep,t,ho,_⟩:=hS;exact⟨_,ho⟩
 ·rw[o3 x,List.mem_iff_getElem?];constructor
  ·rintro⟨j,hj,rfl⟩;exact⟨j,by show ss0[j]?=some (ss0.getD j default);rw[hAg,hA2 hj];rfl⟩
  ·rintro⟨j,hj⟩;exact⟨j,(hAr.mp hj).1,by show ss0.getD j default=x;rw[hAg,hj];rfl⟩
theorem qB9 (hc:X.calm=true):qA6 X (.builtin "sorted") (fun xs H Q=>∃ (p:Addr) (ss:List Str),xs=[.ref p]/\H p=some (SetS X.prog X.w p ss)/\ss.length<64/\∀ (r:Addr) (ss':List Str),H r=none->ss'.Perm ss->sortedS ss'=true->Q (.ref r) (upd H r (.lst (ss'.map V.str)))):=by
 intro pins s σ H xs us Q I r h;obtain⟨p,ss,rfl,hp,h64,q⟩:=h;obtain⟨u,rfl,rx⟩:=qCa r;cases rx;have hS:qBf X.prog X.w s.heap p ss:=(I.hok p _ hp).1;refine Calls.call_function_entry kind_sorted plain_sorted entry_sorted (args_sorted1 _) ?_;unfold Builtin.«sorted»;refine wpAny_bind (m:=checkCount "sorted" 1 1 _) (wpAny_pure (wpAny_bind (collect_setT (I.ok.hd hc) hS fun vs ss1 h1 tk d a1 a2 a3 a4=>?_)));have hvl:vs.length=ss1.length:=by rw[<-a1.strs,hA1]
 have hl64:vs.length<64:=by rw[hvl,a2.length_eq];exact h64
 refine wpAny_bind (wpAny_newList ?_ (by have:sizeLine > 64:=(by decide);omega));have hoL:(h1.push (seqObj "list" vs.toArray 0)).get? h1.objs.size=some (seqObj "list" vs.toArray 0):=Heap.get?_push_size _ rfl;refine wpAny_bind (wpAny_holding (wpAny_call_entry slot_list_sort ⟨_,hoL,rfl⟩ entry_list_sort (list_sort_treeK strKind_oneLt hoL a1.keysOf (fun v1 v2 rest e=>keyKind_strs (by rw[<-e];exact a1)) hl64 fun st' b1 b2=>⟨_,rfl,?_⟩) (args_list_sort _)));obtain⟨ss',c1,c2,c3⟩:=sorted_out_str a1 b1 b2;refine wpAny_pure ⟨_,rfl,?_⟩;have nz:H h1.objs.size=none:=I.hok.fresh a4;obtain⟨e,he⟩:=sortedHeap_at (out:=(arrOf st').map (·.2)) hoL;refine⟨.ref h1.objs.size,_,I.turnedT (t':=tk) (d':=d) (ch:=[]) (a:=h1.objs.size) (o:=.lst (ss'.map V.str)) (fun b o _ eb=>?_) (fun b z=>nomatch z) a4 ?_,rfl,q _ ss' nz (c2.trans a2) c3⟩
 ·have e1:=a3 b o eb;have lt:=Heap.lt_size e1;rw[sortedHeap_old (hAk lt) (by rw[size_push'];exact hB6 lt)];exact Heap.get?_push_of_some _ e1
 ·refine⟨?_,((arrOf st').map (·.2)).toList,e,qG1 c1,he⟩;rw[hA1,c2.length_eq,a2.length_eq];exact hB3 (qAi (by omega))
end
end L2
namespace L2
open PySem PySem.Spec PyProof.Rows
section
variable {X:Cx} {pins:List (Addr×Obj)} {σ:St} {H:Hp} {s:Shared} {h':Heap}
theorem Inv.turnedL {t':Nat} {ch:List Addr} (I:Inv X pins σ H s) (k:∀ b u,b∉ch->s.heap.get? b=some u->h'.get? b=some u) (f:∀ b∈ch,FpOk X pins H b):Inv X pins σ H { s with heap:=h',toks:=t' }:=by
 have nit:∀ b u,H b=some u->b∉ch:=fun b u e z=>by rw[(f b z).1]at e;cases e
 refine I.step (g':=s.gens) (d':=s.drawn) (ch:=ch) (fun b hb=>?_) (fun b u _ _ hc e _=>k b u hc e) (fun b u _ _ hc e _=>⟨u.slots,k b u hc e⟩) (fun b u _ e n=>n) (fun b u hc e=>⟨u,k b u hc e⟩) (fun b xs q=>q) (fun b u v q=>q) (fun b ps q=>⟨#[],by rw[q];simp⟩) (fun m hm=>?_) (fun b u e=>?_) I.bare
 ·obtain⟨_,f1,_,f3,f4,f5⟩:=f b hb;exact⟨f3,f1,f4,f5⟩
 ·obtain⟨ob,es,ep,ho,r⟩:=hm;exact⟨ob,es,ep,k _ ob (fun z=>(f _ z).2.1 rfl) ho,r⟩
 ·refine(I.hok b u e).stay (fun c v hc q=>k c v ?_ q) (fun c q=>q) fun c xs q=>q
  rcases hc with z | z
  ·rw[z];exact nit b u e
  ·exact nit c _ z
end
def Itp (n:Nat) (Ls:Hp->Prop) (xv:Nat->List V):It:=⟨fun i H=>Ls H/\i<n,fun i H x H'=>∃ T,H T=none/\H'=upd H T (.tup (xv i))/\x = .ref T,fun i H=>Ls H/\i=n⟩
theorem qGo {P:Program} {w:World} {K:PySem.W.Frag} {elts:List Expr} {ct:Nat} {pos:Pos} (it:Addr) (fp fpW wr:List Addr) (n:Nat) (Ls:Hp->Prop) (xv:Nat->List V) (tn:Nat->Heap->Prop)
  (hit:it∈fp) (hwr:∀ b∈wr,b∈fp) (hobj:∀ i h,tn i h->∀ b∈fp,∃ o,h.get? b=some o/\∀ v,o.data≠.cell v) (hkeep:∀ i h h',tn i h->(∀ b∈fp,∀ o,h.get? b=some o->h'.get? b=some o)->tn i h')
  (hx:∀ i,(xv i).length<=sizeLine)
  (W:∀ (X:Cx),X.prog=P->X.w=w->X.K=K->X.calm=true->∀ (pins:List (Addr×Obj)) (s:Shared) (σ:L2.St) (H:Hp),Inv X pins σ H s->Ls H->∃ (Pt:Nat->Array Value->Prop) (St:Nat->Heap->Prop) (Mid:Nat->Addr->Heap->Prop),WalksT P w X.A it fpW wr n Pt St Mid/\(∀ i,tn i s.heap->St i s.heap)/\(∀ i h,St i h->tn i h) /\
   (∀ i vals,Pt i vals->qBa (xv i) vals.toList))
  (hself:∀ (A:Around) (i:Nat) (s:Shared) (Q:Value->Shared->Prop) (E:Value->Shared->Prop),tn i s.heap->Q (.ref it) s->wpAny (model P w) A (pyIter (.ref it)) Q E s):Turn P w K (.Tuple elts ct pos) (Itp n Ls xv) fp it tn where
 mem:=hit
 obj:=hobj
 keep:=hkeep
 item:=by
  intro X hP hw hK hc i pins s σ H E I hf st hg;obtain⟨hL,hi⟩:=hg;obtain⟨Pt,St,Mid,Wt,w1,w2,w3⟩:=W X hP hw hK hc pins s σ H I hL;subst hP hw hK;refine Wt.item i s _ _ hi (w1 i st) fun T vals h1 tk pv hT ht mid k1=>?_
  have hTw:T∉wr:=Wt.apart i T h1 mid;refine⟨_,rfl,Wt.go elts ct pos i T _ _ _ mid fun h2 st2 k2=>?_⟩;have ht2:IsTup h2 T (vals.toList).toArray:=by
   obtain⟨o,a1,a2,nn,a3⟩:=ht;exact⟨o,k2 _ _ hTw a1,a2,nn,by simpa using a3⟩
  refine⟨.ref T,upd H T (.tup (xv i)),I.turnedT (t':=tk) (d':=s.drawn) (ch:=wr) (fun b u hb e=>k2 b u hb (k1 b u hb e)) (fun b hb=>hf b (hwr b hb)) hT ⟨hx i,vals.toList,w3 i vals pv,ht2⟩,rfl,⟨T,I.hok.fresh hT,rfl,rfl⟩,w2 _ _ st2,fun b hb=>?_⟩;have e:b≠T:=by
   obtain⟨o,ho,_⟩:=hobj i _ st b hb;exact hAk (hAi (Heap.lt_size ho) hT)
  rw[qAe e];exact(hf b hb).1
 done:=by
  intro X hP hw hK hc i pins s σ H E I hf st hg;obtain⟨hL,hi⟩:=hg;obtain⟨Pt,St,Mid,Wt,w1,w2,w3⟩:=W X hP hw hK hc pins s σ H I hL;subst hP hw hK hi;exact Wt.done s _ _ (w1 _ st) fun h1 tk k1=>⟨rfl,I.turnedL (ch:=wr) (fun b u hb e=>k1 b u hb e) fun b hb=>hf b (hwr b hb)⟩
 self:=hself
theorem zip_apart (n a b:Nat) (h1:a<n) (h2:b<n):ZipApart (n+4) (n+2) (n+3) n (n+1) a b:=by
 constructor <;> (show @Ne Nat _ _;omega)
section
variable {X:Cx}
def iZip (K:PySem.W.Frag) (ta:TA):TI:=fun σ H R=>ta σ H fun vs H1=>∃ (a b:Addr) (xs ys:List V),vs=[.ref a,.ref b]/\SqL K H1 a xs/\SqL K H1 b ys/\R (Itp (min xs.length ys.length) (fun H=>SqL K H a xs/\SqL K H b ys) (fun i=>[xs.getD i .non,ys.getD i .non])) H1
theorem boot_zip:bootBuiltins "zip" = some (.type "zip"):=by decide +kernel
theorem pi_zip {a b:Expr} {ta:TA} {p pos tpos:Pos} {elts:List Expr} {ct:Nat} (hg:Gl X "zip") (hm:X.mg "zip" = none) (ha:PA X [a,b] ta) (hs:starEach [a,b] X.env=[(false,eval a X.env),(false,eval b X.env)]:=by rfl) (hs2:starEach [b] X.env=[(false,eval b X.env)]:=by rfl) :
  PI X (.Tuple elts ct tpos) (.Call (.Name "zip" p) [a,b] [] pos) (iZip X.K ta):=by
 intro pins s σ H R I h;refine Call_ (qEx I hg hm boot_zip (hCp (thn (ha pos pins s σ H _ I h) fun us s1 ⟨vs,H1,I1,r1,q1⟩=>?_) (by rw[hs,hs2]) (by rw[hs2];rfl)));obtain⟨l1,l2,xs,ys,e,hx,hy,q⟩:=q1;subst e;obtain⟨u1,u2,rfl,r1,r2⟩:=vals2 r1;cases r1;cases r2;obtain⟨it1,rv1,pl1,hz1⟩:=I1.list hx;obtain⟨it2,rv2,pl2,hz2⟩:=I1.list hy;have n1:=rv1.length;have n2:=rv2.length;have b1:l1<s1.heap.objs.size:=by obtain⟨o,n,e,_⟩:=pl1;exact Heap.lt_size e
 have b2:l2<s1.heap.objs.size:=by obtain⟨o,n,e,_⟩:=pl2;exact Heap.lt_size e
 refine call_zip_2 pl1.isList pl2.isList fun h1 z1 z2 z3 z4 z5 z6 z7=>?_
 refine wpAny_pyIter_zip z1 ?_;have D:=zip_apart s1.heap.objs.size l1 l2 b1 b2;have hfp:∀ b∈[s1.heap.objs.size+4,s1.heap.objs.size+2,s1.heap.objs.size+3,s1.heap.objs.size,s1.heap.objs.size+1],s1.heap.objs.size<=b:=fun b hb=>by
  simp only[hAa,hCa,or_false]at hb;rcases hb with rfl | rfl | rfl | rfl | rfl
  ·exact hD6 _ _
  ·exact hD6 _ _
  ·exact hD6 _ _
  ·exact hA5 _
  ·exact hD6 _ _
 refine⟨s1.heap.objs.size+4,[s1.heap.objs.size+4,s1.heap.objs.size+2,s1.heap.objs.size+3,s1.heap.objs.size,s1.heap.objs.size+1],
  fun i h=>IsZip h (s1.heap.objs.size+4) (s1.heap.objs.size+2) (s1.heap.objs.size+3) .none/\IsPair h (s1.heap.objs.size+2) (.ref s1.heap.objs.size) (.ref (s1.heap.objs.size+1))/\(∃ a b,IsPair h (s1.heap.objs.size+3) a b)/\h.IsListIter s1.heap.objs.size l1 i/\h.IsListIter (s1.heap.objs.size+1) l2 i,
  _,H1,rfl,I1.kept (t':=s1.toks) z7,
  qGo (s1.heap.objs.size+4) _ [s1.heap.objs.size+4,s1.heap.objs.size+2,s1.heap.objs.size+3,s1.heap.objs.size,s1.heap.objs.size+1,l1,l2] [s1.heap.objs.size+4,s1.heap.objs.size+3,s1.heap.objs.size,s1.heap.objs.size+1] _ _ _ _ (by simp) (fun b hb=>?_) (fun i h st b hb=>?_) (fun i h h' st k=>?_) (fun i=>by show 2<=sizeLine;decide) ?_ (fun A i s' Q E st hQ=>wpAny_pyIter_zip st.1 hQ),
  ⟨z1,z2,⟨_,_,z3⟩,z4,z5⟩,fun b hb=>I1.fpOk (hfp b hb) (I1.hok.fresh (hfp b hb)),q⟩
 ·simp only[hAa,hCa,or_false]at hb ⊢;rcases hb with h | h | h | h
  ·exact .inl h
  ·exact .inr (.inr (.inl h))
  ·exact .inr (.inr (.inr (.inl h)))
  ·exact .inr (.inr (.inr (.inr h)))
 ·obtain⟨a1,a2,⟨c,d,a3⟩,⟨o4,a4,c4,d4⟩,⟨o5,a5,c5,d5⟩⟩:=st;simp only[hAa,hCa,or_false]at hb;rcases hb with rfl | rfl | rfl | rfl | rfl
  ·exact⟨_,a1,fun v z=>by cases z⟩
  ·exact⟨_,a2,fun v z=>by cases z⟩
  ·exact⟨_,a3,fun v z=>by cases z⟩
  ·exact⟨_,a4,fun v z=>by rw[d4]at z;cases z⟩
  ·exact⟨_,a5,fun v z=>by rw[d5]at z;cases z⟩
 ·obtain⟨a1,a2,⟨c,d,a3⟩,a4,a5⟩:=st;exact⟨k _ (by simp) _ a1,k _ (by simp) _ a2,⟨c,d,k _ (by simp) _ a3⟩,a4.at fun o e=>k _ (by simp) o e,a5.at fun o e=>k _ (by simp) o e⟩
 ·intro X' hP hw hK hc pins' s' σ' H' I' hL;obtain⟨hx',hy'⟩:=hL;rw[<-hK]at hx' hy';obtain⟨jt1,sv1,ql1,_⟩:=I'.list hx';obtain⟨jt2,sv2,ql2,_⟩:=I'.list hy';have m1:=sv1.length;have m2:=sv2.length;have Wz:=WalksT.zip2 (prog:=X.prog) (w:=X.w) (I'.ok.hd hc) _ _ _ _ _ l1 l2 D jt1.toArray jt2.toArray;rw[show min jt1.toArray.size jt2.toArray.size=min xs.length ys.length by show min jt1.length jt2.length=_;rw[m1,m2]]at Wz;refine⟨_,_,_,Wz,fun i st=>?_,fun i h st=>?_,fun i vals pv=>?_⟩
  ·obtain⟨a1,a2,a3,a4,a5⟩:=st;exact⟨a1,a2,a3,a4,a5,ql1.isList,ql2.isList⟩
  ·obtain⟨a1,a2,a3,a4,a5,_⟩:=st;exact⟨a1,a2,a3,a4,a5⟩
  ·obtain⟨x,y,e1,e2,rfl⟩:=pv;have e1:jt1[i]?=some x:=by simpa using e1
   have e2:jt2[i]?=some y:=by simpa using e2
   have c1:i<xs.length:=by rw[m1];exact(hAr.mp e1).1
   have c2:i<ys.length:=by rw[m2];exact(hAr.mp e2).1
   obtain⟨u,d1,d2⟩:=sv1.get (hA2 c1);obtain⟨v,f1,f2⟩:=sv2.get (hA2 c2);rw[e1]at d1;rw[e2]at f1;cases d1;cases f1;show qBa [xs.getD i .non,ys.getD i .non] [x,y];rw[hAg,hA2 c1,hAg,hA2 c2];exact .cons d2 (.cons f2 .nil)
end
section
variable {σ0:St} {g:TG} {tt:TT} {te:TE} {Q:List V->Hp->Prop} {H1:Hp}
theorem turns_tup (Pv:Nat->List V->Hp->Prop) (h0:Pv 0 [] H1) (hl:∀ i ys H,i<=n->Pv i ys H->Ls H)
  (hs:∀ i ys H T,i<n->Pv i ys H->H T=none->g (.ref T) σ0 (upd H T (.tup (xv i))) fun σ2 H2=>Sle σ0 σ2/\tt σ2 H2 fun b H3=>if b=true then te σ2 H3 (fun v H4=>ys.length<sizeLine/\Nxt n i Pv (ys++[v]) H4) else Nxt n i Pv ys H3)
  (hd:∀ ys H,Pv n ys H->Q ys H):qE0 (Itp n Ls xv) σ0 g tt te Q H1:=by
 refine⟨fun i m ys H=>m=n - i/\i<=n/\Pv i ys H,⟨n,by simp,hAq _,h0⟩,?_⟩;rintro i m ys H ⟨rfl,hi,p⟩;have q:=hl i ys H hi p;by_cases hlt:i<n
 ·refine .inr ⟨⟨q,hlt⟩,fun x H' y=>?_⟩;obtain⟨T,e1,e2,e3⟩:=y;subst e2 e3;exact hs i ys H T hlt p e1
 ·have e:i=n:=by omega
  subst e;exact .inl ⟨⟨q,rfl⟩,hd ys H p⟩
end
end L2
namespace L2
open PySem PySem.Spec PyProof.Rows
section
variable {X:Cx} {pins:List (Addr×Obj)} {σ:St} {H H':Hp} {s:Shared}
theorem inv_compO (I:Inv X pins σ H s) (O:CmpOk X.N X.env.scope N' scope sub) (hf:∀ b∈fp,FpOk X pins H b)
  (hfl:∀ b∈fp,b<s.heap.objs.size) (nf:o0.isFreed=false) (nc:∀ v,o0.data≠.cell v) :
  Inv (qBp X scope N' (s.heap.objs.size+1) s H fp) [(s.heap.objs.size,o0)] (subσ sub σ) H
   { s with heap:=pushCells ((s.heap.push o0).push { cls:=.type "dict",data:=.dict #[] }) scope.names }:=by
 have hk3:∀ b o,s.heap.get? b=some o->(s.heap.push o0).get? b=some o:=fun b o e=>Heap.get?_push_of_some _ e
 have sz3:(s.heap.push o0).objs.size=s.heap.objs.size+1:=Heap.size_push ..;have hk:∀ b o,s.heap.get? b=some o->(pushCells ((s.heap.push o0).push { cls:=.type "dict",data:=.dict #[] }) scope.names).get? b=some o :=
  fun b o e=>pushCells_keeps _ _ b o (Heap.get?_push_of_some _ (hk3 b o e))
 have cf:=qGe (h3:=s.heap.push o0) I O hk3;rw[sz3]at cf;have hC:H (s.heap.objs.size+1)=none:=I.hok.fresh (hAw _);have nsC:(pushCells ((s.heap.push o0).push { cls:=.type "dict",data:=.dict #[] }) scope.names).Ns (s.heap.objs.size+1) (fun _=>none):=by
  rw[<-sz3];exact(Heap.Ns.new _ _).keeps (pushCells_keeps _ _)
 have has:∀ x,(scope.names.lookup x=some .cell\/scope.names.lookup x=some .free)->∃ c,(cellsFrom (s.heap.objs.size+1+1) scope.names (qB1 X.env.cells scope.names [])).lookup x=some c:=fun x hx=>by
  refine hCg.mp (hCs _ _ _ ?_);rcases hx with z | z
  ·exact .inl z
  ·exact .inr (qC8 (.inl (hBa z)))
 have kindB:∀ x,(qBv X.env scope (s.heap.objs.size+1)).kindOf x=(scope.names.lookup x).map fun k=>if (k == NameKind.free && X.env.scope.kind == .function && X.env.scope.names.lookup x == some .cell) then NameKind.cell else k:=fun x=>qCv
 have cellOk:∀ x c,(qBv X.env scope (s.heap.objs.size+1)).cells.lookup x=some c->∃ v,(pushCells ((s.heap.push o0).push { cls:=.type "dict",data:=.dict #[] }) scope.names).IsCell c v:=fun x c h=>by
  rcases cf.1 x c h with q | q
  ·exact⟨_,q.1⟩
  ·obtain⟨v,z⟩:=I.cell x c q.2;exact⟨v,z.keeps hk⟩
 refine⟨⟨I.ok.mod,O.kind,I.ok.glob,I.ok.blt,hAw _,fun x y c h1 h2=>cf.2 x y c h1 h2,fun x hx=>?_,fun x c hx h=>?_,I.ok.hd,I.ok.frames,.inl rfl,fun b hb=>?_,fun b o e=>I.bs b o e,hAs I.ok.bsz I.sz,fun b o e hb=>?_,fun b hb=>?_,I.stack,I.stkFree⟩,
  rfl,I.bare,Un.kept hk,⟨fun _=>none,nsC,fun i x v h1 h2 h3=>?_⟩,cellOk,hC,fun x c h=>?_,fun p hp=>?_,I.hok.kept hk,?_⟩
 ·-- has
  refine has x ?_;have hx:(qBv X.env scope (s.heap.objs.size+1)).kindOf x=some .cell\/(qBv X.env scope (s.heap.objs.size+1)).kindOf x=some .free:=hx;rw[kindB]at hx;cases e:scope.names.lookup x with
  | none=>rw[e]at hx;rcases hx with z | z <;> cases z
  | some k =>
   rw[e]at hx;cases k with
   | cell=>exact .inl rfl
   | free=>exact .inr rfl
   | _=>exfalso;rcases hx with z | z <;> simp at z
 ·-- cab
  rcases cf.1 x c h with q | q
  ·have:=q.2.1;show s.heap.objs.size<=c;omega
  ·exfalso;have e:=qBi O.nd q.1;have hx':(!(scope.names.lookup x == some NameKind.free))=true:=hx;rw[e]at hx';exact absurd hx' (by decide)
 ·-- exf
  obtain⟨f0,f1,f2,f3,f4,f5⟩:=hf b hb;have lt:=hfl b hb;refine⟨fun e=>?_,fun x c h e=>?_⟩
  ·have e':b=s.heap.objs.size+1:=e;rw[e']at lt;exact absurd lt (Nat.not_lt.mpr (hAw _))
  ·rcases cf.1 x c h with q | q
   ·have z:=q.2.1;rw[e]at z;exact absurd lt (Nat.not_lt.mpr (hAs (hAs (hAw _) (hAw _)) z))
   ·exact f4 x c q.2 e
 ·-- noex
  obtain⟨f0,f1,f2,f3,f4,f5⟩:=hf b hb;rcases f3 with z | z
  ·exact I.ok.noex b o e z
  ·exact absurd (hAi (Heap.lt_size (I.ok.bs b o e).1) z) (hBp _)
 ·-- exfs
  obtain⟨f0,f1,f2,f3,f4,f5⟩:=hf b hb;exact fun z=>f2 (qG5 I z f1)
 ·-- loc
  have h1':N'[i]?=some x:=h1;have hsub:∃ k,sub[i]?=some (some k)/\(σ[k]?).join=some v:=by
   unfold subσ at h2;rw[hAh]at h2;cases e:sub[i]? with
   | none=>rw[e]at h2;cases h2
   | some o =>
    rw[e]at h2;cases o with
    | none=>cases h2
    | some k=>exact⟨k,rfl,by simpa using h2⟩
  obtain⟨k,hk1,hk2⟩:=hsub;obtain⟨nk,fx⟩:=O.sub i k x hk1 h1';have sk:σ[k]?=some (some v):=by
   cases e:σ[k]? with
   | none=>rw[e]at hk2;cases hk2
   | some o=>rw[e]at hk2;cases o with
    | none=>cases hk2
    | some y=>cases hk2;rfl
  have cx:=O.free _ (hBa fx) rfl;obtain⟨m,hn,hl⟩:=I.loc;obtain⟨u,ru,lk⟩:=hl k x v nk sk (by
   rcases cx with z | z
   ·exact .inr (.inl z)
   ·exact .inr (.inr z))
  refine⟨u,ru,.inr ⟨?_,?_⟩⟩
  ·show(qBv X.env scope (s.heap.objs.size+1)).kindOf x=some .cell\/(qBv X.env scope (s.heap.objs.size+1)).kindOf x=some .free;rw[kindB,fx];by_cases hc:(NameKind.free == NameKind.free && X.env.scope.kind == .function && X.env.scope.names.lookup x == some .cell)=true
   ·exact .inl (by rw[hDc,if_pos hc])
   ·exact .inr (by rw[hDc,if_neg hc])
  ·rcases lk with ⟨kl,_⟩ | ⟨_,c,hc,hcell⟩
   ·exfalso;have kl':X.env.scope.names.lookup x=some .local:=kl;rcases cx with z | z <;> rw[kl']at z <;> cases z
   ·obtain⟨c',hc'⟩:=has x (.inr fx);refine⟨c',hc',?_⟩;rcases cf.1 x c' hc' with q | q
    ·exfalso;have e:=qBi O.nd q.2.2;rw[fx]at e;cases e
    ·rw[hc]at q;have e:c=c':=hAv q.2;subst e;exact hcell.keeps hk
 ·-- freeC
  rcases cf.1 x c h with q | q
  ·exact I.hok.fresh (by have:=q.2.1;omega)
  ·exact I.freeC x c q.2
 ·-- pin
  have hp':p=(s.heap.objs.size,o0):=by
   have:p∈([]++[(s.heap.objs.size,o0)]:List (Addr×Obj)):=hp
   simpa using this
  subst hp';refine⟨pushCells_keeps _ _ _ _ (Heap.get?_push_of_some _ (Heap.get?_push_size _ nf)),I.hok.fresh (hA5 _),hAk (hBj _),fun z=>?_,fun v z=>?_⟩
  ·rcases hAa.mp (I.stkSub _ z) with e | e
   ·exact absurd I.lt (by rw[<-e];exact hBp _)
   ·exact I.nofs (hA5 _) e
  ·exact nc v z
 ·-- len
  show(subσ sub σ).length=N'.length;unfold subσ;rw[hA1,O.len]
theorem Inv.repin (I:Inv X ((acc,o) :: pins) σ H s) (k:∀ b u,b≠acc->s.heap.get? b=some u->h'.get? b=some u) (e:h'.get? acc=some o') (nc:∀ v,o'.data≠.cell v) (hx:acc∈X.ex\/X.s₀.heap.objs.size<=acc) (np:∀ p∈X.pn++pins,p.1≠acc) :
  Inv X ((acc,o') :: pins) σ H { s with heap:=h',toks:=t' }:=by
 have pa:=I.pin (acc,o) (hA6 _ hA3);have I1:Inv X pins σ H s:=I.pins_of fun p hp=>I.pin p (hA6 _ (hA4 _ hp))
 have I2:Inv X pins σ H { s with heap:=h',toks:=t' }:=I1.turned (t':=t') (it:=acc) k pa.2.1 pa.2.2.1 hx
  (fun y c hy z=>by
   obtain⟨w',o2,ho2,hd2⟩:=I.cell y c hy;rw[z,pa.1]at ho2;exact pa.2.2.2.2 _ (by cases ho2;exact hd2)) np
 refine I2.pins_of fun p hp=>?_
 rcases hAa.mp hp with z | z
 ·subst z;exact⟨e,pa.2.1,pa.2.2.1,pa.2.2.2.1,nc⟩
 ·exact I2.pin p (hA6 _ z)
end
def qBz (tpos:Pos) (it:Value) (target:Expr) (env:Env) (ifs:List Expr) (body:Sem Unit) (k:Sem Fin):Sem Fin:=do
 standAt tpos
 match ← pyNext it with
 | none=>pure (.done .next)
 | some v =>
  letOwnedTupleGo target it v
  assign target env v
  let mut ok:=true
  for c in ifs do
   if ok then ok ← isTrue c env (eval c env)
  if ok then
   body
  k
theorem compLoop_gen (hsh:compTurn e d it acc env=qBz tpos it target env ifs body (again (.compLoop e d it acc env))) (hdn:∀ (A:Around) (Q:PySem.Fin->Shared->Prop) (E:Value->Shared->Prop) (s:Shared),wpAny (model prog w) A ((compTurn e d it acc env).onRaise (fun x=>do noteFrame x env;theTreesLotGoes x)) Q E s->wpAny (model prog w) (A.under (.compLoop e d it acc env)) ((model prog w).den (.compLoop e d it acc env)) Q E s) (I:Nat->Shared->Prop)
  (turn:∀ n s,I n s->wpAny (model prog w) A (pyNext it) (fun r s₁=>match r with
   | none=>R (.ok .next) s₁
   | some v=>wpAny (model prog w) A (letOwnedTupleGo target it v) (fun _ s₁'=>wpAny (model prog w) A (assign target env v) (fun _ s₂ =>
     wpAny (model prog w) A (forIn ifs true fun c r=>if r=true then do let ok ← isTrue c env (eval c env);pure (ForInStep.yield ok) else pure (ForInStep.yield r)) (fun ok s₃ =>
      if ok=true then wpAny (model prog w) A body (fun _ s₅=>∃ m,m<n/\I m s₅) (fun _ _=>False) s₃
      else ∃ m,m<n/\I m s₃) (fun _ _=>False) s₂) (fun _ _=>False) s₁') (fun _ _=>False) s₁) (fun _ _=>False) s)
  (n:Nat) (h:I n s):codeAny (model prog w) A (.compLoop e d it acc env) R s:=by
 refine codeAny_loop rfl I (fun n s hI=>?_) n h;refine hdn _ _ _ _ (wpAny_noted ?_);rw[hsh];unfold qBz;refine wpAny_bind (wpAny_standAt (wpAny_bind (wpAny_mono (turn n s hI) (fun r s₁ h₁=>?_) fun _ _ h'=>h'.elim)));cases r with
 | none=>exact wpAny_pure h₁
 | some v =>
  refine wpAny_bind (wpAny_mono h₁ (fun _ s₁' h₁=>?_) fun _ _ h'=>h'.elim);refine wpAny_bind (wpAny_mono h₁ (fun _ s₂ h₂=>wpAny_bind (wpAny_mono h₂ (fun ok s₃ h₃=>?_) fun _ _ h'=>h'.elim)) fun _ _ h'=>h'.elim);cases ok with
  | false=>exact wpAny_pure ⟨rfl,h₃⟩
  | true=>exact wpAny_bind (wpAny_mono h₃ (fun _ s₅ h₅=>wpAny_pure ⟨rfl,h₅⟩) fun _ _ h'=>h'.elim)
section
variable {AS:Type}
abbrev TB (AS:Type):=AS->St->Hp->(AS->St->Hp->Prop)->Prop
def PBd (X:Cx) (AO:AS->Obj->Prop) (acc:Addr) (body:Sem Unit) (tb:TB AS):Prop :=
 ∀ (pins:List (Addr×Obj)) (s:Shared) (σ:St) (H:Hp) (a:AS) (o:Obj) (Q:AS->St->Hp->Prop),Inv X ((acc,o) :: pins) σ H s->(∀ p∈X.pn++pins,p.1≠acc)->(acc∈X.ex\/X.s₀.heap.objs.size<=acc)->AO a o->tb a σ H Q ->
  wpAny (model X.prog X.w) X.A body (fun _ s'=>∃ (a':AS) (o':Obj) (σ':St) (H':Hp),Inv X ((acc,o') :: pins) σ' H' s'/\AO a' o'/\Q a' σ' H') (fun _ _=>False) s
def qGb (J:It) (g:TG) (tt:TT) (tb:TB AS) (Q:AS->St->Hp->Prop) (a0:AS) (σ0:St) (H0:Hp):Prop :=
 ∃ W:Nat->Nat->AS->St->Hp->Prop,(∃ m,W 0 m a0 σ0 H0)/\∀ i m a σ H,W i m a σ H ->
  (J.stop i H/\Q a σ H) \/
  (J.go i H/\∀ x H',J.yld i H x H'->g x σ H' fun σ2 H2=>tt σ2 H2 fun b H3 =>
   if b=true then tb a σ2 H3 (fun a' σ' H'=>∃ m',m'<m/\W (i+1) m' a' σ' H') else ∃ m',m'<m/\W (i+1) m' a σ2 H3)
theorem gloop
  (hc:X.calm=true) (xxe:X.xe=fun _ _=>False) (hsh:compTurn e d (.ref it) (.ref acc) X.env=qBz tpos (.ref it) target X.env ifs body (again (.compLoop e d (.ref it) (.ref acc) X.env))) (hdn:∀ (A:Around) (Q:PySem.Fin->Shared->Prop) (E:Value->Shared->Prop) (s:Shared),wpAny (model X.prog X.w) A ((compTurn e d (.ref it) (.ref acc) X.env).onRaise (fun x=>do noteFrame x X.env;theTreesLotGoes x)) Q E s->wpAny (model X.prog X.w) (A.under (.compLoop e d (.ref it) (.ref acc) X.env)) ((model X.prog X.w).den (.compLoop e d (.ref it) (.ref acc) X.env)) Q E s)
  (T:Turn X.prog X.w X.K target J fp it tn) (st:tn 0 s.heap) (hf:∀ b∈fp,FpOk X ((acc,o) :: pins) H b) (hg:PG X target g) (ht:PTs X ifs tt) (hb:PBd X AO acc body tb)
  (I:Inv X ((acc,o) :: pins) σ H s) (np:∀ p∈X.pn++pins,p.1≠acc) (hx:acc∈X.ex\/X.s₀.heap.objs.size<=acc) (ha:AO a o) (rd:qGb J g tt tb Q a σ H)
  (hR:∀ (s':Shared) (a':AS) (o':Obj) (σ':St) (H':Hp),Inv X ((acc,o') :: pins) σ' H' s'->AO a' o'->Q a' σ' H'->(∀ b∈fp,H' b=none)->R (.ok .next) s') :
  codeAny (model X.prog X.w) X.A (.compLoop e d (.ref it) (.ref acc) X.env) R s:=by
 obtain⟨W,⟨m0,w0⟩,turn⟩:=rd;have stat:∀ {o':Obj} {H':Hp},(∀ b∈fp,H' b=none)->∀ b∈fp,FpOk X ((acc,o') :: pins) H' b:=fun {o' H'} hn b hb=>by
  obtain⟨f0,f1,f2,f3,f4,f5⟩:=hf b hb;refine⟨hn b hb,f1,f2,f3,f4,fun p hp=>?_⟩;rcases hAe.mp hp with z | z
  ·exact f5 p (hAn _ z)
  ·rcases hAa.mp z with z | z
   ·rw[z];exact f5 (acc,o) (hA6 _ hA3)
   ·exact f5 p (hA6 _ (hA4 _ z))
 refine compLoop_gen hsh hdn (fun n s'=>∃ (i:Nat) (a':AS) (o':Obj) (σ':St) (H':Hp),Inv X ((acc,o') :: pins) σ' H' s'/\AO a' o'/\tn i s'.heap/\(∀ b∈fp,H' b=none)/\W i n a' σ' H') ?_ m0 ⟨0,a,o,σ,H,I,ha,st,fun b hb=>(hf b hb).1,w0⟩;rintro n s4 ⟨i,a4,o4,σ4,H4,I4,ha4,st4,fr4,w4⟩;rcases turn i n a4 σ4 H4 w4 with ⟨stop,q⟩ | ⟨go,step⟩
 ·refine thn (T.done X rfl rfl rfl hc i _ s4 σ4 H4 (fun _ _=>False) I4 (stat fr4) st4 stop) fun r s5 ⟨hr,I5⟩=>?_
  subst hr;exact hR s5 a4 o4 σ4 H4 I5 ha4 q fr4
 ·refine thn (T.item X rfl rfl rfl hc i _ s4 σ4 H4 (fun _ _=>False) I4 (stat fr4) st4 go) fun r s5 ⟨u,hr,h5⟩=>?_
  subst hr;refine thn h5 fun _ s6 ⟨x,H6,I6,r6,y6,st6,fr6⟩=>?_
  have I6':=I6.pinned (stat fr6) (T.obj _ _ st6);have back:∀ {o':Obj} {σ':St} {H':Hp} {s':Shared},Inv X ((acc,o') :: (pins++pinsAt fp s6.heap)) σ' H' s'->Inv X ((acc,o') :: pins) σ' H' s'/\tn (i+1) s'.heap/\∀ b∈fp,H' b=none:=fun {o' σ' H' s'} I'=>by
   refine⟨Inv.unpinned (pl:=pinsAt fp s6.heap) I',T.keep _ _ _ st6 fun b hb o e=>?_,fun b hb=>?_⟩
   ·exact(I'.pin (b,o) (hA6 _ (hA4 _ (hA6 _ (qBr hb e))))).1
   ·obtain⟨o,e,d⟩:=T.obj _ _ st6 b hb;exact(I'.pin (b,o) (hA6 _ (hA4 _ (hA6 _ (qBr hb e))))).2.1
  have np':∀ p∈X.pn++(pins++pinsAt fp s6.heap),p.1≠acc:=fun p hp=>by
   rcases hAe.mp hp with z | z
   ·exact np p (hAn _ z)
   ·rcases hAe.mp z with z | z
    ·exact np p (hA6 _ z)
    ·obtain⟨hb,_⟩:=of_pinsAt z;exact Ne.symm ((stat (o':=o4) fr6 p.1 hb).2.2.2.2.2 (acc,o4) (hA6 _ hA3))
  have tg:=hg _ s6 σ4 H6 x u _ I6' r6 (step x H6 y6);rw[xxe]at tg;refine thn tg fun _ s7 ⟨σ7,H7,I7,q7⟩=>?_
  have tts:=ht _ s7 σ7 H7 _ I7 q7;rw[xxe]at tts;refine thn tts fun b s8 ⟨H8,I8,q8⟩=>?_
  cases b with
  | false =>
   rw[if_neg hAo]at q8 ⊢;obtain⟨m',hm',w8⟩:=q8;obtain⟨b1,b2,b3⟩:=back I8;exact⟨m',hm',i+1,a4,o4,σ7,H8,b1,ha4,b2,b3,w8⟩
  | true =>
   rw[if_pos rfl]at q8 ⊢;refine thn (hb _ s8 σ7 H8 a4 o4 _ I8 np' hx ha4 q8) fun _ s9 ⟨a9,o9,σ9,H9,I9,ha9,m',hm',w9⟩=>?_
   obtain⟨b1,b2,b3⟩:=back I9;exact⟨m',hm',i+1,a9,o9,σ9,H9,b1,ha9,b2,b3,w9⟩
end
end L2
namespace L2
open PySem PySem.Spec PyProof.Rows
theorem qD5 (hcl:(clausesOf e)[d]?=some g) (hga:g.is_async=0)
  (hdn:∀ (A:Around) (Q:PySem.Fin->Shared->Prop) (E:Value->Shared->Prop) (s:Shared),wpAny (model prog w) A ((compStart e d it acc env).onRaise (fun x=>do noteFrame x env;standAt theWindowsPlace)) Q E s->wpAny (model prog w) (A.under (.compStart e d it acc env)) ((model prog w).den (.compStart e d it acc env)) Q E s)
  (hq:∀ it',(Code.compLoop e d it' acc env).quiet=true)
  (h0:codeAny (model prog w) A (.compLoop e d it acc env) R s)
  (h:wpAny (model prog w) A (pyIter it) (fun it' s'=>codeAny (model prog w) A (.compLoop e d it' acc env) R s') (fun _ _=>False) s):codeAny (model prog w) A (.compStart e d it acc env) R s:=by
 refine codeAny_of_tree (hdn _ _ _ _ (wpAny_notedAt ?_));unfold compStart;rw[hcl];show wpAny _ _ (if (g.is_async != 0)=true then _ else _) _ _ s;rw[if_neg (by rw[hga];decide)];refine wpAny_bind (wpAny_askSetting (wpAny_ite ?_));split
 ·first
   | exact wpAny_bind (wpAny_pure (wpAny_pure (And.intro (hq _) h0)))
   | exact wpAny_pure (And.intro (hq _) h0)
 ·exact wpAny_bind (wpAny_rule (wpAny_bind (wpAny_standAt (wpAny_bind (wpAny_mono h (fun it' s' h'=>wpAny_pure (And.intro (hq _) h')) fun _ _ x=>x.elim)))))
section
variable {X:Cx} {pins:List (Addr×Obj)} {σ:St} {H:Hp} {s:Shared} {AS:Type}
theorem gcore {e target:Expr} {gcl:Comprehension} {tpos:Pos} {ifs:List Expr} {scope:Scope} {N':List Str} {sub:List (Option Nat)} {J:It} {fp:List Addr} {it:Addr} {tn:Nat->Heap->Prop} {g:TG} {tt:TT} {tb:TB AS} {o0:Obj} {a0:AS} {AO:AS->Obj->Prop} {HOf:Addr->AS->HO} {newAcc:Sem Value} {body:Addr->Env->Sem Unit}
  {Qe:AS->Hp->Prop} {E:Value->Shared->Prop} {RR:Value->Addr->Result->Shared->Prop}
  (hnew:∀ (A:Around) (s:Shared) (Q:Value->Shared->Prop) (E:Value->Shared->Prop),Q (.ref s.heap.objs.size) { s with heap:=s.heap.push o0 }->wpAny (model X.prog X.w) A newAcc Q E s) (nf:o0.isFreed=false) (nc:∀ a o,AO a o->∀ v,o.data≠.cell v) (hA0:AO a0 o0)
  (hHO:∀ (H':Hp) (h:Heap) (acc:Addr) (a:AS) (o:Obj),sysModules<acc->AO a o->h.get? acc=some o->qBg X.prog X.w H' h acc (HOf acc a))
  (hcl:(clausesOf e)[0]?=some gcl) (hga:gcl.is_async=0)
  (hdnS:∀ (it acc:Value) (env:Env) (A:Around) (Q:PySem.Fin->Shared->Prop) (E:Value->Shared->Prop) (s:Shared),wpAny (model X.prog X.w) A ((compStart e 0 it acc env).onRaise (fun x=>do noteFrame x env;standAt theWindowsPlace)) Q E s->wpAny (model X.prog X.w) (A.under (.compStart e 0 it acc env)) ((model X.prog X.w).den (.compStart e 0 it acc env)) Q E s)
  (hdnL:∀ (it acc:Value) (env:Env) (A:Around) (Q:PySem.Fin->Shared->Prop) (E:Value->Shared->Prop) (s:Shared),wpAny (model X.prog X.w) A ((compTurn e 0 it acc env).onRaise (fun x=>do noteFrame x env;theTreesLotGoes x)) Q E s->wpAny (model X.prog X.w) (A.under (.compLoop e 0 it acc env)) ((model X.prog X.w).den (.compLoop e 0 it acc env)) Q E s)
  (hq:∀ it acc env,(Code.compLoop e 0 it acc env).quiet=true)
  (hsh:∀ (it acc:Addr) (env:Env),compTurn e 0 (.ref it) (.ref acc) env=qBz tpos (.ref it) target env ifs (body acc env) (again (.compLoop e 0 (.ref it) (.ref acc) env)))
  (hc:X.calm=true) (I:Inv X pins σ H s) (O:CmpOk X.N X.env.scope N' scope sub) (T:Turn X.prog X.w X.K target J fp it tn) (st:tn 0 s.heap) (hf:∀ b∈fp,FpOk X pins H b)
  (B:∀ C s H fp,PG (qBp X scope N' C s H fp) target g/\PTs (qBp X scope N' C s H fp) ifs tt/\∀ acc,PBd (qBp X scope N' C s H fp) AO acc (body acc (qBp X scope N' C s H fp).env) tb)
  (rd:qGb J g tt tb (fun a _ H'=>Qe a H') a0 (subσ sub σ) H)
  (hRR:∀ (acc C:Addr) (a:AS) (H':Hp) (s':Shared),Inv X pins σ (upd H' acc (HOf acc a)) s'->FpOk X pins (upd H' acc (HOf acc a)) C->(∃ m,s'.heap.Ns C m)->H' acc=none->Qe a H'->RR (.ref acc) C (.ok .next) s') :
  wpAny (model X.prog X.w) X.A newAcc (fun acc s₃=>wpAny (model X.prog X.w) X.A (newFunctionEnv scope X.env.globals (qB1 X.env.cells scope.names []) [] X.env.qual none .none (some X.env)) (fun cenv s₄ =>
   codeAny (model X.prog X.w) X.A (.compStart e 0 (.ref it) acc { cenv with scope:=relabel scope X.env }) (RR acc cenv.locals) s₄) E s₃) E s:=by
 refine hnew _ _ _ _ (qDp ?_);have hfl:∀ b∈fp,b<s.heap.objs.size:=fun b hb=>by
  obtain⟨o,e,_⟩:=T.obj _ _ st b hb;exact Heap.lt_size e
 have I0:=inv_compO (o0:=o0) (sub:=sub) I O hf hfl nf (nc a0 o0 hA0);have sz3:(s.heap.push o0).objs.size=s.heap.objs.size+1:=Heap.size_push ..;dsimp only;show codeAny _ _ (.compStart _ 0 (.ref it) (.ref s.heap.objs.size) { scope:=relabel scope X.env,locals:=(s.heap.push o0).objs.size,globals:=X.env.globals,cells:=cellsFrom ((s.heap.push o0).objs.size+1) scope.names (qB1 X.env.cells scope.names []),qual:=X.env.qual,func:=none,code:=X.env.code,frame:=X.env.frame,builtins:=X.env.builtins })
  (RR (.ref s.heap.objs.size) (s.heap.push o0).objs.size) { s with heap:=pushCells ((s.heap.push o0).push { cls:=.type "dict",data:=.dict #[] }) scope.names }
 rw[sz3];show codeAny _ _ (.compStart _ 0 (.ref it) (.ref s.heap.objs.size) (qBv X.env scope (s.heap.objs.size+1))) (RR (.ref s.heap.objs.size) (s.heap.objs.size+1)) _;generalize hs0:({ s with heap:=pushCells ((s.heap.push o0).push { cls:=.type "dict",data:=.dict #[] }) scope.names }:Shared)=s0 at I0 ⊢;have hk0:∀ b o,s.heap.get? b=some o->s0.heap.get? b=some o:=fun b o e=>by
  rw[<-hs0];exact pushCells_keeps _ _ b o (Heap.get?_push_of_some _ (Heap.get?_push_of_some _ e))
 have st0:tn 0 s0.heap:=T.keep _ _ _ st fun b hb o e=>hk0 b o e
 clear hs0 sz3;generalize hX:qBp X scope N' (s.heap.objs.size+1) s H fp=X' at I0;have xp:X'.prog=X.prog:=by rw[<-hX];rfl
 have xw:X'.w=X.w:=by rw[<-hX];rfl
 have xK:X'.K=X.K:=by rw[<-hX];rfl
 have xA:X'.A=X.A:=by rw[<-hX];rfl
 have xc:X'.calm=true:=by rw[<-hX];exact hc
 have xe:X'.env=qBv X.env scope (s.heap.objs.size+1):=by rw[<-hX];rfl
 have xx:X'.ex=fp:=by rw[<-hX];rfl
 have xf:X'.fs=frs X.stack:=by rw[<-hX];rfl
 have xpn:X'.pn=[]:=by rw[<-hX];rfl
 have x0:X'.s₀=s:=by rw[<-hX];rfl
 have xh:X'.H₀=H:=by rw[<-hX];rfl
 have xxe:X'.xe=fun _ _=>False:=by rw[<-hX];rfl
 obtain⟨hg,ht,hbd⟩:=B (s.heap.objs.size+1) s H fp;rw[hX]at hg ht hbd;clear hX;have f0':∀ b∈fp,FpOk X' [(s.heap.objs.size,o0)] H b:=fun b hb=>by
  obtain⟨f0,f1,f2,f3,f4,f5⟩:=hf b hb;refine⟨f0,(I0.ok.exf b (by rw[xx];exact hb)).1,I0.ok.exfs b (by rw[xx];exact hb),.inl (by rw[xx];exact hb),(I0.ok.exf b (by rw[xx];exact hb)).2,fun p hp'=>?_⟩;rw[xpn,List.nil_append,hA7]at hp';rw[hp'];exact hC9 (hfl b hb)
 have loop:codeAny (model X.prog X.w) X.A (.compLoop e 0 (.ref it) (.ref s.heap.objs.size) (qBv X.env scope (s.heap.objs.size+1))) (RR (.ref s.heap.objs.size) (s.heap.objs.size+1)) s0:=by
  have T':Turn X'.prog X'.w X'.K target J fp it tn:=by rw[xp,xw,xK];exact T
  have hb0:=hbd s.heap.objs.size;have key:=gloop (X:=X') (AO:=AO) (e:=e) (d:=0) (tpos:=tpos) (R:=RR (.ref s.heap.objs.size) (s.heap.objs.size+1)) (pins:=[]) (a:=a0) (o:=o0) (acc:=s.heap.objs.size) xc xxe (hsh it s.heap.objs.size X'.env) (by rw[xp,xw];exact hdnL _ _ _) T' st0 f0' hg ht hb0 I0 (by rw[xpn];exact fun p hp=>absurd hp (by simp)) (.inr (by rw[x0];exact hA5 _)) hA0 rd ?_
  ·rw[xp,xw,xA,xe]at key;exact key
  intro s5 a5 o5 σ5 H4 I5 ha5 q fr5;have pa:=I5.pin (s.heap.objs.size,o5) (by rw[xpn];simp);have nacc:H4 s.heap.objs.size=none:=pa.2.1;have nC:H4 (s.heap.objs.size+1)=none:=by have z:=I5.free;rw[xe]at z;exact z
  have un:Un (frs X.stack) fp H H4 s.heap s5.heap:=by have z:=I5.base;rw[xf,xx,xh,x0]at z;exact z
  have un2:Un (frs X.stack) fp H (upd H4 s.heap.objs.size (HOf s.heap.objs.size a5)) s.heap s5.heap:=by
   refine⟨un.keep,un.slot,fun b o e n hx=>?_,un.there,fun b xs e=>?_,fun b o u e=>?_,fun b ps e=>?_⟩
   ·rw[qAe (hAk (Heap.lt_size e))];exact un.free b o e n hx
   ·have z:=un.tups b xs e;rw[qAe (qAf z nacc)];exact z
   ·have z:=un.frzs b o u e;rw[qAe (qAf z nacc)];exact z
   ·obtain⟨more,z⟩:=un.tbls b ps e;exact⟨more,by rw[qAe (qAf z nacc)];exact z⟩
  have hok5:HOk X.prog X.w H4 s5.heap:=by have z:=I5.hok;rw[xp,xw]at z;exact z
  have hok2:HOk X.prog X.w (upd H4 s.heap.objs.size (HOf s.heap.objs.size a5)) s5.heap:=fun b u e=>by
   by_cases hb:b=s.heap.objs.size
   ·subst hb;rw[upd_same]at e;cases e;exact hHO _ _ _ _ _ I.big ha5 pa.1
   ·rw[qAe hb]at e;exact(hok5 b u e).stay (fun _ _ _ q=>q) (fun c q=>by rw[qAe (qAf q nacc)];exact q) fun c xs q=>by rw[qAe (qAf q nacc)];exact q
  have os5:s5.os=s.os:=by have z:=I5.os;rw[x0]at z;exact z
  have J5:Inv X pins σ (upd H4 s.heap.objs.size (HOf s.heap.objs.size a5)) s5:=I.call' os5 un2 hok2 I5.bare fun b hb=>by
   obtain⟨f0,f1,f2,f3,f4,f5⟩:=hf b hb;exact⟨f3,f1,f4,f5⟩
  refine hRR _ _ a5 H4 s5 J5 (I.fpOk (hAw _) ?_) ?_ nacc q
  ·rw[qAe (Nat.succ_ne_self _)];exact nC
  ·obtain⟨m,hn,_⟩:=I5.loc;rw[xe]at hn;exact⟨m,hn⟩
 exact qD5 hcl hga (hdnS _ _ _) (fun it'=>hq _ _ _) loop (T.self _ 0 _ _ _ st0 loop)
end
end L2
namespace L2
open PySem PySem.Spec PyProof.Rows
def qC4 (e iter2:Expr) (acc:Addr) (env:Env):Sem Unit:=do
 let x ← eval iter2 env
 standAt iter2.pos
 let x ← foldedSetIterable iter2 env x
 let _ ← runOwn (.compStart e 1 (← holding [x] (pyIter x)) (.ref acc) env) env
def tNest {AS:Type} (wi:TI) (g:TG) (tt:TT) (tb:TB AS):TB AS:=fun a σ H Q=>wi σ H fun J H1=>qGb J g tt tb Q a σ H1
theorem pbd_nest {X:Cx} {AS:Type} {AO:AS->Obj->Prop} {acc:Addr} {e iter2 target2:Expr} {ifs2:List Expr} {tpos2:Pos} {gcl:Comprehension} {body:Sem Unit} {wi:TI} {g:TG} {tt:TT} {tb:TB AS} (hc:X.calm=true) (xxe:X.xe=fun _ _=>False)
  (hi:PI X target2 iter2 wi) (hg:PG X target2 g) (ht:PTs X ifs2 tt) (hb:PBd X AO acc body tb) (hfold:∀ x,foldedSetIterable iter2 X.env x=pure x)
  (hcl:(clausesOf e)[1]?=some gcl) (hga:gcl.is_async=0)
  (hsh:∀ it:Addr,compTurn e 1 (.ref it) (.ref acc) X.env=qBz tpos2 (.ref it) target2 X.env ifs2 body (again (.compLoop e 1 (.ref it) (.ref acc) X.env)))
  (hdnS:∀ (it:Value) (A:Around) (Q:PySem.Fin->Shared->Prop) (E:Value->Shared->Prop) (s:Shared),wpAny (model X.prog X.w) A ((compStart e 1 it (.ref acc) X.env).onRaise (fun x=>do noteFrame x X.env;standAt theWindowsPlace)) Q E s->wpAny (model X.prog X.w) (A.under (.compStart e 1 it (.ref acc) X.env)) ((model X.prog X.w).den (.compStart e 1 it (.ref acc) X.env)) Q E s)
  (hdnL:∀ (it:Value) (A:Around) (Q:PySem.Fin->Shared->Prop) (E:Value->Shared->Prop) (s:Shared),wpAny (model X.prog X.w) A ((compTurn e 1 it (.ref acc) X.env).onRaise (fun x=>do noteFrame x X.env;theTreesLotGoes x)) Q E s->wpAny (model X.prog X.w) (A.under (.compLoop e 1 it (.ref acc) X.env)) ((model X.prog X.w).den (.compLoop e 1 it (.ref acc) X.env)) Q E s)
  (hq:∀ it,(Code.compLoop e 1 it (.ref acc) X.env).quiet=true):PBd X AO acc (qC4 e iter2 acc X.env) (tNest wi g tt tb):=by
 intro pins s σ H a o Q I np hx ha h;have h0:=hi _ s σ H _ I h;rw[xxe]at h0;unfold qC4;refine wpAny_bind (thn h0 fun v s1 h1=>wpAny_bind (wpAny_standAt (wpAny_bind (wpAny_of_eq (hfold v) (wpAny_bind (wpAny_holding (thn h1 fun itv s2 h2=>?_)))))));obtain⟨it,fp,tn,J,H2,e2,I2,T,st2,f2,rd⟩:=h2;subst e2;refine wpAny_bind (wpAny_runOwn ?_);have loop:=gloop (X:=X) (AO:=AO) (e:=e) (d:=1) (tpos:=tpos2) (R:=fun r s'=>match r with
   | .ok f=>wpAny (model X.prog X.w) X.A (pure ():Sem Unit) (fun _ s'=>∃ (a':AS) (o':Obj) (σ':St) (H':Hp),Inv X ((acc,o') :: pins) σ' H' s'/\AO a' o'/\Q a' σ' H') (fun _ _=>False) s'
   | .error e=>cameBackBy (model X.prog X.w) X.A X.env (fun _ _=>False) e s') hc xxe (hsh it) (hdnL _) T st2 f2 hg ht hb I2 np hx ha rd
  (fun s' a' o' σ' H' I' ha' q' _=>wpAny_pure ⟨a',o',σ',H',I',ha',q'⟩)
 exact qD5 hcl hga (hdnS _) hq loop (T.self _ 0 _ _ _ st2 loop)
def qGg (P:Program) (w:World) (ss:List Str) (o:Obj):Prop :=
 ∃ (es:Array (Int×Value)) (ep:Nat) (t:SetTable),o=sOb es ep t/\ElemsOf (PySem.strKind P w) es.toList/\StrsAre (es.toList.map (·.2)) ss/\es.size<scanBound/\t.fits es.size=true/\t.led=!w.params.followText "set-order"/\(es.size≠0->t.plain=false)
theorem qGg.set (x:qGg P w ss o) (e:h.get? a=some o):qBf P w h a ss:=by
 obtain⟨es,ep,t,rfl,r⟩:=x;exact⟨es,ep,t,e,r⟩
theorem qBf.obj (x:qBf P w h a ss):∃ o,h.get? a=some o/\qGg P w ss o:=by
 obtain⟨es,ep,t,e,r⟩:=x;exact⟨_,e,es,ep,t,rfl,r⟩
theorem qGg.nocell (x:qGg P w ss o):∀ v,o.data≠.cell v:=by
 obtain⟨es,ep,t,rfl,_⟩:=x;intro v z;cases z
def setBody (elt:Expr) (acc:Addr) (env:Env):Sem Unit:=do
 let v ← eval elt env
 standAt elt.pos
 let _ ← call (.builtin "set.add") [.ref acc,v]
def tPut (te:TE):TB (List Str):=fun ss σ H Q=>te σ H fun v H'=>∃ x:Str,v = .str x/\ss.length<1000/\∀ ss',(if x∈ss then ss'=ss else ss'.Perm (ss++[x]))->Q ss' σ H'
theorem pbd_set (xxe:X.xe=fun _ _=>False) (he:PE X elt te):PBd X (qGg X.prog X.w) acc (setBody elt acc X.env) (tPut te):=by
 intro pins s σ H a o Q I np hx ha h;have h0:=he _ s σ H _ I h;rw[xxe]at h0;unfold setBody;refine wpAny_bind (thn h0 fun v s1 ⟨y,H1,I1,r1,x,ex,hl,q⟩=>wpAny_bind (wpAny_standAt (wpAny_bind ?_)));subst ex;obtain⟨tk,rfl⟩:=r1;have pa:=I1.pin (acc,o) (hA6 _ hA3);have hS:qBf X.prog X.w s1.heap acc a:=ha.set pa.1;have hT:s1.TypeIs (.ref acc) "set":=by
  obtain⟨es,ep,t,ho,_⟩:=hS;exact⟨_,ho,rfl⟩
 refine wpAny_call_entry PySem.F.slot_set_add hT PySem.F.entry_set_add ?_ (PySem.F.args_set_add_2 _ _);unfold Builtin.«set.add» Builtin.Frozenset.oneOther;simp only[List.isEmpty_nil,bind_assoc];unfold Builtin.Frozenset.addrOf setAdd;refine wpAny_bind (wpAny_pure ?_);try dsimp only
 refine wpAny_bind (wpAny_pure ?_);try dsimp only
 refine wpAny_bind (wpAny_holding (wpAny_bind ((PySem.strKind X.prog X.w).pyHash (strKind_is X.prog X.w x tk) ?_)));refine tset_add (s:={ s1 with toks:=s1.toks+1 }) hS (by have:scanBound=4096:=rfl;omega) fun h2 ss2 sb2 hS2 q2=>?_
 show wpAny _ _ (ret Value.none) _ _ _;refine wpAny_pure ⟨_,rfl,wpAny_pure ?_⟩;obtain⟨o2,e2,ho2⟩:=hS2.obj;exact⟨ss2,o2,σ,H1,I1.repin (t':=s1.toks+1) (fun b u hb e=>(sb2.2 b hb).trans e) e2 ho2.nocell hx np,ho2,q ss2 q2⟩
end L2
namespace L2
open PySem PySem.Spec PyProof.Rows
structure GC (P:Program) (w:World) {AS:Type} (e target iter:Expr) (ifs:List Expr) (scope:Scope) (tpos:Pos) (newAcc:Sem Value) (body:Addr->Env->Sem Unit) (o0:Obj) (a0:AS) (AO:AS->Obj->Prop) (HOf:Addr->AS->HO):Prop where
 new:∀ (A:Around) (s:Shared) (Q:Value->Shared->Prop) (E:Value->Shared->Prop),Q (.ref s.heap.objs.size) { s with heap:=s.heap.push o0 }->wpAny (model P w) A newAcc Q E s
 nf:o0.isFreed=false
 nc:∀ a o,AO a o->∀ v,o.data≠.cell v
 hA0:AO a0 o0
 hHO:∀ (H':Hp) (h:Heap) (acc:Addr) (a:AS) (o:Obj),sysModules<acc->AO a o->h.get? acc=some o->qBg P w H' h acc (HOf acc a)
 cl:∃ gs,clausesOf e=⟨target,iter,ifs,0⟩ :: gs
 dnS:∀ (it acc:Value) (env:Env) (A:Around) (Q:PySem.Fin->Shared->Prop) (E:Value->Shared->Prop) (s:Shared),wpAny (model P w) A ((compStart e 0 it acc env).onRaise (fun x=>do noteFrame x env;standAt theWindowsPlace)) Q E s->wpAny (model P w) (A.under (.compStart e 0 it acc env)) ((model P w).den (.compStart e 0 it acc env)) Q E s
 dnL:∀ (it acc:Value) (env:Env) (A:Around) (Q:PySem.Fin->Shared->Prop) (E:Value->Shared->Prop) (s:Shared),wpAny (model P w) A ((compTurn e 0 it acc env).onRaise (fun x=>do noteFrame x env;theTreesLotGoes x)) Q E s->wpAny (model P w) (A.under (.compLoop e 0 it acc env)) ((model P w).den (.compLoop e 0 it acc env)) Q E s
 q:∀ it acc env,(Code.compLoop e 0 it acc env).quiet=true
 sh:∀ (it acc:Addr) (env:Env),compTurn e 0 (.ref it) (.ref acc) env=qBz tpos (.ref it) target env ifs (body acc env) (again (.compLoop e 0 (.ref it) (.ref acc) env))
def tGath {AS:Type} (sub:List (Option Nat)) (wi:TI) (g:TG) (tt:TT) (tb:TB AS) (a0:AS) (HOf:Addr->AS->HO):TE:=fun σ H Q=>wi σ H fun J H1 =>
 qGb J g tt tb (fun a _ H'=>∀ r,H' r=none->Q (.ref r) (upd H' r (HOf r a))) a0 (subσ sub σ) H1
section
variable {X:Cx} {AS:Type} {e target iter:Expr} {ifs:List Expr} {scope sc:Scope} {pos tpos cpos:Pos} {N N':List Str} {sub:List (Option Nat)} {wi:TI} {g:TG} {tt:TT} {tb:TB AS} {newAcc:Sem Value} {body:Addr->Env->Sem Unit} {o0:Obj} {a0:AS} {AO:AS->Obj->Prop} {HOf:Addr->AS->HO}
theorem pe_g (GG:GC X.prog X.w e target iter ifs scope tpos newAcc body o0 a0 AO HOf) (hev:eval e X.env=comprehension e scope X.env cpos newAcc false (eval iter X.env)) (hN:X.N=N) (hsc:X.env.scope=sc) (O:CmpOk N sc N' scope sub) (hc:X.calm=true) (hi:PI X target iter wi)
  (B:∀ C s H fp,PG (qBp X scope N' C s H fp) target g/\PTs (qBp X scope N' C s H fp) ifs tt/\∀ acc,PBd (qBp X scope N' C s H fp) AO acc (body acc (qBp X scope N' C s H fp).env) tb)
  (hs:∀ x,foldedSetIterable iter X.env x=pure x:=by intro _;rfl):PE X e (tGath sub wi g tt tb a0 HOf):=by
 subst hN hsc;intro pins s σ H Q I h;rw[hev];obtain⟨gs,hcl⟩:=GG.cl;refine wpAny_comprehension_free (use:=none) hcl hs (clos_of I O) O.kind (qFj O) (thn (hi pins s σ H _ I h) fun v s1 h1=>thn h1 fun itv s2 h2=>?_);obtain⟨it,fp,tn,J,H2,e,I2,T,st2,f2,rd⟩:=h2;subst e;refine gcore (RR:=fun acc C=>compPost (model X.prog X.w) X.A X.xe none (EP X pins σ Q) acc C) GG.new GG.nf GG.nc GG.hA0 GG.hHO (by rw[hcl];rfl) rfl GG.dnS GG.dnL GG.q GG.sh hc I2 O T st2 f2 B rd fun acc C a H' s' I' fC hn na q=>?_
 obtain⟨m,hn⟩:=hn;obtain⟨f0,f1,f3,f4,f5,f6⟩:=fC;refine⟨m,hn,fun h' sb=>?_⟩;exact⟨.ref acc,upd H' acc (HOf acc a),I'.turned (t':=s'.toks) (it:=C) (fun b o hb e=>(sb.2 b hb).trans e) f0 f1 f4 f5 f6,rfl,q acc na⟩
theorem ps_g (GG:GC X.prog X.w e target iter ifs scope tpos newAcc body o0 a0 AO HOf)
  (hev:∀ use,evalThenUse e X.env use=(do let _ ← comprehension e scope X.env cpos newAcc false (eval iter X.env) (some use))) (hN:X.N=N) (hsc:X.env.scope=sc) (O:CmpOk N sc N' scope sub) (hc:X.calm=true) (hi:PI X target iter wi)
  (B:∀ C s H fp,PG (qBp X scope N' C s H fp) target g/\PTs (qBp X scope N' C s H fp) ifs tt/\∀ acc,PBd (qBp X scope N' C s H fp) AO acc (body acc (qBp X scope N' C s H fp).env) tb)
  (nd:X.N.Nodup) (hy:X.N[i]?=some y) (hx:Loc X.env.scope y) (hsw:swapsWith e (some (.Name y py)) spos.line X.env=pure true:=by rfl)
  (hs:∀ x,foldedSetIterable iter X.env x=pure x:=by intro _;rfl) (hf:X.fn y=true\/X.env.scope.names.lookup y=some .local:=by first | exact .inl rfl | exact .inr rfl | assumption):PS X (.Assign [.Name y py] e spos) (tAsg (tGath sub wi g tt tb a0 HOf) (gName i)):=by
 subst hN hsc;intro pins s σ H D I h;rw[exec_Assign_Name_used _ _ _ _ hsw,hev];obtain⟨gs,hcl⟩:=GG.cl;refine wpAny_bind (wpAny_standAt (wpAny_bind ?_));refine wpAny_bind (wpAny_mono (wpAny_comprehension_free (use:=some (assign (.Name y py) X.env)) (Q:=fun _ s'=>SP X pins D .next s') hcl hs (clos_of I O) O.kind (qFj O) (thn (hi pins s σ H _ I h) fun v s1 h1=>thn h1 fun itv s2 h2=>?_)) (fun _ s' hq=>wpAny_pure (wpAny_pure hq)) fun _ _ e=>e);obtain⟨it,fp,tn,J,H2,e,I2,T,st2,f2,rd⟩:=h2;subst e;refine gcore (RR:=fun acc C=>compPost (model X.prog X.w) X.A X.xe (some (assign (.Name y py) X.env)) (fun _ s'=>SP X pins D .next s') acc C) GG.new GG.nf GG.nc GG.hA0 GG.hHO (by rw[hcl];rfl) rfl GG.dnS GG.dnL GG.q GG.sh hc I2 O T st2 f2 B rd fun acc C a H' s' I' fC hn na q=>?_
 obtain⟨m,hn⟩:=hn;obtain⟨f0,f1,f3,f4,f5,f6⟩:=fC;show wpAny _ _ (assign (.Name y py) X.env (.ref acc)) _ _ s';refine wpAny_assign_Name (qFp (v:=.ref acc) I' nd hy hx rfl (fun s'' I'' ⟨b,sb,ha⟩=>?_) hf);have nCa:C≠b:=by
  rcases ha with z | z
  ·rw[z];exact f1
  ·exact fun e=>f5 _ _ z e.symm
 refine⟨m,hn.sameBut sb nCa,fun h' sb'=>?_⟩;exact⟨_,upd H' acc (HOf acc a),I''.turned (t':=s''.toks) (it:=C) (fun b o hb e=>(sb'.2 b hb).trans e) f0 f1 f4 f5 f6,q acc na⟩
end
section
variable {P:Program} {w:World} {target iter target2 iter2 elt kx vx:Expr} {ifs ifs2:List Expr} {scope:Scope} {pos:Pos}
theorem gc_set2:GC P w (.SetComp elt [⟨target,iter,ifs,0⟩,⟨target2,iter2,ifs2,0⟩] scope pos) target iter ifs scope iter.pos (newSet (.type "set")) (qC4 (.SetComp elt [⟨target,iter,ifs,0⟩,⟨target2,iter2,ifs2,0⟩] scope pos) iter2) (setO w) ([]:List Str) (qGg P w) (SetS P w) where
 new:=fun A s Q E h=>by
  unfold newSet setsByText;refine wpAny_bind (wpAny_bind (wpAny_askSetting (wpAny_pure ?_)));dsimp only;simp only[newObj];exact wpAny_bind (wpAny_alloc (wpAny_pure h))
 nf:=rfl
 nc:=fun a o h=>h.nocell
 hA0:=by
  obtain⟨o,e,r⟩:=(setO_ok P w (h:=(({}:Heap).push (setO w))) (a:=({}:Heap).objs.size) (Heap.get?_push_size _ rfl)).obj;rw[Heap.get?_push_size _ rfl]at e;cases e;exact r
 hHO:=fun H' h acc a o _ x e=>⟨x.set e,⟨o,e⟩,fun h1 h2 z k=>z.at k⟩
 cl:=⟨_,rfl⟩
 dnS:=fun _ _ _ _ _ _ _ h=>h
 dnL:=fun _ _ _ _ _ _ _ h=>h
 q:=fun _ _ _=>rfl
 sh:=fun it acc env=>by
  unfold qBz qC4;simp only[bind_assoc];rfl
end
end L2
namespace L2
open PySem PySem.Spec PyProof.Rows
def DOb (P:Program) (w:World) (kvs:List (Key×V)) (o:Obj):Prop :=
 kvs.length<=sizeLine/\∃ (vs:List (Key×Value)) (es:Array DictEntry) (ep:Nat),KV kvs vs/\o.ExactDict/\o.data = .dict es ep/\KeysOf (qA1 P w) es/\Pairs (qA1 P w) es.toList vs/\(vs.map (·.1)).Nodup
def dictBody (kx vx:Expr) (acc:Addr) (env:Env):Sem Unit:=do
 let kv ← eval kx env
 let vv ← holding [kv] (eval vx env)
 standAt { kx.pos with endLine:=vx.pos.endLine,endCol:=vx.pos.endCol }
 holding [kv,vv] (dictSet acc kv vv)
def tPutD (tk tv:TE):TB (List (Key×V)):=fun kvs σ H Q=>tk σ H fun x H1=>tv σ H1 fun y H2=>∃ k:Key,x=kV k/\kvs.length<sizeLine/\Q (qGh kvs k y) σ H2
theorem pbd_dict (xxe:X.xe=fun _ _=>False) (hk:PE X kx tk) (hv:PE X vx tv):PBd X (DOb X.prog X.w) acc (dictBody kx vx acc X.env) (tPutD tk tv):=by
 intro pins s σ H a o Q I np hx ha h;have h0:=hk _ s σ H _ I h;rw[xxe]at h0;unfold dictBody;refine wpAny_bind (thn h0 fun u s1 ⟨x,H1,I1,r1,q1⟩=>wpAny_bind (wpAny_holding ?_));have h2:=hv _ s1 σ H1 _ I1 q1;rw[xxe]at h2;refine thn h2 fun r s2 ⟨y,H2,I2,r2,k,ex,hl,q⟩=>wpAny_bind (wpAny_standAt (wpAny_holding ?_))
 subst ex;obtain⟨hz,vs,es,ep,kv,d1,d2,d3,d4,d5⟩:=ha;have pa:=I2.pin (acc,o) (hA6 _ hA3);have hlen:=kv.length;refine wpAny_dictSet_pairs (hsz:=by omega) (kV_is r1) (show s2.heap.DictOf (qA1 X.prog X.w) acc vs from ⟨o,es,ep,pa.1,d1,d2,d3,d4,d5⟩) fun h3 dd sb=>?_
 obtain⟨o3,es3,ep3,e1,e2,e3,e4,e5,e6⟩:=dd;have hl3:=qDm a k y;exact⟨qGh a k y,o3,σ,H2,I2.repin (t':=s2.toks+1) (fun b u hb e=>(sb.2 b hb).trans e) e1 (fun v z=>by rw[e3]at z;cases z) hx np,⟨by omega,_,es3,ep3,kv.put k r2,e2,e3,e4,e5,e6⟩,q⟩
theorem gc_dict :
  GC P w (.DictComp kx vx [⟨target,iter,ifs,0⟩] scope pos) target iter ifs scope iter.pos (newDict) (dictBody kx vx) { cls:=.type "dict",data:=.dict #[] } ([]:List (Key×V)) (DOb P w) (fun _ kvs=>.dK kvs) where
 new:=fun A s Q E h=>wpAny_newObj_type h (by size_fits)
 nf:=rfl
 nc:=fun a o h v z=>by
  obtain⟨_,vs,es,ep,_,_,e,_⟩:=h;rw[e]at z;cases z
 hA0:=⟨hAq _,[],#[],0,.nil,⟨rfl,rfl,rfl⟩,rfl,fun e he=>by simp at he,.nil,hCe⟩
 hHO:=fun H' h acc a o hb x e=>by
  obtain⟨hz,vs,es,ep,kv,d1,d2,d3,d4,d5⟩:=x;exact dk_new hz (beq_eq_false_iff_ne.mpr (hC9 hb)) kv ⟨o,es,ep,e,d1,d2,d3,d4,d5⟩
 cl:=⟨_,rfl⟩
 dnS:=fun _ _ _ _ _ _ _ h=>h
 dnL:=fun _ _ _ _ _ _ _ h=>h
 q:=fun _ _ _=>rfl
 sh:=fun _ _ _=>rfl
end L2
namespace L2
open PySem PySem.Spec PyProof.Rows
theorem FS.entry_dii:entryFor table "dict_itemiterator.__iter__" = some Builtin.«dict_keyiterator.__iter__»:=entryFor_alias (id':="dict_keyiterator.__iter__") (by kernel_rfl) (by first | rfl | decide +kernel | (unfold String.splitOn;simp +decide [String.splitOnAux])) (by decide +kernel) (by kernel_rfl)
def itV (kvs:List (Key×V)) (i:Nat):List V:=match kvs[i]? with
 | some p=>[kV p.1,p.2]
 | none=>[]
theorem turn_items {P:Program} {w:World} {K:PySem.W.Frag} {elts:List Expr} {ct:Nat} {pos:Pos} (it d:Addr) (o:Obj) (kvs:List (Key×V)) (vs:List (Key×Value)) (es:Array DictEntry) (ep:Nat)
  (hne:d≠it) (kv:KV kvs vs) (hx:o.ExactDict) (hd:o.data = .dict es ep) (hk:KeysOf (qA1 P w) es) (hp:Pairs (qA1 P w) es.toList vs) (nd:(vs.map (·.1)).Nodup) :
  Turn P w K (.Tuple elts ct pos) (Itp kvs.length (fun H=>H d=some (.frz o (.dK kvs))) (itV kvs)) [it] it (fun i h=>∃ ok ov,IsItemIter h it d i vs.length ep ok ov) where
 mem:=by simp
 obj:=fun i h st b hb=>by
  have e:b=it:=by simpa using hb
  subst e;obtain⟨ok,ov,e⟩:=st;exact⟨_,e,fun v z=>by cases z⟩
 keep:=fun i h h' st k=>by
  obtain⟨ok,ov,e⟩:=st;exact⟨ok,ov,k it (by simp) _ e⟩
 item:=by
  intro X hP hw hK hc i pins s σ H E I hf st hg;subst hP hw hK;obtain⟨hH,hi⟩:=hg;obtain⟨ok,ov,hit⟩:=st;have ho:s.heap.get? d=some o:=(I.hok d _ hH).1;have da:s.heap.DictAt (qA1 X.prog X.w) d vs ep:=⟨o,es,ho,hx,hd,hk,hp,nd⟩;obtain⟨⟨k,xv⟩,hkx⟩:∃ p,kvs[i]?=some p:=⟨kvs[i],by simp[hi]⟩;have hvl:i<vs.length:=by have:=kv.length;omega
  obtain⟨⟨k',uv⟩,hkv⟩:∃ p,vs[i]?=some p:=⟨vs[i],by simp[hvl]⟩;have pr:(k=k'/\qBn xv uv):=by
   have:∀ {a:List (Key×V)} {b:List (Key×Value)} {i:Nat} {p:Key×V} {q:Key×Value},KV a b->a[i]?=some p->b[i]?=some q->p.1=q.1/\qBn p.2 q.2:=by
    intro a b i p q r
    induction r generalizing i with
    | nil=>intro h;simp at h
    | cons h t ih =>
     cases i with
     | zero=>intro e1 e2;simp at e1 e2;subst e1 e2;exact h
     | succ i=>intro e1 e2;exact ih (by simpa using e1) (by simpa using e2)
   exact this kv hkx hkv
  obtain⟨rfl,rv⟩:=pr;refine wpAny_pyNext_items_item hit da hkv fun key h1 hkey ho1 ht hs1 k1=>?_
  refine⟨_,rfl,wpAny_letOwnedTupleGo_items ho1 fun h2 hi2 sb2=>?_⟩;have hTit:s.heap.objs.size≠it:=hC9 (Heap.lt_size hit);have ht2:h2.get? s.heap.objs.size=some { cls:=.type "tuple",data:=.seq #[key,uv] }:=sb2.extBut _ _ hTit ht;have rk:qBn (kV k) key:=by
   rcases keyIs_shape (show keyIs k key=true from hkey) with ⟨j,t,rfl,rfl⟩ | ⟨x,t,rfl,rfl⟩
   ·exact⟨t,rfl⟩
   ·exact⟨t,rfl⟩
  have ei:itV kvs i=[kV k,xv]:=by unfold itV;rw[hkx]
  refine⟨.ref s.heap.objs.size,upd H s.heap.objs.size (.tup (itV kvs i)),I.turnedT (t':=s.toks) (d':=s.drawn) (ch:=[it]) (fun b u hb e=>?_) hf (hA5 _) ⟨?_,[key,uv],?_,⟨_,ht2,rfl,_,rfl⟩⟩,rfl,⟨_,I.hok.fresh (hA5 _),rfl,rfl⟩,⟨_,_,hi2⟩,fun b hb=>?_⟩
  ·have nb:b≠it:=by simpa using hb
   exact sb2.extBut _ _ nb (k1 b u nb e)
  ·rw[ei];show 2<=sizeLine;decide
  ·rw[ei];exact .cons rk (.cons rv .nil)
  ·have e:b=it:=by simpa using hb
   subst e;rw[qAe (Ne.symm hTit)];exact(hf b (by simp)).1
 done:=by
  intro X hP hw hK hc i pins s σ H E I hf st hg;subst hP hw hK;obtain⟨hH,rfl⟩:=hg;obtain⟨ok,ov,hit⟩:=st;have ho:s.heap.get? d=some o:=(I.hok d _ hH).1;have da:s.heap.DictAt (qA1 X.prog X.w) d vs ep:=⟨o,es,ho,hx,hd,hk,hp,nd⟩;obtain⟨f0,f1,f2,f3,f4,f5⟩:=hf it (by simp);have hl:=kv.length;exact wpAny_pyNext_items_end (I.ok.hd hc) hit da (by simp;omega) fun h' eb=>⟨rfl,I.turned (t':=s.toks) (fun b o hb e=>eb b o hb e) f0 f1 f3 f4 f5⟩
 self:=fun A i s Q E st h=>by
  obtain⟨ok,ov,hit⟩:=st;have hT:s.TypeIs (.ref it) "dict_itemiterator":=⟨_,hit,rfl⟩;refine wpAny_pyIter_slot hT PySem.F.slot_dict_itemiterator_iter (wpAny_call_entry PySem.F.slot_dict_itemiterator_iter hT FS.entry_dii ?_ (PySem.F.args_dict_itemiterator_iter_1 _));exact wpAny_pure ⟨_,rfl,"dict_itemiterator",_,hT,PySem.F.slot_dict_itemiterator_next.lookup,h⟩
def iItems (td:TE):TI:=fun σ H R=>td σ H fun x H1=>∃ d kvs,x = .ref d/\H1 d=some (.dK kvs)/\∀ o,R (Itp kvs.length (fun H=>H d=some (.frz o (.dK kvs))) (itV kvs)) (upd H1 d (.frz o (.dK kvs)))
theorem pi_items {X:Cx} {oe:Expr} {td:TE} {apos cpos tpos:Pos} {elts:List Expr} {ct:Nat} (he:PE X oe td) (hbase:attributeBase oe "items" X.env (eval oe X.env)=eval oe X.env:=by rfl) (hline:(apos.endLine == cpos.line)=true:=by rfl) :
  PI X (.Tuple elts ct tpos) (.Call (.Attribute oe "items" apos) [] [] cpos) (iItems td):=by
 intro pins s σ H R I h;refine wpAny_Call_method0_late hbase hline (thn (he pins s σ H _ I h) fun v s1 ⟨x,H1,I1,r1,q1⟩=>?_);obtain⟨d,kvs,e,hH,q⟩:=q1;subst e;cases r1;obtain⟨h1,h2⟩:=tyV_is I1 (x:=.ref d) (v:=.ref d) (T:="dict") rfl (.inr (.inr (.inl ⟨rfl,.inl ⟨kvs,hH⟩⟩)));obtain⟨hz,hsm,vs,kv,o,es,ep,ho,hx,hd,hk,hp,nd⟩:=dk_of I1.hok hH;refine⟨"dict","dict.items",PySem.F.plainAttrs_dict,PySem.F.slot_dict_items,PySem.F.type_dict_items,h1,h2,Calls.callWith_builtin rfl (PySem.evalArgs_none ?_)⟩;refine wpAny_call_entry PySem.F.slot_dict_items h1 PySem.F.entry_dict_items ?_ (PySem.F.args_dict_items_1 _);unfold Builtin.«dict.items» Builtin.Dict.noArgs;refine wpAny_bind (wpAny_bind (wpAny_notOrdered_dict h1 ?_));refine wpAny_pure ?_;show wpAny _ _ (Builtin.Dict.showsAll d >>= _) _ _ _;unfold Builtin.Dict.showsAll;rw[if_neg (by rw[hsm];exact hAo)];refine wpAny_bind (wpAny_pure (wpAny_bind (wpAny_newObj_type (wpAny_pure ⟨_,rfl,?_⟩))));have I2:Inv X pins σ (upd H1 d (.frz o (.dK kvs))) s1:=by
  refine I1.write (t':=s1.toks) (h':=s1.heap) (x:=d) (e:=d) (by rw[hH];trivial) (.inl rfl) (fun _ _ _ q=>q) ⟨o,ho⟩ ⟨ho,?_⟩;exact⟨hz,hsm,vs,kv,o,es,ep,ho,hx,hd,hk,hp,nd⟩
 have I3:Inv X pins σ (upd H1 d (.frz o (.dK kvs))) { s1 with heap:=s1.heap.push { cls:=.type "dict_items",data:=.fields #[.ref d] } }:=I2.kept (t':=s1.toks) fun b o e=>Heap.get?_push_of_some _ e
 have da:(s1.heap.push { cls:=.type "dict_items",data:=.fields #[.ref d] }).DictAt (qA1 X.prog X.w) d vs ep:=⟨o,es,Heap.get?_push_of_some _ ho,hx,hd,hk,hp,nd⟩;refine wpAny_pyIter_items (s:={ s1 with heap:=s1.heap.push { cls:=.type "dict_items",data:=.fields #[.ref d] } }) ⟨_,Heap.get?_push_size _ rfl,rfl,rfl⟩ da ?_;have hd1:d<s1.heap.objs.size:=Heap.lt_size ho;have hne:d≠(s1.heap.push { cls:=.type "dict_items",data:=.fields #[.ref d] }).objs.size:=by rw[Heap.size_push];exact hAk (hB6 hd1)
 refine⟨_,[(s1.heap.push { cls:=.type "dict_items",data:=.fields #[.ref d] }).objs.size],_,_,_,rfl,I3.kept (t':=s1.toks) fun b o e=>Heap.get?_push_of_some _ e,turn_items _ d o kvs vs es ep hne kv hx hd hk hp nd,⟨_,_,Heap.get?_push_size _ rfl⟩,fun b hb=>?_,q o⟩;have e:b=(s1.heap.push { cls:=.type "dict_items",data:=.fields #[.ref d] }).objs.size:=by simpa using hb
 subst e;exact I3.fpOk (hA5 _) (I3.hok.fresh (hA5 _))
end L2
namespace L2
open PySem PySem.Spec PyProof.Rows
def VwS (v d:Addr):HO:=.ext fun h=>h.IsValuesView v d
def rVals:V->List V->Hp->VK->Prop:=fun x xs H Q=>∃ d kvs,x = .ref d/\xs=[]/\H d=some (.dK kvs)/\∀ v,H v=none->Q (.ref v) (upd H v (VwS v d))
section
variable {X:Cx}
theorem mt_values:MtR X "dict.values" rVals:=by
 intro pins s σ H x xs v us Q I rx r h;obtain⟨d,kvs,rfl,rfl,hH,q⟩:=h;cases rx;cases r;obtain⟨hz,hsm,vs,kv,o,es,ep,ho,hx,hd,hk,hp,nd⟩:=dk_of I.hok hH;have h1:s.TypeIs (.ref d) "dict":=⟨o,ho,hx.1⟩;refine wpAny_call_entry PySem.F.slot_dict_values h1 PySem.F.entry_dict_values ?_ (PySem.F.args_dict_values_1 _);refine wpAny_bind ?_;unfold Builtin.Dict.noArgs;refine wpAny_bind (wpAny_notOrdered_dict h1 (wpAny_pure ?_));show wpAny _ _ (Builtin.Dict.showsAll d >>= _) _ _ _;unfold Builtin.Dict.showsAll;rw[if_neg (by rw[hsm];exact hAo)];refine wpAny_bind (wpAny_pure (wpAny_bind (wpAny_newObj_type (wpAny_pure ⟨_,rfl,?_⟩))));refine⟨.ref s.heap.objs.size,_,I.laid (t':=s.toks) (a:=s.heap.objs.size) (o:=VwS s.heap.objs.size d) (fun b o e=>Heap.get?_push_of_some _ e) (hA5 _) ⟨⟨_,Heap.get?_push_size _ rfl,rfl,rfl⟩,⟨_,Heap.get?_push_size _ rfl⟩,fun h1 h2 z k=>?_⟩,rfl,q _ (I.hok.fresh (hA5 _))⟩;obtain⟨o',e',r'⟩:=z;exact⟨o',k _ e',r'⟩
theorem kv_vals:∀ {a:List (Key×V)} {b:List (Key×Value)},KV a b->qBa (a.map (·.2)) (b.map (·.2)):=by
 intro a b r
 induction r with
 | nil=>exact .nil
 | cons h t ih=>exact .cons h.2 ih
theorem qGj (hc:X.calm=true):qA6 X (.type "list") (fun xs H Q=>∃ v d kvs,xs=[.ref v]/\H v=some (VwS v d)/\H d=some (.dK kvs)/\∀ l,H l=none->Q (.ref l) (upd H l (.lst (kvs.map (·.2))))):=by
 intro pins s σ H xs us Q I r h;obtain⟨v,d,kvs,rfl,hv,hH,q⟩:=h;obtain⟨u,rfl,rx⟩:=qCa r;cases rx;obtain⟨hz,hsm,vs,kv,o,es,ep,ho,hx,hd,hk,hp,nd⟩:=dk_of I.hok hH;have vw:s.heap.IsValuesView v d:=(I.hok v _ hv).1;have hlen:=kv.length;refine PySem.W.kdl_call (PySem.W.kdl_values (knd:=qA1 X.prog X.w) (kvs:=vs) (ep:=ep)) (I.ok.hd hc) ⟨vw,⟨o,es,ho,hx,hd,hk,hp,nd⟩⟩ (by omega) fun h' tk acc' c' hk' hS' hacc=>?_
 have eacc:acc'.toList=vs.map (·.2):=by
  refine hCn fun i=>?_
  by_cases hi:i<vs.length
  ·have hi':i<acc'.size:=by rw[hacc.1];exact hi
   obtain⟨k,e⟩:=hacc.2 i _ (hBm hi');rw[hAp,hBm hi',hAh,e];rfl
  ·rw[hAp,Array.getElem?_eq_none (by rw[hacc.1];omega),hBe (by rw[hA1];omega)]
 refine⟨.ref s.heap.objs.size,_,I.laid (t':=tk) (a:=s.heap.objs.size) (o:=.lst (kvs.map (·.2))) (fun b o e=>hk' b o e) (hA5 _) ⟨by rw[hA1];exact hz,vs.map (·.2),c',kv_vals kv,?_⟩,rfl,q _ (I.hok.fresh (hA5 _))⟩;rw[<-eacc,Array.toArray_toList];exact hS'
end
end L2
namespace L2
open PySem PySem.Spec PyProof.Rows PySem.W
abbrev Rng (n:Nat):Array Nat:=List.toArray (List.range n)
def Gd (n:Nat) (p:Array Nat):Prop:=p.Perm (Rng n)
theorem Gd.lt (h:Gd n p) (h0:0<n) (i:Nat):p.getD i 0<n:=by
 by_cases hi:i<p.size
 ·have e:p.getD i 0=p[i]:=by simp[Array.getD,hi]
  rw[e];have m:p[i]∈p.toList:=by simp
  have m2:=(hBc.mp h).mem_iff.mp m
  simpa using m2
 ·have e:p.getD i 0=0:=by simp[Array.getD,hi]
  rw[e];exact h0
theorem Gd.rev (h:Gd n p) (i j:Nat):Gd n (kas_rev p i j):=(mirror_perm _ _ _ _).trans h
theorem Gd.bub (h:Gd n p) (i j:Nat):Gd n (bubble p i j):=(bubble_perm _ _ _).trans h
section
variable {n:Nat} {cmp:Nat->Nat->(Bool->Shared->Prop)->Shared->Prop} {s:Shared} (hask:∀ i j C,i<n->j<n->(∀ b,C b s)->cmp i j C s) (h0:0<n)
include hask h0
end
def TupS (h:Heap) (v:Value) (t:List Str):Prop:=∃ a its,v = .ref a/\IsTup h a its/\StrsAre its.toList t/\t≠[]
section
variable {P:Program} {w:World} {A:Around} {E:Value->Shared->Prop} {s:Shared}
theorem qFo (k:∀ b o,b≠a->h.get? b=some o->h'.get? b=some o):∀ {vs:List Value} {ts:List (List Str)},Paired (TupS h) vs ts->(∀ v∈vs,v≠.ref a)->∃ fs:List Value,KatTups h' vs fs/\fs.length=vs.length/\∀ f∈fs,∃ x t,f=Value.str x t
 | _,_,.nil,_=>⟨[],trivial,rfl,fun f hf=>by cases hf⟩
 | _,_,@Paired.cons _ _ _ v t l1 l2 hh tt,hn=>by
  obtain⟨fs,q1,q2,q3⟩:=qFo k tt fun u hu=>hn u (hA4 _ hu)
  obtain⟨b,its,rfl,⟨o,g,c,n,d⟩,st,ne⟩:=hh;have nb:b≠a:=fun z=>hn _ hA3 (by rw[z])
  cases t with
  | nil=>exact absurd rfl ne
  | cons x r =>
   have e:=st.strs;cases hi:its.toList with
   | nil=>rw[hi]at e;cases e
   | cons f fr =>
    have hf:its[0]?=some f:=by rw[<-hAp,hi];rfl
    refine⟨f :: fs,.cons (k b o nb g) c d hf q1,by simp[q2],fun g' hg'=>?_⟩;rcases hAa.mp hg' with z | z
    ·subst z;exact st.all _ (by rw[hi];exact hA3)
    ·exact q3 g' z
end
end L2
namespace L2
open PySem PySem.Spec PyProof.Rows PySem.W
section
variable {X:Cx}
theorem refs_of:∀ {as:List Addr} {us:List Value},qBa (as.map V.ref) us->us=as.map Value.ref
 | [],_,r=>by cases r;rfl
 | a :: as,_,r=>by
  cases r with
  | cons h t=>cases h;rw[refs_of t];rfl
theorem qDq:∀ as:List Addr,qBa (as.map V.ref) (as.map Value.ref)
 | []=>.nil
 | a :: as=>.cons rfl (qDq as)
theorem tups_mk (I:Inv X pins σ H s) (k:∀ b o,s.heap.get? b=some o->h'.get? b=some o):∀ {as:List Addr} {ts:List (List Str)},Paired (fun a t=>SqT X.K H a (t.map V.str)/\t≠[]) as ts->Paired (TupS h') (as.map Value.ref) ts
 | _,_,.nil=>.nil
 | _,_,.cons h t=>by
  obtain⟨h1,h2⟩:=h;obtain⟨its,rv,⟨o,g,c,n,d⟩,_⟩:=I.tuple h1;exact .cons ⟨_,its.toArray,rfl,⟨o,k _ _ g,c,n,d⟩,by simpa using qCb rv,h2⟩ (tups_mk I k t)
theorem tups_lt (I:Inv X pins σ H s):∀ {as:List Addr} {ts:List (List Str)},Paired (fun a t=>SqT X.K H a (t.map V.str)/\t≠[]) as ts->∀ b∈as,b<s.heap.objs.size
 | _,_,.nil,b,hb=>by cases hb
 | _,_,.cons h t,b,hb=>by
  rcases hAa.mp hb with z | z
  ·subst z;obtain⟨its,rv,⟨o,g,_⟩,_⟩:=I.tuple h.1;exact Heap.lt_size g
  ·exact tups_lt I t b z
end
end L2
namespace L2
open PySem PySem.Spec PyProof.Rows PySem.W
section
variable {AS:Type} {g:TG} {tt:TT} {tb:TB AS} {Q:AS->St->Hp->Prop} {a0:AS} {σ0:St} {H0:Hp}
def NxG (n i:Nat) (Pv:Nat->AS->St->Hp->Prop) (a:AS) (σ:St) (H:Hp):Prop:=∃ m',m'<n - i/\m'=n - (i+1)/\i+1<=n/\Pv (i+1) a σ H
theorem nxg (hi:i<n) (h:Pv (i+1) a σ H):NxG n i Pv a σ H:=⟨_,by omega,rfl,hi,h⟩
theorem g_list {K:PySem.W.Frag} {p:Addr} {xs:List V} (Pv:Nat->AS->St->Hp->Prop) (h0:Pv 0 a0 σ0 H0) (hl:∀ i a σ H,i<=xs.length->Pv i a σ H->SqL K H p xs)
  (hs:∀ i x a σ H,xs[i]?=some x->Pv i a σ H->g x σ H fun σ2 H2=>tt σ2 H2 fun b H3=>if b=true then tb a σ2 H3 (NxG xs.length i Pv) else NxG xs.length i Pv a σ2 H3)
  (hd:∀ a σ H,Pv xs.length a σ H->Q a σ H):qGb (Itl K p) g tt tb Q a0 σ0 H0:=by
 refine⟨fun i m a σ H=>m=xs.length - i/\i<=xs.length/\Pv i a σ H,⟨xs.length,by simp,hAq _,h0⟩,?_⟩;rintro i m a σ H ⟨rfl,hi,pv⟩;have q:=hl i a σ H hi pv;by_cases hlt:i<xs.length
 ·refine .inr ⟨⟨xs,xs[i],q,by simp[hlt]⟩,fun x H' y=>?_⟩;obtain⟨e,y⟩:=y;subst e;exact hs i x a σ _ (y xs q) pv
 ·have e:i=xs.length:=by omega
  subst e;exact .inl ⟨⟨xs,q,hA5 _⟩,hd a σ H pv⟩
theorem g_tuple {K:PySem.W.Frag} {p:Addr} {xs:List V} (Pv:Nat->AS->St->Hp->Prop) (h0:Pv 0 a0 σ0 H0) (hl:∀ i a σ H,i<=xs.length->Pv i a σ H->SqT K H p xs)
  (hs:∀ i x a σ H,xs[i]?=some x->Pv i a σ H->g x σ H fun σ2 H2=>tt σ2 H2 fun b H3=>if b=true then tb a σ2 H3 (NxG xs.length i Pv) else NxG xs.length i Pv a σ2 H3)
  (hd:∀ a σ H,Pv xs.length a σ H->Q a σ H):qGb (Itt K p) g tt tb Q a0 σ0 H0:=by
 refine⟨fun i m a σ H=>m=xs.length - i/\i<=xs.length/\Pv i a σ H,⟨xs.length,by simp,hAq _,h0⟩,?_⟩;rintro i m a σ H ⟨rfl,hi,pv⟩;have q:=hl i a σ H hi pv;by_cases hlt:i<xs.length
 ·refine .inr ⟨⟨xs,xs[i],q,by simp[hlt]⟩,fun x H' y=>?_⟩;obtain⟨e,y⟩:=y;subst e;exact hs i x a σ _ (y xs q) pv
 ·have e:i=xs.length:=by omega
  subst e;exact .inl ⟨⟨xs,q,hA5 _⟩,hd a σ H pv⟩
theorem g_pairs (Pv:Nat->AS->St->Hp->Prop) (h0:Pv 0 a0 σ0 H0) (hl:∀ i a σ H,i<=n->Pv i a σ H->Ls H)
  (hs:∀ i a σ H T,i<n->Pv i a σ H->H T=none->g (.ref T) σ (upd H T (.tup (xv i))) fun σ2 H2=>tt σ2 H2 fun b H3=>if b=true then tb a σ2 H3 (NxG n i Pv) else NxG n i Pv a σ2 H3)
  (hd:∀ a σ H,Pv n a σ H->Q a σ H):qGb (Itp n Ls xv) g tt tb Q a0 σ0 H0:=by
 refine⟨fun i m a σ H=>m=n - i/\i<=n/\Pv i a σ H,⟨n,by simp,hAq _,h0⟩,?_⟩;rintro i m a σ H ⟨rfl,hi,pv⟩;have q:=hl i a σ H hi pv;by_cases hlt:i<n
 ·refine .inr ⟨⟨q,hlt⟩,fun x H' y=>?_⟩;obtain⟨T,e1,e2,e3⟩:=y;subst e2 e3;exact hs i a σ H T hlt pv e1
 ·have e:i=n:=by omega
  subst e;exact .inl ⟨⟨q,rfl⟩,hd a σ H pv⟩
end
section
variable {X:Cx}
theorem call_range1':qA6 X (.type "range") (fun xs H Q=>∃ j:Int,xs=[.int j]/\0<=j/\j<=1000/\∀ r,H r=none->Q (.ref r) (upd H r (.rng 0 j))):=by
 intro pins s σ H xs us Q I r h;obtain⟨j,rfl,h0,h1,q⟩:=h;obtain⟨u,rfl,t,rfl⟩:=qCa r;refine call_range_1 ?_;exact⟨.ref s.heap.objs.size,_,I.laid (a:=s.heap.objs.size) (o:=.rng 0 j) (fun b o e=>Heap.get?_push_of_some _ e) (hA5 _) ⟨_,_,_,Heap.get?_push_size _ rfl⟩,rfl,q _ (I.hok.fresh (hA5 _))⟩
theorem ints_vals:∀ {its:List Value} {n:Nat} (k:Nat),its.length=n->(∀ i v,its[i]?=some v->∃ t,v=Value.int ((k+i:Nat):Int) t)->qBa ((List.range' k n).map fun (i:Nat)=>V.int (i:Int)) its
 | [],n,k,hl,_=>by
  have e:n=0:=hl.symm;subst e;exact .nil
 | v :: r,n,k,hl,h=>by
  obtain⟨m,rfl⟩:∃ m,n=m+1:=⟨n - 1,by simp at hl;omega⟩;rw[List.range'_succ,hAm];refine .cons ?_ (ints_vals (k+1) (by simpa using hl) fun i v hv=>?_)
  ·obtain⟨t,e⟩:=h 0 v rfl;exact⟨t,by rw[e,Nat.add_zero]⟩
  ·obtain⟨t,e⟩:=h (i+1) v (by simpa using hv);exact⟨t,by rw[e,show k+(i+1)=k+1+i by omega]⟩
theorem call_list_rng (hc:X.calm=true):qA6 X (.type "list") (fun xs H Q=>∃ (r:Addr) (j:Int),xs=[.ref r]/\H r=some (.rng 0 j)/\0<=j/\j<=1000/\∀ l,H l=none->Q (.ref l) (upd H l (.lst ((List.range j.toNat).map fun (i:Nat)=>V.int (i:Int))))):=by
 intro pins s σ H xs us Q I r h;obtain⟨p,j,rfl,hp,h0,h1,q⟩:=h;obtain⟨u,rfl,rx⟩:=qCa r;cases rx;obtain⟨t,u,v,e⟩:=I.hok p _ hp;refine call_list_range (n:=j.toNat) (a:=0) (b:=j) (c:=1) (I.ok.hd hc) e (small_one (by decide) (by decide) (by omega) (by omega)) (by rw[rangeSize_one];split <;> omega) (by omega) fun h' tk acc' c' hk hS hacc=>?_
 refine⟨.ref s.heap.objs.size,_,I.laid (t':=tk) (a:=s.heap.objs.size) (o:=.lst ((List.range j.toNat).map fun (i:Nat)=>V.int (i:Int))) (fun b o e=>hk b o e) (hA5 _) ⟨?_,acc'.toList,c',?_,by rw[Array.toArray_toList];exact hS⟩,rfl,q _ (I.hok.fresh (hA5 _))⟩
 ·rw[hA1,hC3];exact hB3 (qAi (by omega))
 ·rw[List.range_eq_range'];refine ints_vals 0 (by rw[hB0];exact hacc.1) fun i v hv=>?_
  obtain⟨t,e⟩:=hacc.2 i v (by rw[<-hAp];exact hv);exact⟨t,by rw[e];congr 1;omega⟩
end
end L2
namespace L2
open PySem PySem.Spec PyProof.Rows PySem.W
structure Ordr (lt:Nat->Nat->Bool):Prop where
 asym:∀ a b,lt a b=true->lt b a=false
 tr:∀ a b c,lt b a=false->lt c b=false->lt c a=false
theorem Ordr.irr (o:Ordr lt) (a:Nat):lt a a=false:=by
 cases h:lt a a with
 | false=>rfl
 | true=>exact(o.asym a a h).symm.trans h▸rfl
def SPk (lt:Nat->Nat->Bool) (p:Array Nat) (k:Nat):Prop:=∀ i j,i<j->j<k->lt (p.getD j 0) (p.getD i 0)=false
def DPk (lt:Nat->Nat->Bool) (p:Array Nat) (k:Nat):Prop:=∀ i j,i<j->j<k->lt (p.getD i 0) (p.getD j 0)=false
def ERk (lt:Nat->Nat->Bool) (p:Array Nat) (a b:Nat):Prop:=∀ i j,a<=i->i<b->a<=j->j<b->lt (p.getD i 0) (p.getD j 0)=false
theorem Gd.size (h:Gd n p):p.size=n:=by
 have:=Array.Perm.size_eq h
 simpa using this
theorem qGv (hj:j<=p.size) (k:Nat):(kas_rev p i j).getD k 0=if i<=k/\k<j then p.getD (i+j - 1 - k) 0 else p.getD k 0:=by
 unfold kas_rev;rw[hBt,getElem?_mirror_all hj];split <;> rw[<-hBt]
theorem bub_at (hk:k<p.size) (hl:l<=k) (i:Nat):(bubble p k (k - l)).getD i 0=if i=l then p.getD k 0 else if l<i/\i<=k then p.getD (i - 1) 0 else p.getD i 0:=by
 rw[hBt,getElem?_bubble hk _ (by omega)];have e:k - (k - l)=l:=by omega
 rw[e];by_cases e1:i=l
 ·rw[if_pos e1,if_pos e1,<-hBt]
 ·rw[if_neg e1,if_neg e1];by_cases e2:l<i/\i<=k
  ·rw[if_pos e2,if_pos e2,<-hBt]
  ·rw[if_neg e2,if_neg e2,<-hBt]
section
variable {lt:Nat->Nat->Bool} (o:Ordr lt)
include o
theorem SPk.snoc (h:SPk lt p k) (h1:1<=k) (hk:lt (p.getD k 0) (p.getD (k - 1) 0)=false):SPk lt p (k+1):=fun i j hij hj=>by
 by_cases e:j=k
 ·subst e;by_cases e2:i=j - 1
  ·subst e2;exact hk
  ·exact o.tr _ _ _ (h i (j - 1) (by omega) (by omega)) hk
 ·exact h i j hij (by omega)
theorem DPk.snoc (h:DPk lt p k) (h1:1<=k) (hk:lt (p.getD (k - 1) 0) (p.getD k 0)=false):DPk lt p (k+1):=fun i j hij hj=>by
 by_cases e:j=k
 ·subst e;by_cases e2:i=j - 1
  ·subst e2;exact hk
  ·exact o.tr _ _ _ hk (h i (j - 1) (by omega) (by omega))
 ·exact h i j hij (by omega)
omit o in
theorem DPk.rev (h:DPk lt p k) (hb:b<=p.size) (hbk:b<=k) (e:ERk lt p a b):DPk lt (kas_rev p a b) k:=fun i j hij hj=>by
 rw[qGv hb,qGv hb];split
 ·split
  ·exact e _ _ (by omega) (by omega) (by omega) (by omega)
  ·exact h _ _ (by omega) (by omega)
 ·split
  ·exact h _ _ (by omega) (by omega)
  ·exact h _ _ (by omega) (by omega)
omit o in
theorem DPk.turn (h:DPk lt p k) (hk:k<=p.size):SPk lt (kas_rev p 0 k) k:=fun i j hij hj=>by
 rw[qGv hk,qGv hk,if_pos (by omega),if_pos (by omega)];exact h _ _ (by omega) (by omega)
variable {n:Nat} {cmp:Nat->Nat->(Bool->Shared->Prop)->Shared->Prop} {s:Shared} (hask:∀ i j C,i<n->j<n->C (lt i j) s->cmp i j C s) (h0:0<n)
include hask h0
theorem sk_asc (g:Gd n p) (N:Nat) (hq:∀ m,SPk lt p m->1<=m->m<=N->(m<N->lt (p.getD m 0) (p.getD (m - 1) 0)=true)->Q m s):∀ f m,1<=m->m+f=N->SPk lt p m->(kas_asc p f m).kasWp cmp Q s
 | 0,m,h1,hN,sp=>hq m sp h1 (by omega) (fun z=>by omega)
 | f+1,m,h1,hN,sp=>by
  refine hask _ _ _ (g.lt h0 _) (g.lt h0 _) ?_;dsimp only;split
  ·rename_i c;exact hq m sp h1 (by omega) fun _=>c
  ·rename_i c;exact sk_asc g N hq f (m+1) (by omega) (by omega) (sp.snoc o h1 (by simpa using c))
theorem sk_desc (N:Nat) (hN:N<=n) (hq:∀ p m q,Gd n p->1<=m->q+1<=m->m<=N->DPk lt p m->ERk lt p (m - (q+1)) m->Q (p,m,q) s):∀ f p m q,Gd n p->1<=m->q+1<=m->m+f=N->DPk lt p m->ERk lt p (m - (q+1)) m->(kas_desc f p m q).kasWp cmp Q s
 | 0,p,m,q,g,h1,h2,h3,dp,er=>hq p m q g h1 h2 (by omega) dp er
 | f+1,p,m,q,g,h1,h2,h3,dp,er=>by
  have sz:=g.size;refine hask _ _ _ (g.lt h0 _) (g.lt h0 _) ?_;dsimp only;split
  ·rename_i c;have dp':=dp.snoc o h1 (o.asym _ _ c);have one:∀ p':Array Nat,ERk lt p' (m+1 - (0+1)) (m+1):=fun p' i j hi hi' hj hj'=>by
    have e1:i=m:=by omega
    have e2:j=m:=by omega
    subst e1 e2;exact o.irr _
   split
   ·exact sk_desc N hN hq f _ (m+1) 0 (g.rev _ _) (by omega) (by omega) (by omega) (dp'.rev (by omega) (by omega) er) (one _)
   ·exact sk_desc N hN hq f p (m+1) 0 g (by omega) (by omega) (by omega) dp' (one _)
  ·rename_i c;refine hask _ _ _ (g.lt h0 _) (g.lt h0 _) ?_;dsimp only;split
   ·exact hq p m q g h1 h2 (by omega) dp er
   ·rename_i d;have c':lt (p.getD m 0) (p.getD (m - 1) 0)=false:=by simpa using c
    have d':lt (p.getD (m - 1) 0) (p.getD m 0)=false:=by simpa using d
    refine sk_desc N hN hq f p (m+1) (q+1) g (by omega) (by omega) (by omega) (dp.snoc o h1 d') fun i j hi hi' hj hj'=>?_
    by_cases ei:i=m
    ·subst ei;by_cases ej:j=i
     ·subst ej;exact o.irr _
     ·exact o.tr _ _ _ (er (i - 1) j (by omega) (by omega) (by omega) (by omega)) c'
    ·by_cases ej:j=m
     ·subst ej;exact o.tr _ _ _ d' (er i (j - 1) (by omega) (by omega) (by omega) (by omega))
     ·exact er i j (by omega) (by omega) (by omega) (by omega)
theorem sk_tail3 (g:Gd n p) (N:Nat) (hN:N<=n) (hq:∀ m p,Gd n p->SPk lt p m->1<=m->m<=N->Q (m,p) s) (m:Nat) (h1:1<=m) (h2:m<=N) (dp:DPk lt p m):(kas_tail3 m N p).kasWp cmp Q s:=by
 unfold kas_tail3;rw[KasT.kasWp_bind];have sz:=g.size;exact sk_asc o hask h0 (g.rev _ _) N (fun m' sp a b _=>hq m' _ (g.rev _ _) sp a b) _ _ h1 (by omega) (dp.turn (by omega))
theorem qFq (g:Gd n p) (N:Nat) (hN:N<=n) (hq:∀ m p,Gd n p->SPk lt p m->1<=m->m<=N->Q (m,p) s) (m:Nat) (h2:m+1<=N) (dp:DPk lt p (m+1)):(kas_descPart m N p).kasWp cmp Q s:=by
 unfold kas_descPart;rw[KasT.kasWp_bind];refine sk_desc o hask h0 N hN (fun p' m' q g' a b c dp' er=>?_) _ _ _ _ g (by omega) (by omega) (by omega) dp fun i j hi hi' hj hj'=>?_
 ·have sz:=g'.size;dsimp only;split
  ·exact sk_tail3 o hask h0 (g'.rev _ _) N hN hq _ a c (dp'.rev (by omega) (hA5 _) er)
  ·exact sk_tail3 o hask h0 g' N hN hq _ a c dp'
 ·have e1:i=m:=by omega
  have e2:j=m:=by omega
  subst e1 e2;exact o.irr _
theorem sk_count (g:Gd n p) (hq:∀ m p,Gd n p->SPk lt p m->1<=m->m<=n->Q (m,p) s):(kas_count n p).kasWp cmp Q s:=by
 unfold kas_count;rw[KasT.kasWp_bind];have sz:=g.size;refine sk_asc o hask h0 g n (fun m sp m1 mn st=>?_) _ _ (hA5 _) (by omega) (fun i j hij hj=>by omega);split
 ·exact hq _ _ g sp m1 mn
 ·rename_i c;have c':m≠n:=by simpa using c
  have lt1:=st (by omega);have ge1:=o.asym _ _ lt1;split
  ·refine hask _ _ _ (g.lt h0 _) (g.lt h0 _) ?_;dsimp only;split
   ·exact hq _ _ g sp m1 mn
   ·rename_i d;have d':lt (p.getD 0 0) (p.getD (m - 1) 0)=false:=by simpa using d
    have lo:∀ i,i<m->lt (p.getD (m - 1) 0) (p.getD i 0)=false:=fun i hi=>by
     by_cases e:i=m - 1
     ·subst e;exact o.irr _
     ·exact sp i (m - 1) (by omega) (by omega)
    have hi0:∀ j,j<m->lt (p.getD j 0) (p.getD 0 0)=false:=fun j hj=>by
     by_cases e:j=0
     ·subst e;exact o.irr _
     ·exact sp 0 j (by omega) hj
    have er:ERk lt p 0 m:=fun i j _ hi _ hj=>o.tr _ _ _ (o.tr _ _ _ (lo j hj) d') (hi0 i hi)
    refine qFq o hask h0 (g.rev _ _) n (hA5 _) hq m (by omega) fun i j hij hj=>?_
    rw[qGv (by omega),qGv (by omega)];by_cases ej:j=m
    ·subst ej;rw[if_pos (by omega),if_neg (by omega)];exact o.tr _ _ _ ge1 (er _ _ (by omega) (by omega) (by omega) (by omega))
    ·rw[if_pos (by omega),if_pos (by omega)];exact er _ _ (by omega) (by omega) (by omega) (by omega)
  ·have e:m=1:=by omega
   subst e;refine qFq o hask h0 g n (hA5 _) hq 1 (by omega) fun i j hij hj=>?_
   have e1:i=0:=by omega
   have e2:j=1:=by omega
   subst e1 e2;exact ge1
theorem sk_place (g:Gd n p) (k:Nat) (sp:SPk lt p k) (hq:∀ l,l<=k->(∀ i,i<l->lt (p.getD k 0) (p.getD i 0)=false)->(∀ i,l<=i->i<k->lt (p.getD i 0) (p.getD k 0)=false)->Q l s) :
  ∀ f l r,l<=r->r<=k->r - l<=f->(∀ i,i<l->lt (p.getD k 0) (p.getD i 0)=false)->(∀ i,r<=i->i<k->lt (p.getD i 0) (p.getD k 0)=false)->(kas_place p k f l r).kasWp cmp Q s
 | 0,l,r,h1,h2,h3,a,b=>hq l (by omega) a fun i hi hk=>b i (by omega) hk
 | f+1,l,r,h1,h2,h3,a,b=>by
  unfold kas_place;split
  ·exact hq l (by omega) a fun i hi hk=>b i (by omega) hk
  ·refine hask _ _ _ (g.lt h0 _) (g.lt h0 _) ?_;dsimp only;split
   ·rename_i c;have c':=o.asym _ _ c;refine sk_place g k sp hq f l ((l+r) / 2) (by omega) (by omega) (by omega) a fun i hi hk=>?_
    by_cases e:i=(l+r) / 2
    ·subst e;exact c'
    ·exact o.tr _ _ _ c' (sp _ _ (by omega) hk)
   ·rename_i c;have c':lt (p.getD k 0) (p.getD ((l+r) / 2) 0)=false:=by simpa using c
    refine sk_place g k sp hq f ((l+r) / 2+1) r (by omega) h2 (by omega) (fun i hi=>?_) b;by_cases e:i=(l+r) / 2
    ·subst e;exact c'
    ·exact o.tr _ _ _ (sp i ((l+r) / 2) (by omega) (by omega)) c'
theorem sk_bin (hq:∀ p,Gd n p->SPk lt p n->Q p s):∀ f p k,Gd n p->k+f=n->SPk lt p k->(kas_bin f p k).kasWp cmp Q s
 | 0,p,k,g,h1,sp=>hq p g (by rw[<-h1];exact sp)
 | f+1,p,k,g,h1,sp=>by
  unfold kas_bin;rw[KasT.kasWp_bind];have sz:=g.size;refine sk_place o hask h0 g k sp (fun l hl a b=>sk_bin hq f _ _ (g.bub _ _) (by omega) fun i j hij hj=>?_) k 0 k (by omega) (hA5 _) (by omega) (fun i hi=>by omega) (fun i hi hk=>by omega);rw[bub_at (by omega) hl,bub_at (by omega) hl];by_cases ej:j=l
  ·rw[if_pos ej,if_neg (by omega),if_neg (by omega)];exact a i (by omega)
  ·rw[if_neg ej];by_cases ej2:l<j/\j<=k
   ·rw[if_pos ej2];by_cases ei:i=l
    ·rw[if_pos ei];exact b (j - 1) (by omega) (by omega)
    ·rw[if_neg ei];split
     ·exact sp _ _ (by omega) (by omega)
     ·exact sp _ _ (by omega) (by omega)
   ·rw[if_neg ej2,if_neg (by omega),if_neg (by omega)];exact sp _ _ hij (by omega)
theorem sk_sort (hq:∀ p,Gd n p->SPk lt p n->Q p s):(kas_sort n).kasWp cmp Q s:=by
 unfold kas_sort;rw[KasT.kasWp_bind];refine sk_count o hask h0 (Array.Perm.refl _) (fun m p g sp m1 mn=>?_);dsimp only;have e:max m 1=m:=by omega
 rw[e];split
 ·exact sk_bin o hask h0 hq _ _ _ g (by omega) sp
 ·have e2:m=n:=by omega
  subst e2;exact hq _ g sp
end
end L2
namespace L2
open PySem PySem.Spec PyProof.Rows PySem.W
theorem txTri:∀ a b:List Nat,a<b\/a=b\/b<a
 | [],[]=>.inr (.inl rfl)
 | [],_ :: _=>.inl (List.nil_lt_cons _ _)
 | _ :: _,[]=>.inr (.inr (List.nil_lt_cons _ _))
 | x :: a,y :: b=>by
  rcases Nat.lt_trichotomy x y with h | h | h
  ·exact .inl (hDd.mpr (.inl h))
  ·subst h;rcases txTri a b with h | h | h
   ·exact .inl (hDd.mpr (.inr ⟨rfl,h⟩))
   ·exact .inr (.inl (by rw[h]))
   ·exact .inr (.inr (hDd.mpr (.inr ⟨rfl,h⟩)))
  ·exact .inr (.inr (hDd.mpr (.inl h)))
theorem txExt {x y:Str} (h:x.cps.toList=y.cps.toList):x=y:=by
 cases x;cases y;simp only[Str.mk.injEq];exact hDl.mp h
def sLtB (x y:Str):Bool:=decide (x.cps.toList<y.cps.toList)
theorem qDu (x:Str):sLtB x x=false:=decide_eq_false (List.lt_irrefl _)
theorem qEf (h:sLtB x y=true) (h':sLtB y z=true):sLtB x z=true:=decide_eq_true (List.lt_trans (of_decide_eq_true h) (of_decide_eq_true h'))
theorem sLtB_tri (x y:Str):sLtB x y=true\/x=y\/sLtB y x=true:=by
 rcases txTri x.cps.toList y.cps.toList with h | h | h
 ·exact .inl (decide_eq_true h)
 ·exact .inr (.inl (txExt h))
 ·exact .inr (.inr (decide_eq_true h))
def ltL:List Str->List Str->Bool
 | [],[]=>false
 | [],_ :: _=>true
 | _ :: _,[]=>false
 | x :: r,y :: t=>if x=y then ltL r t else sLtB x y
theorem ltL_irr:∀ a:List Str,ltL a a=false
 | []=>rfl
 | x :: r=>by unfold ltL;rw[if_pos rfl];exact ltL_irr r
theorem ltL_tri:∀ a b:List Str,ltL a b=true\/a=b\/ltL b a=true
 | [],[]=>.inr (.inl rfl)
 | [],_ :: _=>.inl rfl
 | _ :: _,[]=>.inr (.inr rfl)
 | x :: r,y :: t=>by
  unfold ltL;by_cases e:x=y
  ·subst e;rw[if_pos rfl,if_pos rfl];rcases ltL_tri r t with h | h | h
   ·exact .inl h
   ·exact .inr (.inl (by rw[h]))
   ·exact .inr (.inr h)
  ·rw[if_neg e,if_neg (fun z=>e z.symm)];rcases sLtB_tri x y with h | h | h
   ·exact .inl h
   ·exact absurd h e
   ·exact .inr (.inr h)
theorem qD0:∀ a b c:List Str,ltL a b=true->ltL b c=true->ltL a c=true
 | [],_,[],h,h'=>by
  rename_i b;cases b with
  | nil=>exact h
  | cons _ _=>cases h'
 | [],_,_ :: _,_,_=>rfl
 | _ :: _,[],_,h,_=>by cases h
 | _ :: _,_ :: _,[],_,h'=>by cases h'
 | x :: r,y :: t,z :: u,h,h'=>by
  unfold ltL at h h' ⊢;by_cases e1:x=y
  ·subst e1;rw[if_pos rfl]at h;by_cases e2:x=z
   ·subst e2;rw[if_pos rfl]at h' ⊢;exact qD0 r t u h h'
   ·rw[if_neg e2]at h' ⊢;exact h'
  ·rw[if_neg e1]at h;by_cases e2:y=z
   ·subst e2;rw[if_neg e1];exact h
   ·rw[if_neg e2]at h';have q:=qEf h h';have e3:¬x=z:=fun e=>by rw[e,qDu]at q;cases q
    rw[if_neg e3];exact q
theorem ltL_asym (a b:List Str) (h:ltL a b=true):ltL b a=false:=by
 cases q:ltL b a with
 | false=>rfl
 | true=>have:=qD0 a b a h q;rw[ltL_irr]at this;cases this
def ltI (ts:List (List Str)) (i j:Nat):Bool:=ltL (ts.getD i []) (ts.getD j [])
theorem ltI_ord (ts:List (List Str)):Ordr (ltI ts):=⟨fun a b h=>ltL_asym _ _ h,fun a b c h h'=>by
 have h1:ltL (ts.getD b []) (ts.getD a [])=false:=h;have h2:ltL (ts.getD c []) (ts.getD b [])=false:=h';show ltL (ts.getD c []) (ts.getD a [])=false;rcases ltL_tri (ts.getD a []) (ts.getD b []) with q | q | q
 ·rcases ltL_tri (ts.getD b []) (ts.getD c []) with r | r | r
  ·exact ltL_asym _ _ (qD0 _ _ _ q r)
  ·rw[<-r];exact h1
  ·rw[h2]at r;cases r
 ·rw[q];exact h2
 ·rw[h1]at q;cases q⟩
theorem qC6 (vs:List Value):(List.range vs.length).map (fun i=>vs.getD i Value.none)=vs:=by
 refine hCn fun i=>?_
 by_cases hi:i<vs.length
 ·rw[hAh,List.getElem?_range hi,hA2 hi];show some (vs.getD i Value.none)=_;rw[hAg,hA2 hi];rfl
 ·rw[hBe (by simp;omega),hBe (by omega)]
theorem katlex_ex:∀ {vs us:List Value} {x y:List Str} (i:Nat),StrsAre vs x->StrsAre us y->Q (ltL x y) s->fin=decide (x.length<y.length)->KatLex P w A b fin Q (vs.zip us) i s
 | _,_,_,_,i,.nil,.nil,hQ,hf=>by rw[hf];exact hQ
 | _,_,_,_,i,.nil,.cons _ _ _,hQ,hf=>by rw[hf];exact hQ
 | _,_,_,_,i,.cons _ _ _,.nil,hQ,hf=>by rw[hf];exact hQ
 | _,_,_,_,i,.cons p t r,.cons q u r',hQ,hf=>by
  refine kat_cons (wpAny_eqBool_str (kat_go (fun e=>kat_yes (katlex_ex (i+1) r r' ?_ ?_)) fun e=>kat_no ?_))
  ·have e':=of_decide_eq_true e;unfold ltL at hQ;rw[if_pos e']at hQ;exact hQ
  ·rw[hf];simp
  ·have e':=of_decide_eq_false e;unfold ltL at hQ;rw[if_neg e']at hQ;cases hb:(b && i == 0) with
   | true=>exact strKind_oneLt P w A _ s _ _ _ _ rfl rfl hQ
   | false=>exact kat_one _ _ (lt_str hQ)
section
variable {P:Program} {w:World} {A:Around} {E:Value->Shared->Prop} {s:Shared}
theorem tups_atO (k:∀ b o,b≠a->h.get? b=some o->h'.get? b=some o):∀ {vs:List Value} {ts:List (List Str)} {i:Nat},Paired (TupS h) vs ts->(∀ v∈vs,v≠.ref a)->i<vs.length->∃ (b:Addr) (its:Array Value),IsTup h' b its/\vs.getD i Value.none = .ref b/\StrsAre its.toList (ts.getD i [])
 | _,_,i,.nil,_,hi=>absurd hi (hCf _)
 | _,_,0,@Paired.cons _ _ _ v t l1 l2 hh tt,hn,_=>by
  obtain⟨b,its,rfl,⟨o,g,c,n,d⟩,st,ne⟩:=hh;have nb:b≠a:=fun z=>hn _ hA3 (by rw[z])
  exact⟨b,its,⟨o,k b o nb g,c,n,d⟩,rfl,st⟩
 | _,_,i+1,@Paired.cons _ _ _ v t l1 l2 hh tt,hn,hi=>tups_atO (i:=i) k tt (fun u hu=>hn u (hA4 _ hu)) (by simpa using hi)
theorem sort_tupsO (ho:s.heap.get? a=some (seqObj "list" vs.toArray n)) (ht:Paired (TupS s.heap) vs ts) (h64:vs.length<64) (hna:∀ v∈vs,v≠.ref a)
  (h:∀ (out:List Value) (p:Array Nat),out.Perm vs->Gd vs.length p->SPk (ltI ts) p vs.length->out=p.toList.map (fun i=>vs.getD i Value.none)->R (.done (.ret .none)) { s with heap:=sortedHeap s.heap a vs out.toArray }):wpAny (model P w) A (Builtin.«list.sort» ⟨[.ref a],[]⟩) R E s:=by
 rw[list_sort_plain];have ha:a<s.heap.objs.size:=Heap.lt_size ho;refine wpAny_bind (listItems_at ho rfl (wpAny_bind (listUpdate_at ho rfl ?_ (by rw[hAc,sizeLine_eq];omega) (hAq _))));obtain⟨e1,ho1⟩:∃ e1,(s.heap.update a (Obj.mapSeq fun _=>#[])).get? a=some (seqObj "list" #[] e1):=⟨_,get?_update_seq ho (fun _=>#[])⟩;refine wpAny_bind (seqEpoch_at ho1 rfl (wpAny_bind (wpAny_newTuple ?_ (by show vs.length<=_;rw[sizeLine_eq];omega))));refine wpAny_bind (wpAny_newList ?_ (hAq _));refine wpAny_holding ?_;have ho6:(((s.heap.update a (Obj.mapSeq fun _=>#[])).push (seqObj "tuple" vs.toArray 0)).push (seqObj "list" #[] 0)).get? a=some (seqObj "list" #[] e1):=Heap.get?_push_of_some _ (Heap.get?_push_of_some _ ho1);have keep:∀ b o,b≠a->s.heap.get? b=some o->(((s.heap.update a (Obj.mapSeq fun _=>#[])).push (seqObj "tuple" vs.toArray 0)).push (seqObj "list" #[] 0)).get? b=some o:=fun b o hb e=>by
  refine Heap.get?_push_of_some _ (Heap.get?_push_of_some _ ?_);rw[Heap.get?_update_ne _ _ _ _ hb];exact e
 show wpAny (model P w) A _ R E { s with heap:=((s.heap.update a (Obj.mapSeq fun _=>#[])).push (seqObj "tuple" vs.toArray 0)).push (seqObj "list" #[] 0) };dsimp only;have fin:∀ (st':SortSt) (out:List Value),(arrOf st').map (·.2)=out.toArray->failedOf st'=none->out.Perm vs->(∃ p,Gd vs.length p/\SPk (ltI ts) p vs.length/\out=p.toList.map (fun i=>vs.getD i Value.none))->wpAny (model P w) A (do
   let touched:=(← seqEpoch a) != e1
   Builtin.List.listUpdate (.ref a) fun _=>(arrOf st').map (·.2)
   if let some e:=failedOf st' then rule "list.sort.comparison-raised";throw e
   if touched then rule "list.sort.modified";raiseError "ValueError" "list modified during sort"
   ret .none) R E { s with heap:=((s.heap.update a (Obj.mapSeq fun _=>#[])).push (seqObj "tuple" vs.toArray 0)).push (seqObj "list" #[] 0) }:=by
  intro st' out e hf hp ⟨p,hg,hsp,ep⟩;refine wpAny_bind (seqEpoch_at ho6 rfl ?_);refine wpAny_bind (listUpdate_at ho6 rfl ?_ (hAq _) (by rw[e,hAc,hp.length_eq,sizeLine_eq];omega));rw[hf];simp only[bne_self_eq_false,hCh,if_false];rw[e];exact wpAny_pure (h out p hp hg hsp ep)
 by_cases h2:vs.toArray.size<2
 ·rw[if_pos h2,if_pos h2];refine wpAny_bind (wpAny_pure ?_);rw[StateT.run_pure];refine wpAny_bind (wpAny_pure (fin _ vs ?_ rfl (hCm _) ⟨Rng vs.length,Array.Perm.refl _,fun i j hij hj=>absurd hj (by rw[hAc]at h2;omega),(qC6 vs).symm⟩));show(vs.toArray.zip vs.toArray).map (·.2)=vs.toArray;apply hDl.mp;rw[hDm,hDn];exact hD7 (hA5 _)
 ·rw[if_neg h2,if_neg h2];have hl2:2<=vs.length:=by rw[hAc]at h2;omega
  obtain⟨fs,kt,fl,fa⟩:=qFo (a:=a) keep ht hna;refine wpAny_bind (kat_kind (T:=.type "str") kt (by omega) (fun v hv=>?_) (by decide) ?_)
  ·obtain⟨x,t,rfl⟩:=fa v hv;exact .now
  refine wpAny_bind (wpAny_mono (kat_run (ks:=vs) (Q:=fun st' s'=>s'={ s with heap:=((s.heap.update a (Obj.mapSeq fun _=>#[])).push (seqObj "tuple" vs.toArray 0)).push (seqObj "list" #[] 0) }/\∃ out:List Value,(arrOf st').map (·.2)=out.toArray/\failedOf st'=none/\out.Perm vs/\∃ p,Gd vs.length p/\SPk (ltI ts) p vs.length/\out=p.toList.map (fun i=>vs.getD i Value.none)) (G:=fun p s'=>s'={ s with heap:=((s.heap.update a (Obj.mapSeq fun _=>#[])).push (seqObj "tuple" vs.toArray 0)).push (seqObj "list" #[] 0) }/\Gd vs.length p/\SPk (ltI ts) p vs.length) rfl hl2 h64 (fun p st' s' a1 a2 a3 a4=>?_) ?_) ?_ fun _ _ e=>e)
  ·obtain⟨rfl,g,sp⟩:=a4;refine⟨rfl,_,kat_snds rfl a2,a3,?_,p,g,sp,rfl⟩;have q:=(hBc.mp g).map fun i=>vs.getD i Value.none
   exact q.trans (List.Perm.of_eq (qC6 vs))
  ·refine sk_sort (ltI_ord ts) (fun i j C hi hj hC=>?_) (by omega) fun p g sp=>⟨rfl,g,sp⟩
   obtain⟨x1,y1,z1,v1,w1⟩:=tups_atO keep ht hna hi;obtain⟨x2,y2,z2,v2,w2⟩:=tups_atO keep ht hna hj;show wpAny _ _ (keyLt' _ (vs.getD i Value.none) (vs.getD j Value.none)) C _ _;rw[v1,v2];obtain⟨o1,g1,c1,n1,d1⟩:=z1;obtain⟨o2,g2,c2,n2,d2⟩:=z2;have l1:y1.size=(ts.getD i []).length:=by rw[<-w1.strs];simp
   have l2:y2.size=(ts.getD j []).length:=by rw[<-w2.strs];simp
   exact kat_lt g1 d1 g2 d2 (katlex_ex 0 w1 w2 hC (by rw[l1,l2]))
  ·rintro⟨⟨⟩,st'⟩ s' ⟨rfl,out,q1,q2,q3,q4⟩;exact fin st' out q1 q2 q3 q4
end
end L2
namespace L2
open PySem PySem.Spec PyProof.Rows PySem.W
theorem gd_mem (g:Gd n o) (hi:i∈o.toList):i<n:=by
 have:=(hBc.mp g).mem_iff.mp hi
 simpa using this
theorem gd_len (g:Gd n o):o.toList.length=n:=by
 have:=g.size
 simpa using this
theorem outs_refs {as:List Addr} {l:List Nat} (h:∀ i∈l,i<as.length):l.map (fun i=>(as.map Value.ref).getD i Value.none)=(l.map fun i=>as.getD i 0).map Value.ref:=by
 rw[hB2];refine hBu fun i hi=>?_
 have:=h i hi;show(as.map Value.ref).getD i Value.none=Value.ref (as.getD i 0);rw[hAg,hAg,hAh,hA2 this];rfl
section
variable {X:Cx}
theorem call_sortedTO:qA6 X (.builtin "sorted") (fun xs H Q=>∃ (p:Addr) (as:List Addr) (ts:List (List Str)),xs=[.ref p]/\SqL X.K H p (as.map V.ref)/\Paired (fun a t=>SqT X.K H a (t.map V.str)/\t≠[]) as ts/\as.length<64/\∀ (r:Addr) (o:Array Nat),H r=none->Gd as.length o->SPk (ltI ts) o as.length->Q (.ref r) (upd H r (.lst ((o.toList.map fun i=>as.getD i 0).map V.ref)))):=by
 intro pins s σ H xs us Q I r h;obtain⟨p,as,ts,rfl,hq,ht,h64,q⟩:=h;obtain⟨u,rfl,rx⟩:=qCa r;cases rx;obtain⟨its,rv,pl,hz⟩:=I.list hq;have ei:=refs_of rv;subst ei;refine Calls.call_function_entry kind_sorted plain_sorted entry_sorted (args_sorted1 _) ?_;unfold Builtin.«sorted»;refine wpAny_bind (m:=checkCount "sorted" 1 1 _) (wpAny_pure (wpAny_bind (collect_list pl.isList ?_ (by rw[hA1,sizeLine_eq];omega))));refine wpAny_bind (wpAny_newList ?_ (by rw[hA1,sizeLine_eq];omega));have hsz:((s.heap.push (seqObj "list" #[] 0)).update s.heap.objs.size (Obj.mapSeq (·++(as.map Value.ref).toArray))).objs.size=s.heap.objs.size+1:=by rw[Heap.size_update,size_push']
 have hoL:(((s.heap.push (seqObj "list" #[] 0)).update s.heap.objs.size (Obj.mapSeq (·++(as.map Value.ref).toArray))).push (seqObj "list" (as.map Value.ref).toArray 0)).get? (s.heap.objs.size+1)=some (seqObj "list" (as.map Value.ref).toArray 0):=by
  rw[<-hsz];exact Heap.get?_push_size _ rfl
 have keep:∀ b o,s.heap.get? b=some o->(((s.heap.push (seqObj "list" #[] 0)).update s.heap.objs.size (Obj.mapSeq (·++(as.map Value.ref).toArray))).push (seqObj "list" (as.map Value.ref).toArray 0)).get? b=some o:=fun b o e=>by
  have hlt:b<s.heap.objs.size:=Heap.lt_size e;rw[Heap.get?_push_ne _ _ _ (by rw[hsz];exact hAk (hB6 hlt)),Heap.get?_update_ne _ _ _ _ (hAk hlt),Heap.get?_push_ne _ _ _ (hAk hlt)];exact e
 show wpAny _ _ _ _ _ { s with heap:=((s.heap.push (seqObj "list" #[] 0)).update s.heap.objs.size (Obj.mapSeq (·++(as.map Value.ref).toArray))).push (seqObj "list" (as.map Value.ref).toArray 0) };rw[hsz];have tp:=tups_mk (h':=((s.heap.push (seqObj "list" #[] 0)).update s.heap.objs.size (Obj.mapSeq (·++(as.map Value.ref).toArray))).push (seqObj "list" (as.map Value.ref).toArray 0)) I keep ht;refine wpAny_bind (wpAny_holding (wpAny_call_entry slot_list_sort ⟨_,hoL,rfl⟩ entry_list_sort (sort_tupsO hoL tp (by rw[hA1];exact h64) (fun v hv z=>?_) fun out o hp hg hsp eo=>⟨_,rfl,?_⟩) (args_list_sort _)))
 ·obtain⟨b,hb,e⟩:=hAb.mp hv;rw[<-e]at z;injection z with z
  have lt:=tups_lt I ht b hb;exact absurd lt (by rw[z];exact Nat.not_lt_of_le (hAw _))
 rw[hA1]at hg hsp;rw[outs_refs fun i hi=>gd_mem hg hi]at eo;subst eo;have nz:H (s.heap.objs.size+1)=none:=I.hok.fresh (hAw _);obtain⟨e,he⟩:=sortedAll_at s.heap (as.map Value.ref) ((o.toList.map fun i=>as.getD i 0).map Value.ref).toArray;refine wpAny_pure ⟨_,rfl,.ref (s.heap.objs.size+1),_,I.laid (t':=s.toks) (a:=s.heap.objs.size+1) (o:=.lst ((o.toList.map fun i=>as.getD i 0).map V.ref)) (h':=sortedAll s.heap (as.map Value.ref) ((o.toList.map fun i=>as.getD i 0).map Value.ref).toArray) (fun b o eb=>sortedAll_old eb) (hAw _) ⟨?_,(o.toList.map fun i=>as.getD i 0).map Value.ref,e,qDq _,he⟩,rfl,q _ o nz hg hsp⟩;rw[hA1,hA1,gd_len hg];exact hB3 (qAi (by omega))
end
end L2
namespace L2
open PySem PySem.Spec PyProof.Rows PySem.W
open AutoSeq1 (wpAny_loadPart')
open MeetsSeq MeetsSeq2 MeetsSeq3 SeqRoads2
theorem strs_at (h:StrsAre vs x):∀ {i:Nat},i<vs.length->∃ t,vs[i]?=some (.str (x.getD i "") t):=by
 induction h with
 | nil=>intro i hi;exact absurd hi (hCf _)
 | cons p t r ih =>
  intro i hi;cases i with
  | zero=>exact⟨t,rfl⟩
  | succ i=>simpa using ih (i:=i) (by simpa using hi)
theorem drop_at {x:List Str} {i:Nat} (h:i<x.length):x.drop i=x.getD i "" :: x.drop (i+1):=by
 rw[hCw h,hAg,hA2 h];rfl
theorem lt_loopS (l b:Addr) (items items2:Array Value) (n n2:Nat) (dd dd2:Option Addr) (sl sl2:Array (Option Value)) (x y:List Str) (hx:StrsAre items.toList x) (hy:StrsAre items2.toList y):∀ (k i:Nat),items.size - i=k->i<=items.size->i<=items2.size ->
  Meets (Builtin.«list.__eq__.loop» ⟨[.ref l,.ref b,rawInt i,rawInt 0],[]⟩)
   (fun A R s=>(s.heap.get? l=some { cls:=.type "list",dict:=dd,data:=.seq items n,slots:=sl }/\s.heap.get? b=some { cls:=.type "list",dict:=dd2,data:=.seq items2 n2,slots:=sl2 })/\R (.ok (.ret (.bool (ltL (x.drop i) (y.drop i))))) s):=by
 have lx:items.size=x.length:=by rw[<-hx.strs];simp
 have ly:items2.size=y.length:=by rw[<-hy.strs];simp
 intro k
 induction k with
 | zero =>
  intro i hk h1 h2 prog w A R s h;obtain⟨hp,g,d,tk,os⟩:=s;obtain⟨⟨hl,hb⟩,h⟩:=h;have e1:i=items.size:=by omega
  have q1:items[((i:Nat):Int).toNat]?=none:=by simp;omega
  wp_walk using wpAny_loadPart' hl,wpAny_loadPart' hb
  rw[q1]
  wp_walk using wpAny_loadPart' hl,wpAny_loadPart' hb
  have dx:x.drop i=[]:=by simp;omega
  rw[dx]at h;show R (.ok (.ret (.bool (decide (items.size<items2.size))))) _;cases hd:y.drop i with
  | nil =>
   rw[hd]at h;have:y.length<=i:=by simpa using hd
   rw[decide_eq_false (by omega)];exact h
  | cons a r =>
   rw[hd]at h;have:i<y.length:=by
    have:=congrArg List.length hd;rw[hC1,hB1]at this;omega
   rw[decide_eq_true (by omega)];exact h
 | succ k ih =>
  intro i hk h1 h2 prog w A R s h;obtain⟨hp,g,d,tk,os⟩:=s;obtain⟨⟨hl,hb⟩,h⟩:=h;have hlt:i<items.size:=by omega
  obtain⟨t1,q1⟩:=strs_at hx (i:=i) (by simpa using hlt);rw[hAp]at q1;have q1':items[((i:Nat):Int).toNat]?=some (.str (x.getD i "") t1):=q1;have dx:=drop_at (x:=x) (i:=i) (by omega)
  wp_walk using wpAny_loadPart' hl,wpAny_loadPart' hb
  rw[q1'];by_cases hlt2:i<items2.size
  ·obtain⟨t2,q2⟩:=strs_at hy (i:=i) (by simpa using hlt2);rw[hAp]at q2;have q2':items2[((i:Nat):Int).toNat]?=some (.str (y.getD i "") t2):=q2;have dy:=drop_at (x:=y) (i:=i) (by omega);have hc:((i:Int)+1)=((i+1:Nat):Int):=by push_cast;rfl
   rw[dx,dy]at h;unfold ltL at h;rw[q2'];refine wpAny_bind (wpAny_eqBool_str ?_);by_cases e:x.getD i "" = y.getD i ""
   ·rw[if_pos e]at h;rw[decide_eq_true e]
    wp_walk
    rw[hc];exact⟨plainId_quiet plain_eq_loop _,codeAny_builtin entry_eq_loop (by
     rw[Around.under_plainId plain_eq_loop _];exact ih (i+1) (by omega) (by omega) (by omega) prog w A R _ ⟨⟨hl,hb⟩,h⟩)⟩
   ·rw[if_neg e]at h;rw[decide_eq_false e]
    wp_walk using wpAny_loadPart' hl,wpAny_loadPart' hb
    rw[q1',q2'];refine wpAny_bind (richCompare_gives (op:=.Lt) (typeIs_str _ _ _) (typeIs_str _ _ _) F.slot_str_lt F.entry_str_lt (F.args_str_lt_2 _ _) (gives_str_lt _ _ _ _) (fun e=>nomatch e) ?_);exact wpAny_pure h
  ·have q2':items2[((i:Nat):Int).toNat]?=none:=by simp;omega
   rw[q2']
   wp_walk using wpAny_loadPart' hl,wpAny_loadPart' hb
   have dy:y.drop i=[]:=by simp;omega
   rw[dx,dy]at h;show R (.ok (.ret (.bool (decide (items.size<items2.size))))) _;rw[decide_eq_false (by omega)];exact h
theorem list_ltS (l b:Addr) (items items2:Array Value) (n n2:Nat) (dd dd2:Option Addr) (sl sl2:Array (Option Value)) (x y:List Str) (hx:StrsAre items.toList x) (hy:StrsAre items2.toList y) :
  Meets (Builtin.«list.__lt__» ⟨[.ref l,.ref b],[]⟩)
   (fun A R s=>(s.heap.get? l=some { cls:=.type "list",dict:=dd,data:=.seq items n,slots:=sl }/\s.heap.get? b=some { cls:=.type "list",dict:=dd2,data:=.seq items2 n2,slots:=sl2 })/\R (.ok (.ret (.bool (ltL x y)))) s):=by
 intro prog w A R s h;obtain⟨hp,g,d,tk,os⟩:=s;obtain⟨⟨hl,hb⟩,h⟩:=h;have f3:=AutoSeq1.sub_list_list
 wp_walk using wpAny_loadPart' hl,wpAny_loadPart' hb
 exact⟨plainId_quiet plain_eq_loop _,codeAny_builtin entry_eq_loop (by
  rw[Around.under_plainId plain_eq_loop _];exact lt_loopS l b items items2 n n2 dd dd2 sl sl2 x y hx hy _ 0 rfl (hAq _) (hAq _) prog w A R _ ⟨⟨hl,hb⟩,h⟩)⟩
theorem keyLt_lists (hu:A.units<cLine) (hl:s.heap.IsList l items) (hb:s.heap.IsList b items2) (hx:StrsAre items.toList x) (hy:StrsAre items2.toList y)
  (h:Q (ltL x y) s):wpAny (model P w) A (keyLt' oneType' (.ref l) (.ref b)) Q E s:=by
 obtain⟨⟨cls,dd,data,sl⟩,ho,hc,n,hd⟩:=hl;obtain⟨⟨cls2,dd2,data2,sl2⟩,ho2,hc2,n2,hd2⟩:=hb;simp only at hc hd hc2 hd2;subst hc hd hc2 hd2;rw[keyLt'_oneType,oneLt'_eq];simp only[if_true];refine wpAny_bind (wpAny_cRoomFor hu ?_);refine wpAny_bind (wpAny_callSpecialIfBound?_slot (⟨_,ho,rfl⟩:s.TypeIs (.ref l) "list") F.slot_list_lt (call_meets F.slot_list_lt ⟨_,ho,rfl⟩ F.entry_list_lt (F.args_list_lt_2 _ _) (list_ltS l b items items2 n n2 dd dd2 sl sl2 x y hx hy) ⟨⟨ho,ho2⟩,?_⟩));exact wpAny_truthy_bool h
end L2
namespace L2
open PySem PySem.Spec PyProof.Rows PySem.W
def LstS (h:Heap) (v:Value) (t:List Str):Prop:=∃ a its,v = .ref a/\h.IsList a its/\StrsAre its.toList t
theorem lists_mem:∀ {vs:List Value} {ts:List (List Str)},Paired (LstS h) vs ts->∀ v∈vs,∃ t∈ts,LstS h v t
 | _,_,.nil,v,hv=>by cases hv
 | _,_,.cons x r,v,hv=>by
  rcases hAa.mp hv with z | z
  ·subst z;exact⟨_,hA3,x⟩
  ·obtain⟨t,ht,q⟩:=lists_mem r v z;exact⟨t,hA4 _ ht,q⟩
section
variable {P:Program} {w:World} {A:Around} {E:Value->Shared->Prop} {s:Shared}
theorem qF6 {h h':Heap} {a:Addr} (k:∀ b o,b≠a->h.get? b=some o->h'.get? b=some o):∀ {vs:List Value} {ts:List (List Str)} {i:Nat},Paired (LstS h) vs ts->(∀ v∈vs,v≠.ref a)->i<vs.length->∃ (b:Addr) (its:Array Value),h'.IsList b its/\vs.getD i Value.none = .ref b/\StrsAre its.toList (ts.getD i [])
 | _,_,i,.nil,_,hi=>absurd hi (hCf _)
 | _,_,0,@Paired.cons _ _ _ v t l1 l2 hh tt,hn,_=>by
  obtain⟨b,its,rfl,⟨o,g,c,n,d⟩,st⟩:=hh;have nb:b≠a:=fun z=>hn _ hA3 (by rw[z])
  exact⟨b,its,⟨o,k b o nb g,c,n,d⟩,rfl,st⟩
 | _,_,i+1,@Paired.cons _ _ _ v t l1 l2 hh tt,hn,hi=>qF6 (i:=i) k tt (fun u hu=>hn u (hA4 _ hu)) (by simpa using hi)
theorem sort_listsO (hu:A.units<cLine) (ho:s.heap.get? a=some (seqObj "list" vs.toArray n)) (ht:Paired (LstS s.heap) vs ts) (h64:vs.length<64) (hna:∀ v∈vs,v≠.ref a)
  (h:∀ (out:List Value) (p:Array Nat),out.Perm vs->Gd vs.length p->SPk (ltI ts) p vs.length->out=p.toList.map (fun i=>vs.getD i Value.none)->R (.done (.ret .none)) { s with heap:=sortedHeap s.heap a vs out.toArray }):wpAny (model P w) A (Builtin.«list.sort» ⟨[.ref a],[]⟩) R E s:=by
 rw[list_sort_plain];have ha:a<s.heap.objs.size:=Heap.lt_size ho;refine wpAny_bind (listItems_at ho rfl (wpAny_bind (listUpdate_at ho rfl ?_ (by rw[hAc,sizeLine_eq];omega) (hAq _))));obtain⟨e1,ho1⟩:∃ e1,(s.heap.update a (Obj.mapSeq fun _=>#[])).get? a=some (seqObj "list" #[] e1):=⟨_,get?_update_seq ho (fun _=>#[])⟩;refine wpAny_bind (seqEpoch_at ho1 rfl (wpAny_bind (wpAny_newTuple ?_ (by show vs.length<=_;rw[sizeLine_eq];omega))));refine wpAny_bind (wpAny_newList ?_ (hAq _));refine wpAny_holding ?_;have ho6:(((s.heap.update a (Obj.mapSeq fun _=>#[])).push (seqObj "tuple" vs.toArray 0)).push (seqObj "list" #[] 0)).get? a=some (seqObj "list" #[] e1):=Heap.get?_push_of_some _ (Heap.get?_push_of_some _ ho1);have keep:∀ b o,b≠a->s.heap.get? b=some o->(((s.heap.update a (Obj.mapSeq fun _=>#[])).push (seqObj "tuple" vs.toArray 0)).push (seqObj "list" #[] 0)).get? b=some o:=fun b o hb e=>by
  refine Heap.get?_push_of_some _ (Heap.get?_push_of_some _ ?_);rw[Heap.get?_update_ne _ _ _ _ hb];exact e
 show wpAny (model P w) A _ R E { s with heap:=((s.heap.update a (Obj.mapSeq fun _=>#[])).push (seqObj "tuple" vs.toArray 0)).push (seqObj "list" #[] 0) };dsimp only;have fin:∀ (st':SortSt) (out:List Value),(arrOf st').map (·.2)=out.toArray->failedOf st'=none->out.Perm vs->(∃ p,Gd vs.length p/\SPk (ltI ts) p vs.length/\out=p.toList.map (fun i=>vs.getD i Value.none))->wpAny (model P w) A (do
   let touched:=(← seqEpoch a) != e1
   Builtin.List.listUpdate (.ref a) fun _=>(arrOf st').map (·.2)
   if let some e:=failedOf st' then rule "list.sort.comparison-raised";throw e
   if touched then rule "list.sort.modified";raiseError "ValueError" "list modified during sort"
   ret .none) R E { s with heap:=((s.heap.update a (Obj.mapSeq fun _=>#[])).push (seqObj "tuple" vs.toArray 0)).push (seqObj "list" #[] 0) }:=by
  intro st' out e hf hp ⟨p,hg,hsp,ep⟩;refine wpAny_bind (seqEpoch_at ho6 rfl ?_);refine wpAny_bind (listUpdate_at ho6 rfl ?_ (hAq _) (by rw[e,hAc,hp.length_eq,sizeLine_eq];omega));rw[hf];simp only[bne_self_eq_false,hCh,if_false];rw[e];exact wpAny_pure (h out p hp hg hsp ep)
 by_cases h2:vs.toArray.size<2
 ·rw[if_pos h2,if_pos h2];refine wpAny_bind (wpAny_pure ?_);rw[StateT.run_pure];refine wpAny_bind (wpAny_pure (fin _ vs ?_ rfl (hCm _) ⟨Rng vs.length,Array.Perm.refl _,fun i j hij hj=>absurd hj (by rw[hAc]at h2;omega),(qC6 vs).symm⟩));show(vs.toArray.zip vs.toArray).map (·.2)=vs.toArray;apply hDl.mp;rw[hDm,hDn];exact hD7 (hA5 _)
 ·rw[if_neg h2,if_neg h2];have hl2:2<=vs.length:=by rw[hAc]at h2;omega
  refine wpAny_bind (kas_kind (T:=.type "list") hl2 (fun v hv=>?_) (by decide) (by decide) ?_)
  ·obtain⟨t,_,b,its,rfl,⟨o,g,c,_⟩,st⟩:=lists_mem ht v hv;have nb:b≠a:=fun z=>hna _ hv (by rw[z])
   exact kitAt_ty _ _ ⟨o,keep b o nb g,c⟩
  refine wpAny_bind (wpAny_mono (kat_run (ks:=vs) (Q:=fun st' s'=>s'={ s with heap:=((s.heap.update a (Obj.mapSeq fun _=>#[])).push (seqObj "tuple" vs.toArray 0)).push (seqObj "list" #[] 0) }/\∃ out:List Value,(arrOf st').map (·.2)=out.toArray/\failedOf st'=none/\out.Perm vs/\∃ p,Gd vs.length p/\SPk (ltI ts) p vs.length/\out=p.toList.map (fun i=>vs.getD i Value.none)) (G:=fun p s'=>s'={ s with heap:=((s.heap.update a (Obj.mapSeq fun _=>#[])).push (seqObj "tuple" vs.toArray 0)).push (seqObj "list" #[] 0) }/\Gd vs.length p/\SPk (ltI ts) p vs.length) rfl hl2 h64 (fun p st' s' a1 a2 a3 a4=>?_) ?_) ?_ fun _ _ e=>e)
  ·obtain⟨rfl,g,sp⟩:=a4;refine⟨rfl,_,kat_snds rfl a2,a3,?_,p,g,sp,rfl⟩;have q:=(hBc.mp g).map fun i=>vs.getD i Value.none
   exact q.trans (List.Perm.of_eq (qC6 vs))
  ·refine sk_sort (ltI_ord ts) (fun i j C hi hj hC=>?_) (by omega) fun p g sp=>⟨rfl,g,sp⟩
   obtain⟨x1,y1,z1,v1,w1⟩:=qF6 keep ht hna hi;obtain⟨x2,y2,z2,v2,w2⟩:=qF6 keep ht hna hj;show wpAny _ _ (keyLt' _ (vs.getD i Value.none) (vs.getD j Value.none)) C _ _;rw[v1,v2];exact keyLt_lists hu z1 z2 w1 w2 hC
  ·rintro⟨⟨⟩,st'⟩ s' ⟨rfl,out,q1,q2,q3,q4⟩;exact fin st' out q1 q2 q3 q4
end
section
variable {X:Cx}
theorem lists_mk (I:Inv X pins σ H s) (k:∀ b o,s.heap.get? b=some o->h'.get? b=some o):∀ {as:List Addr} {ts:List (List Str)},Paired (fun a t=>SqL X.K H a (t.map V.str)) as ts->Paired (LstS h') (as.map Value.ref) ts
 | _,_,.nil=>.nil
 | _,_,.cons h t=>by
  obtain⟨its,rv,⟨o,n,e,c,_,dt⟩,_⟩:=I.list h;exact .cons ⟨_,its.toArray,rfl,⟨o,k _ _ e,c,_,dt⟩,by simpa using qCb rv⟩ (lists_mk I k t)
theorem lists_lt (I:Inv X pins σ H s):∀ {as:List Addr} {ts:List (List Str)},Paired (fun a t=>SqL X.K H a (t.map V.str)) as ts->∀ b∈as,b<s.heap.objs.size
 | _,_,.nil,b,hb=>by cases hb
 | _,_,.cons h t,b,hb=>by
  rcases hAa.mp hb with z | z
  ·subst z;obtain⟨its,rv,⟨o,n,e,_⟩,_⟩:=I.list h;exact Heap.lt_size e
  ·exact lists_lt I t b z
theorem call_sortedLO (hu:X.A.units+2<cLine):qA6 X (.builtin "sorted") (fun xs H Q=>∃ (p:Addr) (as:List Addr) (ts:List (List Str)),xs=[.ref p]/\SqL X.K H p (as.map V.ref)/\Paired (fun a t=>SqL X.K H a (t.map V.str)) as ts/\as.length<64/\∀ (r:Addr) (o:Array Nat),H r=none->Gd as.length o->SPk (ltI ts) o as.length->Q (.ref r) (upd H r (.lst ((o.toList.map fun i=>as.getD i 0).map V.ref)))):=by
 intro pins s σ H xs us Q I r h;obtain⟨p,as,ts,rfl,hq,ht,h64,q⟩:=h;obtain⟨u,rfl,rx⟩:=qCa r;cases rx;obtain⟨its,rv,pl,hz⟩:=I.list hq;have ei:=refs_of rv;subst ei;refine Calls.call_function_entry kind_sorted plain_sorted entry_sorted (args_sorted1 _) ?_;unfold Builtin.«sorted»;refine wpAny_bind (m:=checkCount "sorted" 1 1 _) (wpAny_pure (wpAny_bind (collect_list pl.isList ?_ (by rw[hA1,sizeLine_eq];omega))));refine wpAny_bind (wpAny_newList ?_ (by rw[hA1,sizeLine_eq];omega));have hsz:((s.heap.push (seqObj "list" #[] 0)).update s.heap.objs.size (Obj.mapSeq (·++(as.map Value.ref).toArray))).objs.size=s.heap.objs.size+1:=by rw[Heap.size_update,size_push']
 have hoL:(((s.heap.push (seqObj "list" #[] 0)).update s.heap.objs.size (Obj.mapSeq (·++(as.map Value.ref).toArray))).push (seqObj "list" (as.map Value.ref).toArray 0)).get? (s.heap.objs.size+1)=some (seqObj "list" (as.map Value.ref).toArray 0):=by
  rw[<-hsz];exact Heap.get?_push_size _ rfl
 have keep:∀ b o,s.heap.get? b=some o->(((s.heap.push (seqObj "list" #[] 0)).update s.heap.objs.size (Obj.mapSeq (·++(as.map Value.ref).toArray))).push (seqObj "list" (as.map Value.ref).toArray 0)).get? b=some o:=fun b o e=>by
  have hlt:b<s.heap.objs.size:=Heap.lt_size e;rw[Heap.get?_push_ne _ _ _ (by rw[hsz];exact hAk (hB6 hlt)),Heap.get?_update_ne _ _ _ _ (hAk hlt),Heap.get?_push_ne _ _ _ (hAk hlt)];exact e
 show wpAny _ _ _ _ _ { s with heap:=((s.heap.push (seqObj "list" #[] 0)).update s.heap.objs.size (Obj.mapSeq (·++(as.map Value.ref).toArray))).push (seqObj "list" (as.map Value.ref).toArray 0) };rw[hsz];have tp:=lists_mk (h':=((s.heap.push (seqObj "list" #[] 0)).update s.heap.objs.size (Obj.mapSeq (·++(as.map Value.ref).toArray))).push (seqObj "list" (as.map Value.ref).toArray 0)) I keep ht;refine wpAny_bind (wpAny_holding (wpAny_call_entry slot_list_sort ⟨_,hoL,rfl⟩ entry_list_sort (sort_listsO ?hu hoL tp (by rw[hA1];exact h64) (fun v hv z=>?_) fun out o hp hg hsp eo=>⟨_,rfl,?_⟩) (args_list_sort _)))
 case hu=>omega
 ·obtain⟨b,hb,e⟩:=hAb.mp hv;rw[<-e]at z;injection z with z
  have lt:=lists_lt I ht b hb;exact absurd lt (by rw[z];exact Nat.not_lt_of_le (hAw _))
 rw[hA1]at hg hsp;rw[outs_refs fun i hi=>gd_mem hg hi]at eo;subst eo;have nz:H (s.heap.objs.size+1)=none:=I.hok.fresh (hAw _);obtain⟨e,he⟩:=sortedAll_at s.heap (as.map Value.ref) ((o.toList.map fun i=>as.getD i 0).map Value.ref).toArray;refine wpAny_pure ⟨_,rfl,.ref (s.heap.objs.size+1),_,I.laid (t':=s.toks) (a:=s.heap.objs.size+1) (o:=.lst ((o.toList.map fun i=>as.getD i 0).map V.ref)) (h':=sortedAll s.heap (as.map Value.ref) ((o.toList.map fun i=>as.getD i 0).map Value.ref).toArray) (fun b o eb=>sortedAll_old eb) (hAw _) ⟨?_,(o.toList.map fun i=>as.getD i 0).map Value.ref,e,qDq _,he⟩,rfl,q _ o nz hg hsp⟩;rw[hA1,hA1,gd_len hg];exact hB3 (qAi (by omega))
end
end L2
namespace L2
open PySem PySem.Spec PyProof.Rows
def LOb (xs:List V) (o:Obj):Prop:=xs.length<=sizeLine/\∃ (its:List Value) (n:Nat),qBa xs its/\o={ cls:=.type "list",data:=.seq its.toArray n }
def listBody (elt:Expr) (acc:Addr) (env:Env):Sem Unit:=do
 let _ ← call (.builtin "list.append") [.ref acc,<-eval elt env]
def tApp (te:TE):TB (List V):=fun xs σ H Q=>te σ H fun v H'=>xs.length<sizeLine/\Q (xs++[v]) σ H'
theorem pbd_list (xxe:X.xe=fun _ _=>False) (he:PE X elt te):PBd X LOb acc (listBody elt acc X.env) (tApp te):=by
 intro pins s σ H a o Q I np hx ha h;have h0:=he _ s σ H _ I h;rw[xxe]at h0;unfold listBody;refine wpAny_bind (thn h0 fun v s1 ⟨y,H1,I1,r1,hl,q⟩=>wpAny_bind ?_);have pa:=I1.pin (acc,o) (hA6 _ hA3);obtain⟨hz,its,n,rv,rfl⟩:=ha;have hlen:=rv.length;refine wpAny_list_append_plain (items:=its.toArray) ⟨n,pa.1⟩ (fun h' pl sb=>?_) (by rw[hAc];omega);obtain⟨k',pl⟩:=pl;refine wpAny_pure ⟨a++[y],_,σ,H1,I1.repin (t':=s1.toks) (fun b u hb e=>(sb.2 b hb).trans e) pl (fun v z=>by cases z) hx np,⟨by rw[hAd];show _+1<=_;omega,its++[v],k',rv.append (.cons r1 .nil),by simp⟩,q⟩
section
variable {P:Program} {w:World} {target iter target2 iter2 elt:Expr} {ifs ifs2:List Expr} {scope:Scope} {pos:Pos}
theorem gc_list2:GC P w (.ListComp elt [⟨target,iter,ifs,0⟩,⟨target2,iter2,ifs2,0⟩] scope pos) target iter ifs scope iter.pos (newList []) (qC4 (.ListComp elt [⟨target,iter,ifs,0⟩,⟨target2,iter2,ifs2,0⟩] scope pos) iter2) (seqObj "list" #[] 0) ([]:List V) LOb (fun _ xs=>.lst xs) where
 new:=fun A s Q E h=>wpAny_newList h (hAq _)
 nf:=rfl
 nc:=fun a o h v z=>by
  obtain⟨_,its,n,_,rfl⟩:=h;cases z
 hA0:=⟨hAq _,[],0,.nil,rfl⟩
 hHO:=fun H' h acc a o hb x e=>by
  obtain⟨hz,its,n,rv,rfl⟩:=x;exact⟨hz,its,n,rv,e⟩
 cl:=⟨_,rfl⟩
 dnS:=fun _ _ _ _ _ _ _ h=>h
 dnL:=fun _ _ _ _ _ _ _ h=>h
 q:=fun _ _ _=>rfl
 sh:=fun it acc env=>by
  unfold qBz qC4;simp only[bind_assoc];rfl
end
end L2
namespace L2
open PySem PySem.Spec PyProof.Rows PySem.W
abbrev Srt (a:List (List Str)):Prop:=a.Pairwise fun x y=>ltL y x=false
theorem getD_rangeL (ts:List (List Str)):(List.range ts.length).map (fun i=>ts.getD i [])=ts:=by
 refine hCn fun i=>?_
 by_cases hi:i<ts.length
 ·rw[hAh,List.getElem?_range hi,hA2 hi];show some (ts.getD i [])=_;rw[hAg,hA2 hi];rfl
 ·rw[hBe (by simp;omega),hBe (by omega)]
theorem qG0 (g:Gd ts.length o) (sp:SPk (ltI ts) o ts.length):Srt (o.toList.map fun i=>ts.getD i [])/\(o.toList.map fun i=>ts.getD i []).Perm ts:=by
 have sz:=g.size;refine⟨?_,?_⟩
 ·rw[Srt,List.pairwise_iff_getElem];intro i j hi hj hij;rw[hA1]at hi hj;have h:=sp i j hij (by simpa [sz] using hj);rw[List.getElem_map,List.getElem_map];have e:∀ k (hk:k<o.toList.length),o.getD k 0=o.toList[k]:=fun k hk=>by
   have hk':k<o.size:=by simpa using hk
   simp[Array.getD,hk']
  rw[e i hi,e j hj]at h;exact h
 ·have q:=(hBc.mp g).map fun i=>ts.getD i []
  exact q.trans (List.Perm.of_eq (getD_rangeL ts))
end L2
namespace L2
open PySem PySem.Spec PyProof.Rows
theorem pe_lc {X:Cx} {target iter elt:Expr} {ifs:List Expr} {scope sc:Scope} {pos:Pos} {N N':List Str} {sub:List (Option Nat)} {wi:TI} {g:TG} {tt:TT} {te:TE} (hN:X.N=N) (hsc:X.env.scope=sc)
  (O:CmpOk N sc N' scope sub) (hc:X.calm=true) (hi:PI X target iter wi)
  (B:∀ C s H fp,PG (qBp X scope N' C s H fp) target g/\PTs (qBp X scope N' C s H fp) ifs tt/\PE (qBp X scope N' C s H fp) elt te)
  (hs:∀ x,foldedSetIterable iter X.env x=pure x:=by intro _;rfl):PE X (.ListComp elt [⟨target,iter,ifs,0⟩] scope pos) (tComp sub wi g tt te) :=
 pe_comp hc (by rw[hN,hsc];exact O) hi B hs
theorem ps_lc {X:Cx} {target iter elt:Expr} {ifs:List Expr} {scope sc:Scope} {pos:Pos} {N N':List Str} {sub:List (Option Nat)} {wi:TI} {g:TG} {tt:TT} {te:TE} {i:Nat} {y:Str} {py spos:Pos} (hN:X.N=N) (hsc:X.env.scope=sc)
  (O:CmpOk N sc N' scope sub) (hc:X.calm=true) (hi:PI X target iter wi)
  (B:∀ C s H fp,PG (qBp X scope N' C s H fp) target g/\PTs (qBp X scope N' C s H fp) ifs tt/\PE (qBp X scope N' C s H fp) elt te)
  (nd:X.N.Nodup) (hy:X.N[i]?=some y) (hx:Loc X.env.scope y)
  (hsw:swapsWith (.ListComp elt [⟨target,iter,ifs,0⟩] scope pos) (some (.Name y py)) spos.line X.env=pure true:=by rfl)
  (hs:∀ x,foldedSetIterable iter X.env x=pure x:=by intro _;rfl) (hf:X.fn y=true\/X.env.scope.names.lookup y=some .local:=by first | exact .inl rfl | exact .inr rfl | assumption) :
  PS X (.Assign [.Name y py] (.ListComp elt [⟨target,iter,ifs,0⟩] scope pos) spos) (tAsg (tComp sub wi g tt te) (gName i)) :=
 ps_comp hc (by rw[hN,hsc];exact O) hi B nd hy hx hsw hs hf
end L2
namespace My
open PySem L2
structure Cl (P:Program) (w:World) (K:PySem.W.Frag) (mg:Str->Option Value) (base:Heap) (CX:CXT) (k:Nat) (f:Addr) (fd:FuncData) (ps:List Str) (sp:Sp) (n:Str):Prop where
 g:FnOk P w K mg base CX k f fd ps sp
 b:Binds K fd ps []
 k:PySem.W.keepIn K (.ref f)=true
 m:mg n=some (.ref f)
theorem qAy {X:Cx} {CX:CXT} {k:Nat} {f:Addr} {fd:FuncData} {ps:List Str} {sp:Sp} {x:Str} {dvs:List V} {E:XK} {e:Expr} {es:List Expr} {t:TA} {p pos:Pos} (G:Cl X.prog X.w X.K X.mg X.base CX k f fd ps sp x) (hr:Room k X.A) (hg:Gl X x) (hd:qBa dvs []) (hx:Passes CX X E)
  (ha:PA X (e :: es) t) (hdb:(x == ("__debug__" : Str))=false:=by decide) (he:starEach (e :: es) X.env=(false,eval e X.env) :: starEach es X.env:=by rfl) (hpl:(backTo pos (starEach es X.env)).any (·.1)=false:=by rfl):PE X (.Call (.Name x p) (e :: es) [] pos) (tCall sp dvs E t):=pe_call G.g hr hg G.m G.k G.b hd hx ha hdb he hpl
def top (i:Nat):Stmt:=PySem.Challenge.pw_roundsalone_k24_no_walks.main.body.getD i (.Pass ⟨0,0,0,0⟩)
abbrev sMask:Stmt:=top 11
abbrev qFw:Stmt:=top 12
abbrev sLess:Stmt:=top 13
abbrev sRedu:Stmt:=top 14
abbrev sSums:Stmt:=top 15
abbrev sLead:Stmt:=top 16
abbrev sCrM:Stmt:=top 17
abbrev sTabF:Stmt:=top 18
abbrev qFu:Stmt:=top 20
abbrev qGt:Stmt:=top 21
abbrev sTies:Stmt:=top 23
abbrev qDk:Stmt:=top 24
abbrev sStar:Stmt:=top 25
abbrev qFv:Stmt:=top 26
abbrev qEu:Stmt:=top 27
abbrev qEe:Stmt:=top 28
abbrev sMet:Stmt:=top 29
abbrev qFt:Stmt:=top 30
abbrev sOne:Stmt:=top 32
abbrev qFs:Stmt:=top 33
abbrev qEt:Stmt:=top 35
abbrev sRMas:Stmt:=top 36
abbrev qDj:Stmt:=top 37
abbrev sCell:Stmt:=top 39
abbrev sBig:Stmt:=top 40
abbrev qFx:Stmt:=top 41
abbrev sEnds:Stmt:=top 42
abbrev sNet:Stmt:=top 43
abbrev sLRow:Stmt:=top 44
abbrev sLCan:Stmt:=top 45
abbrev qGs:Stmt:=top 46
abbrev qEs:Stmt:=top 47
abbrev sLaw:Stmt:=top 48
def Ext (H H':Hp):Prop:=∀ b o,H b=some o->H' b=some o
theorem Ext.refl (H:Hp):Ext H H:=fun _ _ h=>h
theorem Ext.trans {H H1 H2:Hp} (a:Ext H H1) (b:Ext H1 H2):Ext H H2:=fun c o h=>b c o (a c o h)
theorem Ext.new {H:Hp} {p:Addr} (h:H p=none) (o:HO):Ext H (upd H p o):=fun b u q=>by rw[qAe (qAf q h)];exact q
theorem Ext.none {H H':Hp} (e:Ext H H') {p:Addr} (h:H' p=none):H p=none:=by
 cases q:H p with
 | none=>rfl
 | some o=>rw[e p o q]at h;cases h
theorem Ext.sqL {K:PySem.W.Frag} {H H':Hp} {a:Addr} {xs:List V} (e:Ext H H') (h:SqL K H a xs):SqL K H' a xs:=by
 rcases h with (h | ⟨o,h⟩) | h
 ·exact .inl (.inl (e _ _ h))
 ·exact .inl (.inr ⟨o,e _ _ h⟩)
 ·exact .inr h
def spCell (K:PySem.W.Frag):Sp:=fun vs H Q _=>∃ (a:Addr) (ns:List Int) (k:Int),vs=[.ref a,.int k]/\SqL K H a (ns.map V.int)/\0<=k/\∀ v,Q (.int v) H
section
variable {P:Program} {w:World} {K:PySem.W.Frag} {mg:Str->Option Value} {base:Heap} {f f1:Addr} {fd fd1:FuncData}
theorem scCell:FnScope ["_law_script","_law_k"] ["_law_script","_law_k"] (qAb sCell):=⟨rfl,rfl,rfl,by decide +kernel,rfl,by decide +kernel,by decide +kernel⟩
theorem ok_cell (F:Fun K "_law_cell_at" "_law_cell_at" sCell f fd) (ml:mg "len" = none):FnOk P w K mg base CX0 1 f fd ["_law_script","_law_k"] (spCell K):=by
 refine F.ok scCell (fun vs H Q E h=>?_) (fun cdv A outer s H vs Q E hr h=>?_)
 ·obtain⟨a,ns,k,rfl,_⟩:=h;rfl
 obtain⟨a,ns,k,rfl,hS,h0,q⟩:=h;refine⟨_,pss_cons (qCq (qAp op_lt (pv 1) (qAj qAq rfl ml hB9 (qAa (pv 0) qAc)) (qAw _)) (qAh (qAu (pe_ix ix_list (pv 0) (pv 1) (fun _ _=>rfl)))) qBl) (qAh (qAu qAd)),?_⟩;try dsimp only[Cx.wish,qB5]
 refine⟨_,rfl,_,rfl,a,_,rfl,.inl hS,_,_,rfl,rfl,_,rfl,?_⟩;refine qDa (fun c=>?_) (fun c=>q 0);have c':k<(((ns.map V.int).length:Nat):Int):=of_decide_eq_true c;rw[hA1]at c';have hk:k.toNat<ns.length:=by omega
 have hv:atI (ns.map V.int) ((k.toNat:Nat):Int)=some (.int ns[k.toNat]):=atI_nat (by rw[hAh,hA2 hk] <;> rfl);rw[hD2 h0]at hv;exact⟨_,rfl,_,rfl,a,_,_,_,rfl,rfl,hS,hv,q _⟩
end
end My
namespace My
open PySem L2
theorem qAr:bootBuiltins "isinstance" = some (.builtin "isinstance"):=by decide +kernel
theorem kit_same (K:PySem.W.Frag) (t:Value):PySem.W.kitOne K t t=some true:=by unfold PySem.W.kitOne;rw[if_pos (beq_self_eq_true t)]
theorem boot_abs':bootBuiltins "abs" = some (.builtin "abs"):=by decide +kernel
theorem boot_range':bootBuiltins "range" = some (.type "range"):=by decide +kernel
theorem boot_any':bootBuiltins "any" = some (.builtin "any"):=by decide +kernel
end My
namespace My
open PySem L2
section
variable {σ0:St} {g:TG} {tt:TT} {te:TE} {Q:List V->Hp->Prop} {H1:Hp}
theorem turns_pure {K:PySem.W.Frag} {a:Addr} {xs:List V} (f:V->Option V) (hS:SqL K H1 a xs) (hz:xs.length<=sizeLine)
  (hs:∀ x∈xs,∀ C:Option V->Hp->Prop,C (f x) H1->g x σ0 H1 fun σ2 H2=>Sle σ0 σ2/\tt σ2 H2 fun b H3=>if b=true then te σ2 H3 (fun v H4=>C (some v) H4) else C none H3)
  (hd:Q (xs.filterMap f) H1):qE0 (Itl K a) σ0 g tt te Q H1:=by
 refine qAt (xs:=xs) (fun i ys H=>H=H1/\ys=(xs.take i).filterMap f) ⟨rfl,by simp⟩ (fun i ys H _ h=>by rw[h.1];exact hS) ?_ ?_
 ·rintro i x ys H hx ⟨rfl,rfl⟩;have hi:i<xs.length:=(hAr.mp hx).1;have hm:x∈xs:=hAu hx;have tk:(xs.take (i+1)).filterMap f=(xs.take i).filterMap f++(f x).toList:=by
   rw[List.take_add_one,hx,hDe];cases e:f x <;> simp[e]
  have hl:((xs.take i).filterMap f).length<sizeLine:=by
   have h1:=List.length_filterMap_le f (xs.take i);rw[hAj]at h1;omega
  refine hs x hm (fun o H4=>match o with | some v=>((xs.take i).filterMap f).length<sizeLine/\Nxt xs.length i _ ((xs.take i).filterMap f++[v]) H4 | none=>Nxt xs.length i _ ((xs.take i).filterMap f) H4) ?_;cases e:f x with
  | none=>exact nxt hi ⟨rfl,by rw[tk,e];simp⟩
  | some v=>exact⟨hl,nxt hi ⟨rfl,by rw[tk,e];simp⟩⟩
 ·rintro ys H ⟨rfl,rfl⟩;rw[hA8 (hA5 _)];exact hd
end
theorem qEn (n:Str):∀ other:List Str,inV (.str n) (other.map V.str)=decide (n∈other)
 | []=>by simp[inV]
 | x :: r=>by
  have ih:=qEn n r;unfold inV at ih ⊢;rw[hAm,hD1,ih];show(x == n || decide (n∈r))=_;by_cases e:n=x
  ·subst e;simp
  ·have e':¬x=n:=fun z=>e z.symm
   simp[e,e']
theorem flat_strs:∀ other:List Str,(other.map V.str).all flatV=true:=fun other=>by
 rw[hCu];intro x hx;obtain⟨y,_,rfl⟩:=hAb.mp hx;rfl
def LsS (H:Hp) (a:Addr) (ss:List Str):Prop:=H a=some (.lst (ss.map V.str))
end My
namespace My
open PySem L2
abbrev sg:Str:="abcdefghijklmnopqrstuvwxyz0123456789"
def sgC (n:Nat):Nat:=sg.cps.toList.getD n 0
theorem sg_len:sg.cps.toList.length=36:=by decide +kernel
theorem sg_nd:sg.cps.toList.Nodup:=by decide +kernel
theorem sg_small:∀ c∈sg.cps.toList,c<128:=by decide +kernel
theorem sg_at {i:Int} (h0:0<=i) (h1:i<36):atI sg.cps.toList i=some (sgC i.toNat):=by
 have hk:i.toNat<sg.cps.toList.length:=by rw[sg_len];omega
 have:=atI_nat (xs:=sg.cps.toList) (j:=i.toNat) (v:=sgC i.toNat) (by
  unfold sgC;rw[hAg,hA2 hk];rfl)
 rw[hD2 h0]at this;exact this
theorem sgC_inj {i j:Nat} (hi:i<36) (hj:j<36) (e:sgC i=sgC j):i=j:=by
 have hi':i<sg.cps.toList.length:=by rw[sg_len];exact hi
 have hj':j<sg.cps.toList.length:=by rw[sg_len];exact hj
 unfold sgC at e;rw[hAg,hAg,hA2 hi',hA2 hj']at e;exact(List.getElem_inj sg_nd).mp e
theorem sgC_small {i:Nat} (hi:i<36):sgC i<128:=by
 have hi':i<sg.cps.toList.length:=by rw[sg_len];exact hi
 unfold sgC;rw[hAg,hA2 hi'];exact sg_small _ (hBw hi')
def Sm (x:Str):Prop:=∀ c∈x.cps.toList,c<128
theorem Sm.ok {x:Str} (h:Sm x):PyData.strOk x=true:=by
 unfold PyData.strOk;rw[Array.all_eq_true_iff_forall_mem];intro c hc;have:=h c (by simpa using hc);exact decide_eq_true (by omega)
theorem Sm.app {x y:Str} (h:Sm x) (h':Sm y):Sm (x++y):=fun c hc=>by
 rw[Str.cps_append,hBh,hAe]at hc;exact hc.elim (h c) (h' c)
theorem Sm.one {c:Nat} (h:c<128):Sm ⟨#[c]⟩:=fun d hd=>by
 have:d=c:=by simpa using hd
 omega
theorem Sm.nil:Sm "":=fun c hc=>by
 have:c∈([]:List Nat):=hc;cases this
theorem Sm.slice {x:Str} (h:Sm x) (l u:Option Int):Sm (Txt.slice x l u):=fun c hc=>by
 unfold Txt.slice at hc;split at hc
 ·exact h c hc
 ·simp only[List.mem_filterMap]at hc;obtain⟨i,_,hi⟩:=hc;exact h c (by simpa using Array.mem_of_getElem? hi)
end My
namespace My
open PySem L2
def qFf (r:List Str):PyData:=.list (r.map .str)
def rowsD (F:List (List Str)):PyData:=.list (F.map qFf)
theorem eqv_strs:∀ a b:List Str,PyData.eqvAll (a.map .str) (b.map .str)=decide (a=b)
 | [],[]=>rfl
 | [],_ :: _=>rfl
 | _ :: _,[]=>rfl
 | x :: a,y :: b=>by
  show(x == y && PyData.eqvAll (a.map .str) (b.map .str))=_;rw[eqv_strs a b];by_cases e:x=y
  ·subst e;simp
  ·simp[e]
theorem qDn (a b:List Str):PyData.eqv (qFf a) (qFf b)=decide (a=b):=eqv_strs a b
def SOk (r:List Str):Prop:=∀ x∈r,PyData.strOk x=true
theorem lay_strs:∀ {r:List Str},SOk r->PyData.canLayAll0 (r.map .str)=true/\PyData.depthAll (r.map .str)=0
 | [],_=>⟨rfl,rfl⟩
 | x :: r,h=>by
  obtain⟨h1,h2⟩:=lay_strs (r:=r) fun y hy=>h y (hA4 _ hy)
  refine⟨?_,?_⟩
  ·show(PyData.strOk x && PyData.canLayAll0 (r.map .str))=true;rw[h1,h x hA3];rfl
  ·show max 0 (PyData.depthAll (r.map .str))=0;rw[h2];rfl
theorem qBh {r:List Str} (h:SOk r):SeqAt.shaped (qFf r)=true:=by
 obtain⟨h3,h4⟩:=lay_strs h;show(PyData.canLayAll0 (r.map .str) && decide (PyData.depthAll (r.map .str)+1<=64))=true;rw[h3,h4];rfl
theorem dr_strs {K:PySem.W.Frag} {H:Hp}:∀ r:List Str,DRs K H (r.map V.str) (r.map .str)
 | []=>.nil
 | x :: r=>.cons (.str x) (dr_strs r)
theorem qDf {K:PySem.W.Frag} {H:Hp} {a:Addr} {r:List Str} (h:LsS H a r):DR K H (.ref a) (qFf r):=.lst (SqL.of h) (dr_strs r)
end My
namespace My
open PySem L2
theorem qEv {k:Nat} {A:Around} (hr:Room k A):A.units+64<cLine:=by have:=hr.un;omega
theorem qBj:bootBuiltins "list" = some (.type "list"):=by decide +kernel
theorem qA9:bootBuiltins "sorted" = some (.builtin "sorted"):=by decide +kernel
theorem boot_all':bootBuiltins "all" = some (.builtin "all"):=by decide +kernel
theorem boot_set':bootBuiltins "set" = some (.type "set"):=by decide +kernel
theorem boot_tuple':bootBuiltins "tuple" = some (.type "tuple"):=by decide +kernel
end My
namespace My
open PySem L2
theorem qBy {α:Type} {P:List α->Prop} (h0:P []) (hs:∀ l t,P l->P (l++[t])) (l:List α):P l:=by
 have:∀ r:List α,P r.reverse:=fun r=>by
  induction r with
  | nil=>exact h0
  | cons a r ih=>rw[List.reverse_cons];exact hs _ _ ih
 have q:=this l.reverse
 rwa [List.reverse_reverse]at q
abbrev Tr:=Str×Str×Str
abbrev lab (f:Str->Str) (t:Tr):Str->Str:=fun p=>if f p=f t.2.2 then f t.2.1 else f p
def homF (net:List Tr):Str->Str:=net.foldl lab id
theorem qCg (net:List Tr) (t:Tr):homF (net++[t])=lab (homF net) t:=by unfold homF;rw[hCo];rfl
def isPt (net:List Tr) (x:Str):Prop:=∃ t∈net,x=t.2.1\/x=t.2.2
theorem qD2 {net:List Tr} {t:Tr} {x:Str}:isPt (net++[t]) x↔isPt net x\/x=t.2.1\/x=t.2.2:=by
 unfold isPt;constructor
 ·rintro⟨u,hu,h⟩;rcases hAe.mp hu with z | z
  ·exact .inl ⟨u,z,h⟩
  ·rw[hA7]at z;subst z;exact .inr h
 ·rintro(⟨u,hu,h⟩ | h)
  ·exact⟨u,hAn _ hu,h⟩
  ·exact⟨t,hA6 _ (hA7.mpr rfl),h⟩
theorem homF_tie (net:List Tr):∀ t∈net,homF net t.2.1=homF net t.2.2:=by
 refine qBy (P:=fun net=>∀ t∈net,homF net t.2.1=homF net t.2.2) (fun t h=>by cases h) (fun l t ih=>?_) net;intro u hu;rw[qCg];show(if homF l u.2.1=homF l t.2.2 then homF l t.2.1 else homF l u.2.1)=if homF l u.2.2=homF l t.2.2 then homF l t.2.1 else homF l u.2.2
 rcases hAe.mp hu with z | z
 ·rw[ih u z]
 ·rw[hA7]at z;subst z;rw[if_pos rfl];split <;> rfl
def wStep (kept:List Tr) (t:Tr):List Tr:=if homF kept t.2.1=homF kept t.2.2 then kept else kept++[t]
def woodF (net:List Tr):List Tr:=net.foldl wStep []
theorem qGn (net:List Tr) (t:Tr):woodF (net++[t])=wStep (woodF net) t:=by unfold woodF;rw[hCo];rfl
theorem lab_same {f:Str->Str} {t:Tr} (h:f t.2.1=f t.2.2):lab f t=f:=by
 funext p
 show(if f p=f t.2.2 then f t.2.1 else f p)=f p;split
 ·rename_i e;rw[e,h]
 ·rfl
theorem homF_wood (net:List Tr):homF (woodF net)=homF net:=by
 refine qBy (P:=fun net=>homF (woodF net)=homF net) rfl (fun l t ih=>?_) net;rw[qGn,qCg];unfold wStep;rw[ih];split
 ·rename_i e;rw[ih,lab_same e]
 ·rw[qCg,ih]
theorem count (ps:List Str) (nd:ps.Nodup) (net:List Tr):(∀ x,isPt net x->x∈ps)->∃ labs:List Str,labs.Nodup/\(∀ x,x∈labs↔∃ p∈ps,homF net p=x)/\labs.length+(woodF net).length=ps.length:=by
 refine qBy (P:=fun net=>(∀ x,isPt net x->x∈ps)->∃ labs:List Str,labs.Nodup/\(∀ x,x∈labs↔∃ p∈ps,homF net p=x)/\labs.length+(woodF net).length=ps.length) (fun _=>⟨ps,nd,fun x=>⟨fun h=>⟨x,h,rfl⟩,fun ⟨p,hp,e⟩=>e▸hp⟩,rfl⟩) (fun l t ih hp=>?_) net;obtain⟨labs,n1,m1,c1⟩:=ih fun x hx=>hp x (qD2.mpr (.inl hx))
 have o1:t.2.1∈ps:=hp _ (qD2.mpr (.inr (.inl rfl)));have o2:t.2.2∈ps:=hp _ (qD2.mpr (.inr (.inr rfl)));rw[qCg,qGn];unfold wStep;rw[homF_wood];by_cases e:homF l t.2.1=homF l t.2.2
 ·rw[if_pos e,lab_same e];exact⟨labs,n1,m1,c1⟩
 ·rw[if_neg e];have mo:homF l t.2.2∈labs:=(m1 _).mpr ⟨_,o2,rfl⟩;refine⟨labs.erase (homF l t.2.2),n1.erase _,fun x=>?_,?_⟩
  ·rw[n1.mem_erase_iff,m1];constructor
   ·rintro⟨nx,p,hp',ex⟩;refine⟨p,hp',?_⟩;show(if homF l p=homF l t.2.2 then homF l t.2.1 else homF l p)=x;rw[if_neg (by rw[ex];exact nx),ex]
   ·rintro⟨p,hp',ex⟩;have ex':(if homF l p=homF l t.2.2 then homF l t.2.1 else homF l p)=x:=ex;by_cases z:homF l p=homF l t.2.2
    ·rw[if_pos z]at ex';exact⟨by rw[<-ex'];exact e,_,o1,ex'⟩
    ·rw[if_neg z]at ex';exact⟨by rw[<-ex'];exact z,p,hp',ex'⟩
  ·rw[List.length_erase_of_mem mo,hAd];have:0<labs.length:=hCt mo;show labs.length - 1+((woodF l).length+1)=_;omega
end My
namespace My
open PySem L2
def othr (f:Tr->Str) (t:Tr) (r:List Tr):List Tr:=r.filter fun u=>!decide (f u=f t)
theorem othr_le (f:Tr->Str) (t:Tr) (r:List Tr):(othr f t r).length<=r.length:=hAt _ _
def PCK (f:Tr->Str):List Tr->List (Str×List Str)
 | []=>[]
 | t :: r=>(f t,((t :: r).filter fun u=>decide (f u=f t)).map (·.1)) :: PCK f (othr f t r)
termination_by l=>l.length
decreasing_by
 have:=othr_le f t r;simp only[hB1];omega
theorem qCy (f:Tr->Str):PCK f []=[]:=by rw[PCK]
theorem qD7 (f:Tr->Str) (t:Tr) (r:List Tr):PCK f (t :: r)=(f t,((t :: r).filter fun u=>decide (f u=f t)).map (·.1)) :: PCK f (r.filter fun u=>!decide (f u=f t)):=by rw[PCK];rfl
theorem len_ind {P:List Tr->Prop} (h:∀ l,(∀ l',l'.length<l.length->P l')->P l) (l:List Tr):P l:=by
 have:∀ n,∀ l:List Tr,l.length<n->P l:=fun n=>by
  induction n with
  | zero=>intro l hl;omega
  | succ n ih=>intro l hl;exact h l fun l' hl'=>ih l' (by omega)
 exact this (l.length+1) l (by omega)
theorem qD6 (f:Tr->Str) (net:List Tr):((PCK f net).map (·.1)).Nodup/\∀ x,x∈(PCK f net).map (·.1)↔∃ t∈net,f t=x:=by
 refine len_ind (P:=fun net=>((PCK f net).map (·.1)).Nodup/\∀ x,x∈(PCK f net).map (·.1)↔∃ t∈net,f t=x) (fun l ih=>?_) net;cases l with
 | nil=>rw[qCy];exact⟨hCe,fun x=>by simp⟩
 | cons t r =>
  obtain⟨h1,h2⟩:=ih (r.filter fun u=>!decide (f u=f t)) (by have:=hAt (fun u=>!decide (f u=f t)) r;rw[hB1];omega);rw[qD7,hAm];refine⟨hAx.mpr ⟨fun z=>?_,h1⟩,fun x=>?_⟩
  ·obtain⟨u,hu,e⟩:=(h2 _).mp z;have:=(hAf.mp hu).2;simp[e]at this
  ·rw[hAa,h2];constructor
   ·rintro(rfl | ⟨u,hu,e⟩)
    ·exact⟨t,hA3,rfl⟩
    ·exact⟨u,hA4 _ (hAf.mp hu).1,e⟩
   ·rintro⟨u,hu,e⟩;by_cases z:x=f t
    ·exact .inl z
    ·rcases hAa.mp hu with y | y
     ·subst y;exact absurd e.symm z
     ·exact .inr ⟨u,hAf.mpr ⟨y,by rw[e];simpa using z⟩,e⟩
theorem PCK_snoc (f:Tr->Str) (t:Tr) (net:List Tr):PCK f (net++[t])=if f t∈(PCK f net).map (·.1) then (PCK f net).map (fun p=>if p.1=f t then (p.1,p.2++[t.1]) else p) else PCK f net++[(f t,[t.1])]:=by
 refine len_ind (P:=fun net=>PCK f (net++[t])=if f t∈(PCK f net).map (·.1) then (PCK f net).map (fun p=>if p.1=f t then (p.1,p.2++[t.1]) else p) else PCK f net++[(f t,[t.1])]) (fun l ih=>?_) net;cases l with
 | nil =>
  rw[List.nil_append,qD7,qCy,List.filter_nil,qCy,if_neg (by simp)];simp
 | cons u r =>
  have ih':=ih (r.filter fun v=>!decide (f v=f u)) (by have:=hAt (fun v=>!decide (f v=f u)) r;rw[hB1];omega);obtain⟨k1,k2⟩:=qD6 f (r.filter fun v=>!decide (f v=f u));rw[List.cons_append,qD7,qD7,hBz];have nu:f u∉(PCK f (r.filter fun v=>!decide (f v=f u))).map (·.1):=fun z=>by
   obtain⟨v,hv,e⟩:=(k2 _).mp z;have:=(hAf.mp hv).2;simp[e]at this
  by_cases e:f t=f u
  ·have e1:([t].filter fun v=>!decide (f v=f u))=[]:=by simp[e]
   have e2:((u :: (r++[t])).filter fun v=>decide (f v=f u))=((u :: r).filter fun v=>decide (f v=f u))++[t]:=by
    rw[<-List.cons_append,hBz];simp[e]
   rw[e1,e2,hBi,hAm,if_pos (by rw[e];exact hA3),hAm];dsimp only;rw[if_pos e.symm,hA9];congr 1;refine(List.map_id _).symm.trans (hBu fun p hp=>?_);have:p.1≠f t:=fun z=>by
    have m:=hBs (f:=(·.1)) hp;rw[z,e]at m;exact nu m
   rw[if_neg this];rfl
  ·have e1:([t].filter fun v=>!decide (f v=f u))=[t]:=by simp[e]
   have e2:((u :: (r++[t])).filter fun v=>decide (f v=f u))=((u :: r).filter fun v=>decide (f v=f u)):=by
    rw[<-List.cons_append,hBz];simp[e]
   rw[e1,e2,ih',hAm];dsimp only;by_cases m:f t∈(PCK f (r.filter fun v=>!decide (f v=f u))).map (·.1)
   ·rw[if_pos m,if_pos (hA4 _ m),hAm];dsimp only;rw[if_neg (fun z=>e z.symm)]
   ·rw[if_neg m,if_neg (fun z=>(hAa.mp z).elim e m)];rfl
theorem PCK_val (f:Tr->Str) (net:List Tr):∀ p∈PCK f net,p.2=(net.filter fun u=>decide (f u=p.1)).map (·.1):=by
 refine len_ind (P:=fun net=>∀ p∈PCK f net,p.2=(net.filter fun u=>decide (f u=p.1)).map (·.1)) (fun l ih=>?_) net;cases l with
 | nil=>rw[qCy];intro p hp;cases hp
 | cons t r =>
  rw[qD7];intro p hp;rcases hAa.mp hp with z | z
  ·subst z;rfl
  ·have q:=ih (r.filter fun u=>!decide (f u=f t)) (by have:=hAt (fun u=>!decide (f u=f t)) r;rw[hB1];omega) p z;obtain⟨_,k2⟩:=qD6 f (r.filter fun v=>!decide (f v=f t));obtain⟨v,hv,e⟩:=(k2 p.1).mp (hBs z);have ne:¬f t=p.1:=fun y=>by
    have:=(hAf.mp hv).2;simp[e,y]at this
   rw[q,List.filter_filter,List.filter_cons,if_neg (by simpa using ne)];congr 1;refine List.filter_congr fun u hu=>?_
   by_cases y:f u=p.1
   ·have w:¬f u=f t:=fun w=>ne (w.symm.trans y)
    rw[decide_eq_true y,decide_eq_false w];rfl
   ·rw[decide_eq_false y];rfl
abbrev qDo (l:List Str):Prop:=l.Pairwise fun a b=>sLtB a b=true
theorem rise_ext:∀ {a b:List Str},qDo a->qDo b->(∀ x,x∈a↔x∈b)->a=b
 | [],[],_,_,_=>rfl
 | [],y :: b,_,_,h=>by have:=(h y).mpr hA3;cases this
 | x :: a,[],_,_,h=>by have:=(h x).mp hA3;cases this
 | x :: a,y :: b,ha,hb,h=>by
  obtain⟨a1,a2⟩:=hC0.mp ha;obtain⟨b1,b2⟩:=hC0.mp hb;have e:x=y:=by
   rcases hAa.mp ((h x).mp hA3) with z | z
   ·exact z
   ·rcases hAa.mp ((h y).mpr hA3) with w | w
    ·exact w.symm
    ·have q:=qEf (b1 x z) (a1 y w);rw[qDu]at q;cases q
  subst e;refine congrArg _ (rise_ext a2 b2 fun z=>⟨fun hz=>?_,fun hz=>?_⟩)
  ·rcases hAa.mp ((h z).mp (hA4 _ hz)) with w | w
   ·have:=a1 z hz;rw[w,qDu]at this;cases this
   ·exact w
  ·rcases hAa.mp ((h z).mpr (hA4 _ hz)) with w | w
   ·have:=b1 z hz;rw[w,qDu]at this;cases this
   ·exact w
end My
namespace My
open PySem L2
abbrev trV (t:Tr):List V:=[.str t.1,.str t.2.1,.str t.2.2]
def qA8 (H:Hp) (p:Addr) (net:List Tr):Prop:=∃ as:List Addr,H p=some (.lst (as.map V.ref))/\Paired (fun a t=>H a=some (.tup (trV t))) as net
theorem qA8.ext {H H':Hp} {p:Addr} {net:List Tr} (h:qA8 H p net) (e:Ext H H'):qA8 H' p net:=by
 obtain⟨as,h1,h2⟩:=h;exact⟨as,e _ _ h1,Paired.mapP h2 fun a t z=>e _ _ z⟩
theorem qBc {α β:Type} {R:α->β->Prop}:∀ {as:List α} {bs:List β} {i:Nat} {a:α},Paired R as bs->as[i]?=some a->∃ b,bs[i]?=some b/\R a b
 | _,_,_,_,.nil,e=>by simp at e
 | _,_,0,_,.cons h _,e=>by simp at e;subst e;exact⟨_,rfl,h⟩
 | _,_,i+1,_,.cons _ t,e=>by
  obtain⟨b,h1,h2⟩:=qBc (i:=i) t (by simpa using e);exact⟨b,by simpa using h1,h2⟩
theorem qCt {H:Hp} {as:List Addr} {net:List Tr} {i:Nat} {x:V} (h:Paired (fun a t=>H a=some (.tup (trV t))) as net) (e:(as.map V.ref)[i]?=some x):∃ a t,x = .ref a/\net[i]?=some t/\H a=some (.tup (trV t)):=by
 rw[hAh]at e;cases ha:as[i]? with
 | none=>rw[ha]at e;cases e
 | some a =>
  rw[ha]at e;obtain⟨t,h1,h2⟩:=qBc h ha;exact⟨a,t,(hAv e).symm,h1,h2⟩
theorem qAl {α:Type} {l:List α} {i:Nat} {t:α} (h:l[i]?=some t):l.take (i+1)=l.take i++[t]:=by rw[List.take_add_one,h];rfl
theorem qA0 {α:Type} {l:List α} {i:Nat} {t:α} (h:l[i]?=some t):i<l.length:=(hAr.mp h).1
theorem rise_go:∀ (l:List Str) (p:Str),PyProof.Rows.risingS p l=true->(p :: l).Nodup->qDo (p :: l)
 | [],p,_,_=>hD3 _ _
 | x :: r,p,h,nd=>by
  have h':(!PySem.Spec.ltCps x.cps.toList p.cps.toList && PyProof.Rows.risingS x r)=true:=h;rw[hB7]at h';have nd':=hAx.mp nd;have ih:=rise_go r x h'.2 nd'.2;have px:sLtB p x=true:=by
   have z:=h'.1;rw[PyProof.Rows.ltCps_eq]at z;rcases sLtB_tri p x with t | t | t
   ·exact t
   ·exact absurd t (fun e=>nd'.1 (by rw[e];exact hA3))
   ·rw[decide_eq_true (of_decide_eq_true t)]at z;cases z
  refine hC0.mpr ⟨fun y hy=>?_,ih⟩;rcases hAa.mp hy with e | hy
  ·rw[e];exact px
  ·exact qEf px ((hC0.mp ih).1 y hy)
theorem rise_of {l:List Str} (h:PyProof.Rows.sortedS l=true) (nd:l.Nodup):qDo l:=by
 cases l with
 | nil=>exact List.Pairwise.nil
 | cons x r=>exact rise_go r x h nd
def qGk (net:List Tr) (ps:List Str):Prop:=ps.Nodup/\∀ x,x∈ps↔isPt net x
def qFd:Sp:=fun vs H Q _=>∃ (p:Addr) (net:List Tr),vs=[.ref p]/\qA8 H p net/\net.length<=12/\∀ r ps H',Ext H H'->H r=none->LsS H' r ps->qGk net ps->qDo ps->ps.length<=24->Q (.ref r) H'
section
variable {P:Program} {w:World} {K:PySem.W.Frag} {mg:Str->Option Value} {base:Heap} {f f1:Addr} {fd fd1:FuncData}
theorem scPoints:FnScope ["net"] ["net"] (qAb qDk):=⟨rfl,rfl,rfl,by decide +kernel,rfl,by decide +kernel,by decide +kernel⟩
abbrev ptN:List Str:=["tie","one","other","end"]
theorem ok_points (F:Fun K "points" "points" qDk f fd) (mso:mg "sorted" = none):FnOk P w K mg base CX0 1 f fd ["net"] qFd:=by
 refine F.ok scPoints (fun vs H Q E h=>?_) (fun cdv A outer s H vs Q E hr h=>?_)
 ·obtain⟨p,net,rfl,_⟩:=h;rfl
 obtain⟨p,net,rfl,⟨as,hp,pr⟩,hl,q⟩:=h;refine⟨_,qAh (qAu (qAj (qB9 rfl) rfl mso qA9 (qAa
  (pe_g gc_set2 rfl (N:=["net"]) (sc:=qAb qDk) (N':=ptN) (sub:=[none,none,none,none]) rfl rfl (CmpOk.of (by decide +kernel)) rfl (qAv (pv 0))
   (fun C s H fp=>⟨(show PG _ _ (gTup K 3 _) from qB3 rfl (qAm (qAg (i:=0) (by show ptN.Nodup;decide) rfl (Or.inl rfl)) (qAm (qAg (i:=1) (by show ptN.Nodup;decide) rfl (Or.inl rfl)) (qAm (qAg (i:=2) (by show ptN.Nodup;decide) rfl (Or.inl rfl)) qBo)))),qA7,
    fun acc=>pbd_nest rfl rfl (show PI _ _ _ (iTup K _) from pi_tup (qCn (qAa (pv 1) (qAa (pv 2) qAc)))) (qAg (i:=3) (by show ptN.Nodup;decide) rfl (Or.inl rfl)) qA7 (pbd_set rfl (pv 3)) (fun _=>rfl) rfl rfl (fun _=>rfl) (fun _ _ _ _ _ h=>h) (fun _ _ _ _ _ h=>h) (fun _=>rfl)⟩)) qAc))),?_⟩
 try dsimp only[Cx.wish,qB5]
 have lA:as.length=net.length:=pr.length;refine⟨_,rfl,p,rfl,⟨_,SqL.of hp⟩,?_⟩;refine g_list (xs:=as.map V.ref) (fun i ss σ H'=>Ext H H'/\(∃ x0 x1 x2 x3:Option V,σ=[x0,x1,x2,x3])/\ss.Nodup/\(∀ x,x∈ss↔isPt (net.take i) x)/\ss.length<=2*i) ⟨Ext.refl _,⟨none,none,none,none,rfl⟩,hCe,fun x=>⟨fun z=>(by cases z),fun ⟨t,ht,_⟩=>(by simp at ht)⟩,hAq _⟩ (fun i ss σ H' _ h=>SqL.of (h.1 _ _ hp)) ?_ ?_
 ·rintro i x ss σ H' hx ⟨he,⟨x0,x1,x2,x3,rfl⟩,nd,mem,ln⟩;obtain⟨a,t,rfl,ht,ha⟩:=qCt pr hx;have hi:=qA0 ht;refine⟨a,_,rfl,SqT.of (he _ _ ha),rfl,_,_,rfl,_,_,rfl,_,_,rfl,rfl,iteT (B:=False) ?_⟩;refine⟨_,rfl,_,rfl,(by show 2<=sizeLine;decide),fun T hT=>⟨T,rfl,⟨_,SqT.of upd_same⟩,?_⟩⟩;have X1:=Ext.new hT (.tup [V.str t.2.1,V.str t.2.2]);refine g_tuple (xs:=[V.str t.2.1,V.str t.2.2]) (fun j ss σ H2=>Ext (upd H' T (.tup [V.str t.2.1,V.str t.2.2])) H2/\(∃ y:Option V,σ=[some (.str t.1),some (.str t.2.1),some (.str t.2.2),y])/\ss.Nodup/\(∀ x,x∈ss↔isPt (net.take i) x\/(0<j/\x=t.2.1)\/(1<j/\x=t.2.2))/\ss.length<=2*i+j)
   ⟨Ext.refl _,⟨_,rfl⟩,nd,fun x=>by rw[mem];simp,by omega⟩ (fun j ss σ H2 _ h=>SqT.of (h.1 _ _ upd_same)) ?_ ?_
  ·rintro j z ss2 σ H2 hz ⟨h2,⟨y,rfl⟩,nd2,mem2,ln2⟩;have hj:j<2:=qA0 hz;obtain⟨v,rfl,hv⟩:∃ v:Str,z = .str v/\((j=0/\v=t.2.1)\/(j=1/\v=t.2.2)):=by
    rcases(show j=0\/j=1 by omega) with rfl | rfl
    ·exact⟨t.2.1,(hAv hz).symm,.inl ⟨rfl,rfl⟩⟩
    ·exact⟨t.2.2,(hAv hz).symm,.inr ⟨rfl,rfl⟩⟩
   refine iteT (B:=False) ⟨_,rfl,v,rfl,by omega,fun ss3 h3=>nxg hj ⟨h2,⟨_,rfl⟩,?_⟩⟩;have key:ss3.Nodup/\(∀ x,x∈ss3↔x∈ss2\/x=v)/\ss3.length<=ss2.length+1:=by
    by_cases m:v∈ss2
    ·rw[if_pos m]at h3;subst h3;exact⟨nd2,fun x=>⟨.inl,fun z=>z.elim id fun e=>e▸m⟩,hAw _⟩
    ·rw[if_neg m]at h3;refine⟨h3.nodup_iff.mpr ?_,fun x=>by rw[h3.mem_iff,hAe,hA7],by rw[h3.length_eq,hAd];exact hA5 _⟩;rw[hCc];exact⟨nd2,by simp,fun y hy z hz=>by rw[hA7]at hz;subst hz;rintro rfl;exact m hy⟩
   refine⟨key.1,fun x=>?_,by have:=key.2.2;omega⟩;rw[key.2.1,mem2];rcases hv with ⟨rfl,rfl⟩ | ⟨rfl,rfl⟩
   ·simp
   ·simp[or_assoc]
  ·rintro ss2 σ H2 ⟨h2,⟨y,rfl⟩,nd2,mem2,ln2⟩;refine nxg (qA0 hx) ⟨he.trans (X1.trans h2),⟨_,_,_,_,rfl⟩,nd2,fun x=>?_,by have:ss2.length<=2*i+2:=ln2;omega⟩;rw[mem2,qAl ht,qD2];simp
 ·rintro ss σ H' ⟨he,_,nd,mem,ln⟩ r hr1;rw[hA1,lA,hA8 (hA5 _)]at mem;rw[hA1,lA]at ln;refine⟨r,ss,rfl,upd_same,by omega,fun r2 ss2 hr2 pm srt=>?_⟩;exact q r2 ss2 _ ((he.trans (Ext.new hr1 _)).trans (Ext.new hr2 _)) ((he.trans (Ext.new hr1 _)).none hr2) upd_same ⟨pm.nodup_iff.mpr nd,fun x=>by rw[pm.mem_iff,mem]⟩ (rise_of srt (pm.nodup_iff.mpr nd)) (by rw[pm.length_eq];omega)
end
end My
namespace My
open PySem L2
theorem Ext.over {H H':Hp} {d:Addr} (e:Ext H H') (h:H d=Option.none) (o:HO):Ext H (upd H' d o):=fun b u q=>by rw[qAe (qAf q h)];exact e b u q
def hD (ps:List Str) (f:Str->Str):List (Key×V):=ps.map fun p=>(Sum.inr p,V.str (f p))
theorem hD_val (f:Str->Str) (x:Str):∀ ps:List Str,valV (hD ps f) (Sum.inr x)=if x∈ps then some (.str (f x)) else none
 | []=>by simp[hD,valV]
 | p :: r=>by
  have ih:=hD_val f x r;by_cases e:p=x
  ·subst e;rw[if_pos hA3];exact qDr rfl
  ·have:valV (hD (p :: r) f) (Sum.inr x)=valV (hD r f) (Sum.inr x):=qCz fun z=>e (Sum.inr.inj z)
   rw[this,ih];have e':¬x=p:=fun z=>e z.symm
   simp[e']
theorem hD_snoc {ps:List Str} {f:Str->Str} {i:Nat} {p:Str} (nd:ps.Nodup) (h:ps[i]?=some p):qGh (hD (ps.take i) f) (Sum.inr p) (.str (f p))=hD (ps.take (i+1)) f:=by
 have np:p∉ps.take i:=fun z=>by
  have e:=qAl h;have nd':(ps.take (i+1)).Nodup:=nd.sublist (List.take_sublist _ _);rw[e,hCc]at nd';exact nd'.2.2 p z p (by simp) rfl
 rw[putK_new _ (by rw[hD_val,if_neg np]),qAl h];unfold hD;rw[hA9];rfl
theorem hD_itV {ps:List Str} {f:Str->Str} {i:Nat} {p:Str} (h:ps[i]?=some p):itV (hD ps f) i=[V.str p,V.str (f p)]:=by
 unfold itV hD;rw[hAh,h];rfl
def spHomes:Sp:=fun vs H Q _=>∃ (p:Addr) (net:List Tr),vs=[.ref p]/\qA8 H p net/\net.length<=12/\∀ r ps H',Ext H H'->H r=none->H' r=some (.dK (hD ps (homF net)))->qGk net ps->ps.length<=24->Q (.ref r) H'
section
variable {P:Program} {w:World} {K:PySem.W.Frag} {mg:Str->Option Value} {base:Heap} {f f1:Addr} {fd fd1:FuncData}
abbrev hoN:List Str:=["net","home","tie","one","other","old","new"]
theorem qCo:FnScope hoN ["net"] (qAb qEu):=⟨rfl,rfl,rfl,by decide +kernel,rfl,by decide +kernel,by decide +kernel⟩
theorem ok_homes (F:Fun K "homes" "homes" qEu f fd) (G:Cl P w K mg base CX0 1 f1 fd1 ["net"] qFd "points"):FnOk P w K mg base CX0 2 f fd ["net"] spHomes:=by
 refine F.ok qCo (fun vs H Q E h=>?_) (fun cdv A outer s H vs Q E hr h=>?_)
 ·obtain⟨p,net,rfl,_⟩:=h;rfl
 obtain⟨p,net,rfl,nt,hl,q⟩:=h;refine⟨_,pss_cons (ps_g (i:=1) gc_dict (fun _=>rfl) (N:=hoN) (sc:=qAb qEu) (N':=["point"]) (sub:=[none]) rfl rfl (CmpOk.of (by decide +kernel)) rfl (qAv (qAy G hr rfl .nil qAz (qAa (pv 0) qAc)))
   (fun C s H fp=>⟨qAg (i:=0) (by show(["point"]:List Str).Nodup;decide) rfl (Or.inl rfl),qA7,fun acc=>pbd_dict rfl (pv 0) (pv 0)⟩) qCo.nd rfl (Or.inl rfl))
  (pss_cons (qB6 PassesOwn.never rfl (qAv (pv 0)) (qB3 rfl (qAm (qAg (i:=2) qCo.nd rfl (Or.inl rfl)) (qAm (qAg (i:=3) qCo.nd rfl (Or.inl rfl)) (qAm (qAg (i:=4) qCo.nd rfl (Or.inl rfl)) qBo))))
   (pss_cons (ps_asg (qCn (qAa (pe_dget (hu_of hr) (pv 1) (pv 4) (fun _ _=>rfl)) (qAa (pe_dget (hu_of hr) (pv 1) (pv 3) (fun _ _=>rfl)) qAc))) (qB3 rfl (qAm (qAg (i:=5) qCo.nd rfl (Or.inr rfl)) (qAm (qAg (i:=6) qCo.nd rfl (Or.inr rfl)) qBo))))
   (qAh (ps_g (i:=1) gc_dict (fun _=>rfl) (N:=hoN) (sc:=qAb qEu) (N':=["point","at","new","old"]) (sub:=[none,none,some 6,some 5]) rfl rfl (CmpOk.of (by decide +kernel)) rfl (pi_items (pv 1))
    (fun C s H fp=>⟨(show PG _ _ (gTup K 2 _) from qB3 rfl (qAm (qAg (i:=0) (by show(["point","at","new","old"]:List Str).Nodup;decide) rfl (Or.inl rfl)) (qAm (qAg (i:=1) (by show(["point","at","new","old"]:List Str).Nodup;decide) rfl (Or.inl rfl)) qBo))),qA7,
     fun acc=>pbd_dict rfl (pv 0) (qFh (qAp qCs (pv 1) (pv 3) (qAw _)) (pv 2) (pv 1))⟩) qCo.nd rfl (Or.inl rfl)))))
  (qAh (qAu (pv 1)))),?_⟩
 try dsimp only[Cx.wish,qB5]
 obtain⟨as,hp,pr⟩:=id nt;have lA:as.length=net.length:=pr.length;refine⟨_,rfl,p,net,rfl,nt,hl,fun r ps H1 e1 hr1 hps pok _ lps=>⟨r,rfl,⟨_,SqL.of hps⟩,?_⟩⟩;have pnd:=pok.1;refine g_list (xs:=ps.map V.str) (fun i kvs σ H2=>H2=H1/\(∃ x:Option V,σ=[x])/\kvs=hD (ps.take i) id) ⟨rfl,⟨none,rfl⟩,rfl⟩ (fun i kvs σ H2 _ h=>by rw[h.1];exact SqL.of hps) ?_ ?_
 ·rintro i x kvs σ H2 hx ⟨rfl,⟨x0,rfl⟩,rfl⟩;obtain⟨y,hy,rfl⟩:∃ y,ps[i]?=some y/\V.str y=x:=by
   rw[hAh]at hx;cases e:ps[i]? with
   | none=>rw[e]at hx;cases hx
   | some y=>rw[e]at hx;exact⟨y,rfl,hAv hx⟩
  refine iteT (B:=False) ⟨_,rfl,_,rfl,Sum.inr y,rfl,?_,nxg (qA0 hx) ⟨rfl,⟨_,rfl⟩,hD_snoc pnd hy⟩⟩;have:=qA0 hy;unfold hD;rw[hA1,hAj];exact qAi (by omega)
 ·rintro kvs σ H2 ⟨rfl,_,rfl⟩ d hd;rw[hA1,hA8 (hA5 _)];have hd0:=e1.none hd;refine⟨_,rfl,p,rfl,⟨_,SqL.of ((e1.over hd0 _) _ _ hp)⟩,?_⟩;refine qCi (xs:=as.map V.ref) (fun i σ H3=>∃ (d:Addr) (x2 x3 x4 x5 x6:Option V),σ=[some (.ref p),some (.ref d),x2,x3,x4,x5,x6]/\Ext H H3/\H d=none/\H3 d=some (.dK (hD ps (homF (net.take i))))) ⟨d,_,_,_,_,_,rfl,e1.over hd0 _,hd0,upd_same⟩ ?_ ?_ ?_
  ·rintro i σ H3 _ ⟨d,x2,x3,x4,x5,x6,_,e3,_⟩;exact SqL.of (e3 _ _ hp)
  ·rintro i x σ H3 hx ⟨d,x2,x3,x4,x5,x6,rfl,e3,hd0,hd3⟩;obtain⟨a,t,rfl,ht,ha⟩:=qCt pr hx;have i1:t.2.1∈ps:=(pok.2 _).mpr ⟨t,hAu ht,.inl rfl⟩;have i2:t.2.2∈ps:=(pok.2 _).mpr ⟨t,hAu ht,.inr rfl⟩;have v1:=hD_val (homF (net.take i)) t.2.1 ps;have v2:=hD_val (homF (net.take i)) t.2.2 ps;rw[if_pos i1]at v1;rw[if_pos i2]at v2;refine⟨a,_,rfl,SqT.of (e3 _ _ ha),rfl,_,_,rfl,_,_,rfl,_,_,rfl,rfl,?_⟩;have g2:=DGet.k (k:=Sum.inr t.2.2) hd3;rw[v2]at g2;have g1:=DGet.k (k:=Sum.inr t.2.1) hd3;rw[v1]at g1;refine⟨_,rfl,_,rfl,d,_,rfl,g2,_,rfl,_,rfl,d,_,rfl,g1,(by show 2<=sizeLine;decide),fun T hT=>⟨T,_,rfl,SqT.of upd_same,rfl,_,_,rfl,_,_,rfl,rfl,?_⟩⟩;have e4:=Ext.new hT (.tup [V.str (homF (net.take i) t.2.2),V.str (homF (net.take i) t.2.1)]);refine⟨_,rfl,d,_,rfl,e4 _ _ hd3,fun o=>?_⟩;have ln:(hD ps (homF (net.take i))).length=ps.length:=by unfold hD;rw[hA1]
   have g0:=(e3.trans e4).over hd0 (.frz o (.dK (hD ps (homF (net.take i)))));rw[ln];refine g_pairs (fun j kvs σ H5=>(∃ x0 x1:Option V,σ=[x0,x1,some (.str (homF (net.take i) t.2.1)),some (.str (homF (net.take i) t.2.2))])/\Ext H H5/\H5 d=some (.frz o (.dK (hD ps (homF (net.take i)))))/\kvs=hD (ps.take j) (lab (homF (net.take i)) t))
    ⟨⟨none,none,rfl⟩,g0,upd_same,rfl⟩ (fun j kvs σ H5 _ h=>h.2.2.1) ?_ ?_
   ·rintro j kvs σ H5 T2 hj ⟨⟨x0,x1,rfl⟩,e5,f5,rfl⟩ hT2;have hy:ps[j]?=some ps[j]:=hA2 hj;refine⟨T2,_,rfl,SqT.of upd_same,?_⟩;rw[hD_itV hy];refine⟨rfl,_,_,rfl,_,_,rfl,rfl,iteT (B:=False) ?_⟩;have e6:=e5.trans (Ext.new hT2 (.tup [V.str ps[j],V.str (homF (net.take i) ps[j])]));have f6:=Ext.new hT2 (.tup [V.str ps[j],V.str (homF (net.take i) ps[j])]) _ _ f5;have sm:(hD (ps.take j) (lab (homF (net.take i)) t)).length<sizeLine:=by
     unfold hD;rw[hA1,hAj];exact qAi (by omega)
    refine⟨_,rfl,_,rfl,_,rfl,rfl,_,rfl,?_⟩;refine qDa (fun c=>?_) (fun c=>?_)
    ·refine⟨_,rfl,Sum.inr ps[j],rfl,sm,nxg hj ⟨⟨_,_,rfl⟩,e6,f6,?_⟩⟩;have c':homF (net.take i) ps[j]=homF (net.take i) t.2.2:=by simpa using c
     have h:=hD_snoc (f:=lab (homF (net.take i)) t) pnd hy
     rwa [show lab (homF (net.take i)) t ps[j]=homF (net.take i) t.2.1 from if_pos c']at h
    ·refine⟨_,rfl,Sum.inr ps[j],rfl,sm,nxg hj ⟨⟨_,_,rfl⟩,e6,f6,?_⟩⟩;have c':¬homF (net.take i) ps[j]=homF (net.take i) t.2.2:=by simpa using c
     have h:=hD_snoc (f:=lab (homF (net.take i)) t) pnd hy
     rwa [show lab (homF (net.take i)) t ps[j]=homF (net.take i) ps[j] from if_neg c']at h
   ·rintro kvs σ H5 ⟨⟨x0,x1,rfl⟩,e5,f5,rfl⟩ d2 hd2;rw[hA8 (hA5 _)];have hd20:=e5.none hd2;refine⟨d2,_,_,_,_,_,rfl,e5.over hd20 _,hd20,?_⟩;rw[qAl ht,qCg];exact upd_same
  ·rintro σ H3 ⟨d,x2,x3,x4,x5,x6,rfl,e3,hd0,hd3⟩;rw[hA1,lA,hA8 (hA5 _)]at hd3;exact⟨_,rfl,q d ps H3 e3 hd0 hd3 pok lps⟩
end
end My
namespace My
open PySem L2
def stT (t:Tr) (x:Str):List Str:=(if t.2.1=x then [t.1] else [])++(if t.2.2=x then [t.1] else [])
def qCc (net:List Tr) (x:Str):List Str:=(net.map fun t=>stT t x).flatten
theorem qEd (net:List Tr) (t:Tr) (x:Str):qCc (net++[t]) x=qCc net x++stT t x:=by
 unfold qCc;rw[hA9,List.flatten_append];simp
theorem stT_le (t:Tr) (x:Str):(stT t x).length<=2:=by
 unfold stT;rw[hAd];split <;> split <;> simp
theorem starF_le (net:List Tr) (x:Str):(qCc net x).length<=2*net.length:=by
 refine qBy (P:=fun net=>(qCc net x).length<=2*net.length) (hA5 _) (fun l t ih=>?_) net;rw[qEd,hAd,hAd];have:=stT_le t x;show _<=2*(l.length+1);omega
def spStar:Sp:=fun vs H Q _=>∃ (p:Addr) (net:List Tr) (x:Str),vs=[.ref p,.str x]/\qA8 H p net/\net.length<=12/\∀ r H',Ext H H'->H r=none->LsS H' r (qCc net x)->Q (.ref r) H'
section
variable {P:Program} {w:World} {K:PySem.W.Frag} {mg:Str->Option Value} {base:Heap} {f f1:Addr} {fd fd1:FuncData}
theorem scStar:FnScope ["net","point"] ["net","point"] (qAb sStar):=⟨rfl,rfl,rfl,by decide +kernel,rfl,by decide +kernel,by decide +kernel⟩
abbrev stN:List Str:=["tie","one","other","end","point"]
theorem ok_star (F:Fun K "star" "star" sStar f fd):FnOk P w K mg base CX0 1 f fd ["net","point"] spStar:=by
 refine F.ok scStar (fun vs H Q E h=>?_) (fun cdv A outer s H vs Q E hr h=>?_)
 ·obtain⟨p,net,x,rfl,_⟩:=h;rfl
 obtain⟨p,net,x,rfl,⟨as,hp,pr⟩,hl,q⟩:=h;refine⟨_,qAh (qAu
  (pe_g gc_list2 rfl (N:=["net","point"]) (sc:=qAb sStar) (N':=stN) (sub:=[none,none,none,none,some 1]) rfl rfl (CmpOk.of (by decide +kernel)) rfl (qAv (pv 0))
   (fun C s H fp=>⟨(show PG _ _ (gTup K 3 _) from qB3 rfl (qAm (qAg (i:=0) (by show stN.Nodup;decide) rfl (Or.inl rfl)) (qAm (qAg (i:=1) (by show stN.Nodup;decide) rfl (Or.inl rfl)) (qAm (qAg (i:=2) (by show stN.Nodup;decide) rfl (Or.inl rfl)) qBo)))),qA7,
    fun acc=>pbd_nest rfl rfl (show PI _ _ _ (iTup K _) from pi_tup (qCn (qAa (pv 1) (qAa (pv 2) qAc)))) (qAg (i:=3) (by show stN.Nodup;decide) rfl (Or.inl rfl)) (qB8 (qAp qCs (pv 3) (pv 4) (qAw _))) (pbd_list rfl (pv 0)) (fun _=>rfl) rfl rfl (fun _=>rfl) (fun _ _ _ _ _ h=>h) (fun _ _ _ _ _ h=>h) (fun _=>rfl)⟩))),?_⟩
 try dsimp only[Cx.wish,qB5]
 have lA:as.length=net.length:=pr.length;refine⟨_,rfl,p,rfl,⟨_,SqL.of hp⟩,?_⟩;refine g_list (xs:=as.map V.ref) (fun i ss σ H'=>Ext H H'/\(∃ x0 x1 x2 x3:Option V,σ=[x0,x1,x2,x3,some (.str x)])/\ss=(qCc (net.take i) x).map V.str) ⟨Ext.refl _,⟨none,none,none,none,rfl⟩,rfl⟩ (fun i ss σ H' _ h=>SqL.of (h.1 _ _ hp)) ?_ ?_
 ·rintro i z ss σ H' hx ⟨he,⟨x0,x1,x2,x3,rfl⟩,rfl⟩;obtain⟨a,t,rfl,ht,ha⟩:=qCt pr hx;have hi:=qA0 ht;refine⟨a,_,rfl,SqT.of (he _ _ ha),rfl,_,_,rfl,_,_,rfl,_,_,rfl,rfl,iteT (B:=False) ?_⟩;refine⟨_,rfl,_,rfl,(by show 2<=sizeLine;decide),fun T hT=>⟨T,rfl,⟨_,SqT.of upd_same⟩,?_⟩⟩;have X1:=Ext.new hT (.tup [V.str t.2.1,V.str t.2.2]);have ls:=starF_le (net.take i) x;rw[hAj]at ls;refine g_tuple (xs:=[V.str t.2.1,V.str t.2.2]) (fun j ss σ H2=>Ext (upd H' T (.tup [V.str t.2.1,V.str t.2.2])) H2/\(∃ y:Option V,σ=[some (.str t.1),some (.str t.2.1),some (.str t.2.2),y,some (.str x)])/\ss=(qCc (net.take i) x++((if 0<j/\t.2.1=x then [t.1] else [])++(if 1<j/\t.2.2=x then [t.1] else []))).map V.str)
   ⟨Ext.refl _,⟨_,rfl⟩,by simp⟩ (fun j ss σ H2 _ h=>SqT.of (h.1 _ _ upd_same)) ?_ ?_
  ·rintro j z ss2 σ H2 hz ⟨h2,⟨y,rfl⟩,rfl⟩;have hj:j<2:=qA0 hz;rcases(show j=0\/j=1 by omega) with rfl | rfl
   ·cases hAv hz;refine⟨_,rfl,_,rfl,rfl,_,rfl,?_⟩;refine qDa (fun c=>?_) (fun c=>?_)
    ·have c':t.2.1=x:=by simpa using c
     refine⟨_,rfl,?_,nxg hj ⟨h2,⟨_,rfl⟩,?_⟩⟩
     ·simp only[hBp,false_and,if_false,hBi,List.nil_append,hA1];exact qAi (by simp;omega)
     ·simp[c']
    ·have c':¬t.2.1=x:=by simpa using c
     exact nxg hj ⟨h2,⟨_,rfl⟩,by simp[c']⟩
   ·cases hAv hz;refine⟨_,rfl,_,rfl,rfl,_,rfl,?_⟩;refine qDa (fun c=>?_) (fun c=>?_)
    ·have c':t.2.2=x:=by simpa using c
     refine⟨_,rfl,?_,nxg hj ⟨h2,⟨_,rfl⟩,?_⟩⟩
     ·rw[hA1,hAd,hAd];refine qAi ?_;have e1:(if 0<1/\t.2.1=x then [t.1] else []).length<=1:=by split <;> simp
      have e2:(if 1<1/\t.2.2=x then [t.1] else []).length<=1:=by split <;> simp
      omega
     ·simp[c']
    ·have c':¬t.2.2=x:=by simpa using c
     exact nxg hj ⟨h2,⟨_,rfl⟩,by simp[c']⟩
  ·rintro ss2 σ H2 ⟨h2,⟨y,rfl⟩,rfl⟩;refine nxg (qA0 hx) ⟨he.trans (X1.trans h2),⟨_,_,_,_,rfl⟩,?_⟩;rw[qAl ht,qEd];unfold stT;simp
 ·rintro ss σ H' ⟨he,_,rfl⟩ r hr1;rw[hA1,lA,hA8 (hA5 _)];exact q r _ (he.trans (Ext.new hr1 _)) (he.none hr1) upd_same
end
end My
namespace My
open PySem L2
theorem room2 {k:Nat} {A:Around} (hr:Room k A):A.units+2<cLine:=by have:=hr.un;omega
def qCx (H:Hp) (p:Addr) (F:List (List Str)):Prop:=∃ as:List Addr,H p=some (.lst (as.map V.ref))/\Paired (LsS H) as F
theorem qCx.ext {H H':Hp} {p:Addr} {F:List (List Str)} (h:qCx H p F) (e:Ext H H'):qCx H' p F:=by
 obtain⟨as,h1,h2⟩:=h;exact⟨as,e _ _ h1,Paired.mapP h2 fun a r z=>e _ _ z⟩
def RowsY (H0 H:Hp) (fo:Addr) (F:List (List Str)):Prop:=∃ as:List Addr,H fo=some (.lst (as.map V.ref))/\Paired (fun a r=>LsS H a r/\H0 a=none/\a≠fo) as F
theorem RowsY.rows {H0 H:Hp} {p:Addr} {F:List (List Str)} (h:RowsY H0 H p F):qCx H p F:=by
 obtain⟨as,h1,h2⟩:=h;exact⟨as,h1,Paired.mapP h2 fun a r z=>z.1⟩
def RowsZ (H0 H:Hp) (fo:Addr) (F:List (List Str)):Prop:=∃ as:List Addr,as.Nodup/\H fo=some (.lst (as.map V.ref))/\Paired (fun a r=>LsS H a r/\H0 a=none/\a≠fo) as F
theorem qF4 {α β:Type} {R:α->β->Prop}:∀ {as:List α} {bs:List β},Paired R as bs->∀ a∈as,∃ b∈bs,R a b
 | _,_,.nil,a,h=>by cases h
 | _,_,.cons h t,a,ha=>by
  rcases hAa.mp ha with rfl | z
  ·exact⟨_,hA3,h⟩
  ·obtain⟨b,hb,hr⟩:=qF4 t a z;exact⟨b,hA4 _ hb,hr⟩
theorem getD_rangeA (as:List Addr):(List.range as.length).map (fun i=>as.getD i 0)=as:=by
 refine hCn fun i=>?_
 by_cases hi:i<as.length
 ·rw[hAh,List.getElem?_range hi,hA2 hi];show some (as.getD i 0)=_;rw[hAg,hA2 hi];rfl
 ·rw[hBe (by simp;omega),hBe (by omega)]
theorem pick_perm {as:List Addr} {o:Array Nat} (g:Gd as.length o):(o.toList.map fun i=>as.getD i 0).Perm as :=
 ((hBc.mp g).map fun i=>as.getD i 0).trans (List.Perm.of_eq (getD_rangeA as))
theorem paired_at {R:Addr->List Str->Prop}:∀ {as:List Addr} {ts:List (List Str)} {i:Nat},Paired R as ts->i<as.length->R (as.getD i 0) (ts.getD i [])
 | _,_,i,.nil,hi=>absurd hi (hCf _)
 | _,_,0,.cons h _,_=>h
 | _,_,i+1,.cons _ t,hi=>by simpa using paired_at (i:=i) t (by simpa using hi)
theorem qF3 {R:Addr->List Str->Prop} {as:List Addr} {ts:List (List Str)} (pr:Paired R as ts):∀ {l:List Nat},(∀ i∈l,i<as.length)->Paired R (l.map fun i=>as.getD i 0) (l.map fun i=>ts.getD i [])
 | [],_=>.nil
 | i :: l,h=>.cons (paired_at pr (h i hA3)) (qF3 pr fun j hj=>h j (hA4 _ hj))
def spStars:Sp:=fun vs H Q _=>∃ (p:Addr) (net:List Tr),vs=[.ref p]/\qA8 H p net/\net.length<=12/\∀ r rows ps H',Ext H H'->H r=none->RowsZ H H' r rows->qGk net ps->qDo ps->rows.Perm (ps.map (qCc net))->Srt rows->rows.length<=24->Q (.ref r) H'
section
variable {P:Program} {w:World} {K:PySem.W.Frag} {mg:Str->Option Value} {base:Heap} {f f1 f2:Addr} {fd fd1 fd2:FuncData}
theorem scStars:FnScope ["net"] ["net"] (qAb qFv):=⟨rfl,rfl,rfl,by decide +kernel,rfl,by decide +kernel,by decide +kernel⟩
theorem ok_stars (F:Fun K "stars" "stars" qFv f fd) (G:Cl P w K mg base CX0 1 f1 fd1 ["net"] qFd "points")
  (G2:Cl P w K mg base CX0 1 f2 fd2 ["net","point"] spStar "star") (mso:mg "sorted" = none):FnOk P w K mg base CX0 2 f fd ["net"] spStars:=by
 refine F.ok scStars (fun vs H Q E h=>?_) (fun cdv A outer s H vs Q E hr h=>?_)
 ·obtain⟨p,net,rfl,_⟩:=h;rfl
 obtain⟨p,net,rfl,nt,hl,q⟩:=h;refine⟨_,qAh (qAu (qAj (call_sortedLO (room2 hr)) rfl mso qA9 (qAa
  (pe_lc (N:=["net"]) (sc:=qAb qFv) (N':=["point","net"]) (sub:=[none,some 0]) rfl rfl (CmpOk.of (by decide +kernel)) rfl (qAv (qAy G hr rfl .nil qAz (qAa (pv 0) qAc)))
   (fun C s H fp=>⟨qAg (i:=0) (by show(["point","net"]:List Str).Nodup;decide) rfl (Or.inl rfl),qA7,qAy G2 hr rfl .nil qAz (qAa (pv 1) (qAa (pv 0) qAc))⟩)) qAc))),?_⟩
 try dsimp only[Cx.wish,qB5]
 refine⟨_,rfl,p,net,rfl,nt,hl,fun pl ps H1 e1 pl0 hpl pok psr lps=>⟨pl,rfl,⟨_,SqL.of hpl⟩,?_⟩⟩;refine qAt (xs:=ps.map V.str) (fun j ys H2=>Ext H1 H2/\∃ as,ys=as.map V.ref/\as.Nodup/\Paired (fun a r=>LsS H2 a r/\H a=none) as ((ps.take j).map (qCc net))) ⟨Ext.refl _,[],rfl,hCe,.nil⟩ (fun j ys H2 _ h=>SqL.of (h.1 _ _ hpl)) ?_ ?_
 ·rintro j x ys H2 hx ⟨e2,as,rfl,nd,pr⟩;obtain⟨y,hy,rfl⟩:∃ y,ps[j]?=some y/\V.str y=x:=by
   rw[hAh]at hx;cases e:ps[j]? with
   | none=>rw[e]at hx;cases hx
   | some y=>rw[e]at hx;exact⟨y,rfl,hAv hx⟩
  have hj:=qA0 hy;have la:as.length=_:=pr.length;rw[hA1,hAj]at la;refine⟨Sle.set _ (Sle.refl _) (fun u z=>by cases z),iteT (B:=False) ⟨_,rfl,_,rfl,p,net,y,rfl,(nt.ext e1).ext e2,hl,fun r H3 e3 r0 hr3=>⟨?_,nxt (qA0 hx) ⟨e2.trans e3,as++[r],by rw[hA9];rfl,?_,?_⟩⟩⟩⟩
  ·rw[hA1];exact qAi (by omega)
  ·rw[hCc];refine⟨nd,by simp,fun a ha b hb z=>?_⟩;rw[hA7]at hb;obtain⟨_,_,h1,_⟩:=qF4 pr a ha;unfold LsS at h1;rw[z,hb,r0]at h1;cases h1
  ·rw[qAl hy,hA9];exact Paired.snoc (Paired.mapP pr fun a t z=>⟨e3 _ _ z.1,z.2⟩) ⟨hr3,(e1.trans e2).none r0⟩
 ·rintro ys H2 ⟨e2,as,rfl,nd,pr⟩ l hl';rw[hA1,hA8 (hA5 _)]at pr;have la:as.length=(ps.map (qCc net)).length:=pr.length;have la':as.length=ps.length:=by rw[la,hA1]
  have X1:=Ext.new hl' (.lst (as.map V.ref));refine⟨l,as,ps.map (qCc net),rfl,SqL.of upd_same,Paired.mapP pr fun a t z=>SqL.of (X1 _ _ z.1),by omega,fun r o hr' g sp=>?_⟩;have X2:=X1.trans (Ext.new hr' (.lst ((o.toList.map fun i=>as.getD i 0).map V.ref)));have E2:=e1.trans e2;have gm:∀ i∈o.toList,i<as.length:=fun i hi=>gd_mem g hi
  have gl:=gd_len g;have nd':=(pick_perm g).nodup_iff.mpr nd;rw[la]at g sp;obtain⟨s1,s2⟩:=qG0 g sp;refine q r _ ps _ (E2.trans X2) ((E2.trans X1).none hr') ⟨_,nd',upd_same,Paired.mapP (qF3 pr gm) fun a t z=>⟨X2 _ _ z.1,z.2,qAf (X1 _ _ z.1) hr'⟩⟩ pok psr s2 s1 ?_;rw[hA1,gl,la'];exact lps
end
end My
namespace My
open PySem L2
def spBig (K:PySem.W.Frag):Sp:=fun vs H Q _=>∃ (a:Addr) (ns:List Int) (k:Int),vs=[.ref a,.int k]/\SqL K H a (ns.map V.int)/\0<=k/\k<=100/\∀ v,Q (.int v) H
def Tx (ss:List Str):Prop:=∀ s∈ss,Sm s
def spNames:Sp:=fun vs H Q _=>∃ (b n:Int),vs=[.int b,.int n]/\0<=n/\n<=100/\∀ (r:Addr) (ss:List Str) (H':Hp),Ext H H'->H r=none->LsS H' r ss->ss.length=n.toNat->Tx ss->(n<=36->ss.Nodup)->Q (.ref r) H'
def nmF (pre post:Str) (f:Int) (k:Nat):Str:=pre++⟨#[sgC ((f+7*(0+(k:Int))) % 36).toNat]⟩++post
theorem nmF_inj {pre post:Str} {f:Int} {i j:Nat} (hi:i<36) (hj:j<36) (e:nmF pre post f i=nmF pre post f j):i=j:=by
 have e1:=congrArg (fun s:Str=>s.cps.toList) e;unfold nmF at e1;simp only[Str.cps_append,hBh]at e1;have e2:=List.append_cancel_left (List.append_cancel_right e1);have a0:=hBv (f+7*(0+(i:Int))) (show(36:Int)≠0 by decide);have a1:=hBf (f+7*(0+(i:Int))) (show(0:Int)<36 by decide);have b0:=hBv (f+7*(0+(j:Int))) (show(36:Int)≠0 by decide);have b1:=hBf (f+7*(0+(j:Int))) (show(0:Int)<36 by decide);have e3:sgC ((f+7*(0+(i:Int))) % 36).toNat=sgC ((f+7*(0+(j:Int))) % 36).toNat:=by simpa using e2
 have e4:=sgC_inj (by omega) (by omega) e3;omega
theorem nd_range {g:Nat->Str}:∀ {n:Nat},(∀ i j,i<n->j<n->g i=g j->i=j)->((List.range n).map g).Nodup
 | 0,_=>hCe
 | n+1,h=>by
  rw[hDf,hA9,hCc];refine⟨nd_range fun i j hi hj=>h i j (by omega) (by omega),by simp,fun a ha b hb=>?_⟩;obtain⟨i,hi,rfl⟩:=hAb.mp ha;rw[List.map_singleton,hA7]at hb;subst hb;rw[hBb]at hi;intro z;have:=h i n (by omega) (by omega) z;omega
section
variable {P:Program} {w:World} {K:PySem.W.Frag} {mg:Str->Option Value} {base:Heap} {f f1 f2:Addr} {fd fd1 fd2:FuncData}
abbrev bgN:List Str:=["_law_script","_law_k","_law_x","_law_total","_law_j"]
theorem scBig:FnScope bgN ["_law_script","_law_k"] (qAb sBig):=⟨rfl,rfl,rfl,by decide +kernel,rfl,by decide +kernel,by decide +kernel⟩
theorem ok_big (F:Fun K "_law_big" "_law_big" sBig f fd) (G:Cl P w K mg base CX0 1 f1 fd1 ["_law_script","_law_k"] (spCell K) "_law_cell_at") (mr:mg "range" = none) (ma:mg "abs" = none) :
  FnOk P w K mg base CX0 2 f fd ["_law_script","_law_k"] (spBig K):=by
 refine F.ok scBig (fun vs H Q E h=>?_) (fun cdv A outer s H vs Q E hr h=>?_)
 ·obtain⟨a,ns,k,rfl,_⟩:=h;rfl
 obtain⟨a,ns,k,rfl,hS,h0,h1,q⟩:=h;refine⟨_,pss_cons (qCq (qAp op_ge (qAj call_abs rfl ma boot_abs' (qAa (qAy G hr rfl .nil qAz (qAa (pv 0) (qAa (pv 1) qAc))) qAc)) (qAk op_pow qAd qAd) (qAw _))
   (qAh (qAu (qAk op_sub (qAj call_abs rfl ma boot_abs' (qAa (qAy G hr rfl .nil qAz (qAa (pv 0) (qAa (pv 1) qAc))) qAc)) (qAk op_pow qAd qAd)))) qBl)
  (pss_cons (qAn (i:=2) scBig.nd rfl (Or.inl rfl) (qAk qBw (qAk qBw (qAk qBw (qAk qBe (qAy G hr rfl .nil qAz (qAa (pv 0) (qAa qAd qAc))) qAd) (qAk qDx qAd (pv 1))) (qAk qDx qAd (qAy G hr rfl .nil qAz (qAa (pv 0) (qAa (pv 1) qAc))))) qAd))
  (pss_cons (qAn (i:=2) scBig.nd rfl (Or.inl rfl) (qAk qBw (qAk qBe (pv 2) qAd) qAd))
  (pss_cons (qAn (i:=3) scBig.nd rfl (Or.inl rfl) qAd)
  (pss_cons (qB6 PassesOwn.never rfl (qB2 rfl mr (qAa qAd qAc)) (qAg (i:=4) scBig.nd rfl (Or.inl rfl))
   (pss_cons (qAn (i:=2) scBig.nd rfl (Or.inl rfl) (qAk qBe (qAk qBw (qAk qBw (qAk qBw (qAk qDx (pv 2) qAd) (qAk qBd (pv 2) qAd)) (qAk qDx (qAk qDx qAd (pv 4)) (pv 4))) (pv 1)) qAd))
   (qAh (qAn (i:=3) scBig.nd rfl (Or.inl rfl) (qAk qBw (qAk qDx (pv 3) qAd) (qAk qBe (qAk qDx (pv 2) qAd) qAd))))))
  (qAh (qAu (pv 3))))))),?_⟩
 try dsimp only[Cx.wish,qB5]
 refine⟨_,rfl,_,rfl,a,ns,k,rfl,hS,h0,fun v=>⟨v,rfl,?_⟩⟩;refine⟨_,_,rfl,rfl,⟨by decide,by decide,by decide⟩,_,_,rfl,rfl,_,rfl,?_⟩;refine qDa (fun c=>?_) (fun c=>?_)
 ·refine⟨_,rfl,_,rfl,a,ns,k,rfl,hS,h0,fun v=>⟨v,rfl,?_⟩⟩;exact⟨_,_,rfl,rfl,⟨by decide,by decide,by decide⟩,_,_,rfl,rfl,q _⟩
 refine⟨_,rfl,a,ns,0,rfl,hS,by decide,fun v1=>?_⟩;refine⟨_,_,rfl,rfl,(by show(0:Int)<_;decide),_,rfl,_,_,rfl,rfl,.inl ⟨by decide,by decide⟩,_,_,rfl,rfl,?_⟩;refine⟨_,rfl,_,rfl,a,ns,k,rfl,hS,h0,fun v2=>?_⟩;refine⟨_,_,rfl,rfl,.inl ⟨by decide,by decide⟩,_,_,rfl,rfl,_,_,rfl,rfl,?_⟩;refine⟨_,rfl,_,_,rfl,rfl,(by show(0:Int)<_;decide),_,_,rfl,rfl,?_⟩;refine⟨8,rfl,by decide,by decide,qCh (lo:=0) (n:=8) (fun i σ H'=>H'=H/\∃ (x t:Int) (z:Option V),σ=[some (.ref a),some (.int k),some (.int x),some (.int t),z]) ⟨rfl,_,0,none,rfl⟩ ?_ ?_⟩
 ·rintro i σ H' hi ⟨rfl,x,t,z,rfl⟩;refine⟨_,rfl,_,_,rfl,rfl,.inr ⟨by decide,by decide⟩,_,rfl,_,_,rfl,rfl,⟨by decide,by decide⟩,_,_,rfl,rfl,?_⟩;refine⟨_,rfl,_,_,rfl,rfl,.inl ⟨by decide,by decide⟩,_,rfl,_,_,rfl,rfl,.inr ⟨by omega,by omega⟩,_,_,rfl,rfl,?_⟩;refine⟨_,rfl,_,_,rfl,rfl,_,_,rfl,rfl,(by show(0:Int)<_;decide),?_⟩;refine⟨_,rfl,_,_,rfl,rfl,.inr ⟨by decide,by decide⟩,_,rfl,_,_,rfl,rfl,.inr ⟨by decide,by decide⟩,_,_,rfl,rfl,(by show(0:Int)<_;decide),_,_,rfl,rfl,?_⟩;exact⟨rfl,_,_,_,rfl⟩
 ·rintro σ H' ⟨rfl,x,t,z,rfl⟩;exact⟨_,rfl,q _⟩
abbrev naN:List Str:=["_law_big_here","_law_many","_law_signs","_law_word","_law_k","_law_spot","_law_first","_law_head","_law_tail"]
theorem qB7:FnScope naN ["_law_big_here","_law_many"] (qAb qFx):=⟨rfl,rfl,rfl,by decide +kernel,rfl,by decide +kernel,by decide +kernel⟩
theorem ok_names (F:Fun K "_law_names" "_law_names" qFx f fd) (mr:mg "range" = none) (ml:mg "len" = none):FnOk P w K mg base CX0 1 f fd ["_law_big_here","_law_many"] spNames:=by
 refine F.ok qB7 (fun vs H Q E h=>?_) (fun cdv A outer s H vs Q E hr h=>?_)
 ·obtain⟨b,n,rfl,_⟩:=h;rfl
 obtain⟨b,n,rfl,n0,n1,q⟩:=h;refine⟨_,pss_cons (qAn (i:=2) qB7.nd rfl (Or.inr rfl) pe_str)
  (pss_cons (qAn (i:=3) qB7.nd rfl (Or.inl rfl) pe_str)
  (pss_cons (qB6 PassesOwn.never rfl (qB2 rfl mr (qAa (qAk qBw qAd (qAk qBe (pv 0) qAd)) qAc)) (qAg (i:=4) qB7.nd rfl (Or.inl rfl))
   (pss_cons (qAn (i:=3) qB7.nd rfl (Or.inl rfl) (qAk qEk (pv 3) (pe_ix ix_str (pv 2) (qAk qBe (qAk qBd (pv 0) qAd) qAd) (fun _ _=>rfl))))
   (qAh (qAn (i:=0) qB7.nd rfl (Or.inl rfl) (qAk qBd (pv 0) qAd)))))
  (pss_cons (qAn (i:=5) qB7.nd rfl (Or.inl rfl) (qAk qBe (qAk qBd (pv 0) qAd) (qAj call_len_str rfl ml hB9 (qAa (pv 3) qAc))))
  (pss_cons (qAn (i:=6) qB7.nd rfl (Or.inr rfl) (qAk qBe (qAk qBd (pv 0) qAd) qAd))
  (pss_cons (ps_asg (qCn (qAa (qC2 sl_str (pv 3) qEi (qEh (pv 5))) (qAa (qC2 sl_str (pv 3) (qEh (qAk qBw (pv 5) qAd)) qEi) qAc))) (qB3 rfl (qAm (qAg (i:=7) qB7.nd rfl (Or.inr rfl)) (qAm (qAg (i:=8) qB7.nd rfl (Or.inr rfl)) qBo))))
  (qAh (qAu (pe_lc (N:=naN) (sc:=qAb qFx) (N':=["_law_k","_law_head","_law_signs","_law_first","_law_tail"]) (sub:=[none,some 7,some 2,some 6,some 8]) rfl rfl (CmpOk.of (by decide +kernel)) rfl (qB2 rfl mr (qAa (pv 1) qAc))
   (fun C s H fp=>⟨qAg (i:=0) (by show(["_law_k","_law_head","_law_signs","_law_first","_law_tail"]:List Str).Nodup;decide) rfl (Or.inl rfl),qA7,
    qAk qEk (qAk qEk (pv 1) (pe_ix ix_str (pv 2) (qAk qBe (qAk qBw (pv 3) (qAk qDx qAd (pv 0))) qAd) (fun _ _=>rfl))) (pv 4)⟩))))))))),?_⟩
 try dsimp only[Cx.wish,qB5]
 have b6:=hBv b (show(6:Int)≠0 by decide);have b6':=hBf b (show(0:Int)<6 by decide);refine⟨_,rfl,_,_,rfl,rfl,(by show(0:Int)<_;decide),_,_,rfl,rfl,1+b % 6,rfl,by omega,by omega,?_⟩;refine qCh (lo:=0) (n:=(1+b % 6).toNat) (fun i σ H'=>H'=H/\∃ (b':Int) (word:Str) (x:Option V),σ=[some (.int b'),some (.int n),some (.str sg),some (.str word),x,none,none,none,none]/\word.length=i/\Sm word) ⟨rfl,b,"",none,rfl,rfl,Sm.nil⟩ ?_ ?_
 ·rintro i σ H' hi ⟨rfl,b',word,x,rfl,hw,sm⟩;have c1:=hBv (b' / 6) (show(36:Int)≠0 by decide);have c2:=hBf (b' / 6) (show(0:Int)<36 by decide);refine⟨_,rfl,_,rfl,_,rfl,_,_,rfl,rfl,⟨by decide,by decide⟩,_,_,rfl,rfl,(by show(0:Int)<_;decide),sg,_,sgC (b' / 6 % 36).toNat,rfl,rfl,by decide +kernel,sg_at c1 c2,word,⟨#[sgC (b' / 6 % 36).toNat]⟩,rfl,rfl,?_,?_⟩
  ·show word.length+1<=sizeLine;exact hB3 (qAi (by omega))
  ·refine⟨_,rfl,_,_,rfl,rfl,⟨by decide,by decide⟩,?_⟩;refine⟨rfl,_,_,_,rfl,?_,sm.app (Sm.one (sgC_small (by omega)))⟩;rw[Str.length_append];show word.length+1=i+1;omega
 ·rintro σ H' ⟨rfl,b',word,x,rfl,hw,sm⟩;have wl:word.length<=sizeLine:=hB3 (qAi (by omega));have fa:=hBv (b' / 216) (show(36:Int)≠0 by decide);have fb:=hBf (b' / 216) (show(0:Int)<36 by decide);refine⟨_,rfl,_,_,rfl,rfl,⟨by decide,by decide⟩,_,rfl,word,rfl,wl,_,_,rfl,rfl,(by show(0:Int)<_;omega),?_⟩;refine⟨_,rfl,_,_,rfl,rfl,⟨by decide,by decide⟩,_,_,rfl,rfl,(by show(0:Int)<_;decide),?_⟩;obtain⟨spot,hsp⟩:∃ spot,b' / 6 % ((word.length:Nat):Int)=spot:=⟨_,rfl⟩;refine⟨_,rfl,_,rfl,_,rfl,word,rfl,wl,_,rfl,_,rfl,_,_,rfl,rfl,_,rfl,word,rfl,wl,(by show 2<=sizeLine;decide),fun T hT=>⟨T,_,rfl,SqT.of upd_same,rfl,_,_,rfl,_,_,rfl,rfl,?_⟩⟩;have l1:=Txt.slice_le word none (some spot);have l2:=Txt.slice_le word (some (spot+1)) none;have s1:=sm.slice none (some spot);have s2:=sm.slice (some (spot+1)) none;have X1:=Ext.new hT (.tup [V.str (Txt.slice word none (some spot)),V.str (Txt.slice word (some (spot+1)) none)]);refine⟨_,rfl,n,rfl,by omega,by omega,?_⟩;refine turns_range (lo:=0) (n:=n.toNat) (fun i ys H2=>H2=upd H' T (.tup [V.str (Txt.slice word none (some spot)),V.str (Txt.slice word (some (spot+1)) none)])/\∃ ss:List Str,ys=ss.map V.str/\ss.length=i/\Tx ss/\ss=(List.range i).map (nmF (Txt.slice word none (some spot)) (Txt.slice word (some (spot+1)) none) (b' / 216 % 36))) ⟨by rw[hsp],[],rfl,rfl,(fun s hs=>by cases hs),rfl⟩ ?_ ?_
  ·rintro i ys H2 hi ⟨rfl,ss,rfl,ls,tx,eq⟩;have ea:=hBv (b' / 216 % 36+7*(0+(i:Int))) (show(36:Int)≠0 by decide);have eb:=hBf (b' / 216 % 36+7*(0+(i:Int))) (show(0:Int)<36 by decide);rw[hsp];refine⟨Sle.set _ (Sle.refl _) (fun u z=>by cases z),iteT (B:=False) ⟨_,rfl,_,rfl,_,rfl,_,rfl,_,_,rfl,rfl,.inl ⟨by decide,by decide⟩,_,_,rfl,rfl,_,_,rfl,rfl,(by show(0:Int)<_;decide),sg,_,sgC ((b' / 216 % 36+7*(0+(i:Int))) % 36).toNat,rfl,rfl,by decide +kernel,sg_at ea eb,_,_,rfl,rfl,?_,_,rfl,_,_,rfl,rfl,?_,?_,nxt hi ⟨rfl,ss++[Txt.slice word none (some spot)++⟨#[sgC ((b' / 216 % 36+7*(0+(i:Int))) % 36).toNat]⟩++Txt.slice word (some (spot+1)) none],?_,?_,?_,?_⟩⟩⟩
   ·show _+1<=sizeLine;exact hB3 (qAi (by omega))
   ·rw[Str.length_append];show _+1+_<=sizeLine;exact hB3 (qAi (by omega))
   ·rw[hA1];exact qAi (by omega)
   ·rw[hA9];rfl
   ·rw[hAd,ls];rfl
   ·intro s hs;rcases hAe.mp hs with z | z
    ·exact tx s z
    ·rw[hA7]at z;subst z;exact(s1.app (Sm.one (sgC_small (by omega)))).app s2
   ·rw[eq,hDf,hA9];rfl
  ·rintro ys H2 ⟨rfl,ss,rfl,ls,tx,eq⟩ r hr';exact q r ss _ (X1.trans (Ext.new hr' _)) (X1.none hr') upd_same ls tx (fun n36=>by rw[eq];exact nd_range fun i j hi hj=>nmF_inj (by omega) (by omega))
end
end My
namespace My
open PySem L2
abbrev enV (e:Int×Int):List V:=[.int e.1,.int e.2]
def qD8 (H:Hp) (p:Addr) (es:List (Int×Int)):Prop:=∃ as:List Addr,H p=some (.lst (as.map V.ref))/\Paired (fun a e=>H a=some (.tup (enV e))) as es
theorem qD8.ext {H H':Hp} {p:Addr} {es:List (Int×Int)} (h:qD8 H p es) (e:Ext H H'):qD8 H' p es:=by
 obtain⟨as,h1,h2⟩:=h;exact⟨as,e _ _ h1,Paired.mapP h2 fun a t z=>e _ _ z⟩
theorem qD8.snoc {H H':Hp} {k a:Addr} {as:List Addr} {net:List (Int×Int)} {t:Int×Int} (hk:H k=some (.lst (as.map V.ref))) (pr:Paired (fun a t=>H a=some (.tup (enV t))) as net) (e:Ext H H') (ha:H' a=some (.tup (enV t))):qD8 (upd H' k (.lst (as.map V.ref++[V.ref a]))) k (net++[t]):=by
 have hk':=e _ _ hk;have ne:∀ {b:Addr} {xs:List V},H' b=some (.tup xs)->b≠k:=fun h z=>by rw[z,hk']at h;cases h
 refine⟨as++[a],by rw[upd_same,hA9];rfl,?_⟩;refine Paired.snoc (Paired.mapP pr fun b u z=>?_) ?_
 ·have z':=e _ _ z;rw[qAe (ne z')];exact z'
 ·rw[qAe (ne ha)];exact ha
theorem at_int {hs:List Int} {i:Int} (h0:0<=i) (h1:i<(hs.length:Int)):∃ v,atI (hs.map V.int) i=some (.int v):=by
 have hk:i.toNat<hs.length:=by omega
 have hv:atI (hs.map V.int) ((i.toNat:Nat):Int)=some (.int hs[i.toNat]):=atI_nat (by rw[hAh,hA2 hk] <;> rfl);rw[hD2 h0]at hv;exact⟨_,hv⟩
def InSp (sp:Int) (e:Int×Int):Prop:=(0<=e.1/\e.1<sp)/\0<=e.2/\e.2<sp
def spEnds:Sp:=fun vs H Q _=>∃ (b n sp:Int),vs=[.int b,.int n,.int sp]/\0<=n/\n<=12/\0<sp/\sp<=10/\∀ r es H',Ext H H'->H r=none->qD8 H' r es->es.length<=n.toNat->(∀ e∈es,InSp sp e)->Q (.ref r) H'
section
variable {P:Program} {w:World} {K:PySem.W.Frag} {mg:Str->Option Value} {base:Heap} {f f1 f2:Addr} {fd fd1 fd2:FuncData}
abbrev eN:List Str:=["_law_big_here","_law_many","_law_spread","_law_heaps","_law_found","_law_high","_law_k","_law_one","_law_other","_law_gone"]
theorem qCp:FnScope eN ["_law_big_here","_law_many","_law_spread"] (qAb sEnds):=⟨rfl,rfl,rfl,by decide +kernel,rfl,by decide +kernel,by decide +kernel⟩
structure EI (H:Hp) (sp n:Int) (i:Nat) (σ:St) (H':Hp) (b' h:Int) (hp fo:Addr) (hs:List Int) (es:List (Int×Int)):Prop where
 st:∃ x6 x7 x8 x9:Option V,σ=[some (.int b'),some (.int n),some (.int sp),some (.ref hp),some (.ref fo),some (.int h),x6,x7,x8,x9]
 ext:Ext H H'
 fo0:H fo=none
 ne:hp≠fo
 hsA:H' hp=some (.lst (hs.map V.int))
 hsl:(hs.length:Int)=sp
 esA:qD8 H' fo es
 esl:es.length<=i
 esi:∀ e∈es,InSp sp e
theorem ok_ends (F:Fun K "_law_ends" "_law_ends" sEnds f fd) (mr:mg "range" = none) (ml:mg "len" = none) (mL:mg "list" = none):FnOk P w K mg base CX0 1 f fd ["_law_big_here","_law_many","_law_spread"] spEnds:=by
 refine F.ok qCp (fun vs H Q E h=>?_) (fun cdv A outer s H vs Q E hr h=>?_)
 ·obtain⟨b,n,sp,rfl,_⟩:=h;rfl
 obtain⟨b,n,sp,rfl,n0,n1,p0,p1,q⟩:=h;refine⟨_,pss_cons (qAn (i:=3) qCp.nd rfl (Or.inr rfl) (qBb (call_list_rng rfl) rfl mL qBj (qAa (qBb call_range1' rfl mr boot_range' (qAa (pv 2) qAc)) qAc)))
  (pss_cons (qAn (i:=4) qCp.nd rfl (Or.inl rfl) (qBk qAc))
  (pss_cons (qAn (i:=5) qCp.nd rfl (Or.inl rfl) qAd)
  (pss_cons (qB6 PassesOwn.never rfl (qB2 rfl mr (qAa (pv 1) qAc)) (qAg (i:=6) qCp.nd rfl (Or.inl rfl))
   (pss_cons (ps_asg (qCn (qAa (qAk qBe (pv 0) (pv 2)) (qAa (qAk qBe (qAk qBd (pv 0) (pv 2)) (pv 2)) qAc))) (qB3 rfl (qAm (qAg (i:=7) qCp.nd rfl (Or.inr rfl)) (qAm (qAg (i:=8) qCp.nd rfl (Or.inl rfl)) qBo))))
   (pss_cons (qAn (i:=0) qCp.nd rfl (Or.inl rfl) (qAk qBd (qAk qBd (pv 0) (pv 2)) (pv 2)))
   (qAh (qCq (PW.pt (pw_and (qAp qCs (pe_ix ix_list (pv 3) (pv 7) (fun _ _=>rfl)) (pe_ix ix_list (pv 3) (pv 8) (fun _ _=>rfl)) (qAw _)) (pw_and1 (qAp op_lt (qAk op_sub (qAj qAq rfl ml hB9 (qAa (pv 4) qAc)) (pv 5)) qAd (qAw _)))))
    (qAh (qEg (pe_bm hC7 hC4 hC5 qCf (pv 4) (qAa (qCn (qAa (pv 7) (qAa (pv 8) qAc))) qAc))))
    (qAh (qCq (PW.pt (pw_and (qAp op_ne (pe_ix ix_list (pv 3) (pv 7) (fun _ _=>rfl)) (pe_ix ix_list (pv 3) (pv 8) (fun _ _=>rfl)) (qAw _)) (pw_and1 (qAp op_lt (pv 5) qAd (qAw _)))))
     (pss_cons (qEg (pe_bm hC7 hC4 hC5 qCf (pv 4) (qAa (qCn (qAa (pv 7) (qAa (pv 8) qAc))) qAc)))
     (pss_cons (ps_aug (i:=5) qCp.nd rfl (Or.inl rfl) qAd ip_add)
     (pss_cons (qAn (i:=9) qCp.nd rfl (Or.inr rfl) (pe_ix ix_list (pv 3) (pv 8) (fun _ _=>rfl)))
     (qAh (qAn (i:=3) qCp.nd rfl (Or.inr rfl) (pe_lc (N:=eN) (sc:=qAb sEnds) (N':=["_law_heap","_law_heaps","_law_one","_law_gone"]) (sub:=[none,some 3,some 7,some 9]) rfl rfl (CmpOk.of (by decide +kernel)) rfl (qAv (pv 3))
      (fun C s H fp=>⟨qAg (i:=0) (by show(["_law_heap","_law_heaps","_law_one","_law_gone"]:List Str).Nodup;decide) rfl (Or.inl rfl),qA7,qFh (qAp qCs (pv 0) (pv 3) (qAw _)) (pe_ix (show IxR _ (rIxL K) from ix_list) (pv 1) (pv 2) (fun _ _=>rfl)) (pv 0)⟩)))))))
     qBl)))))))
  (qAh (qAu (pv 4)))))),?_⟩
 try dsimp only[Cx.wish,qB5]
 refine⟨_,rfl,sp,rfl,by omega,by omega,fun rg hrg=>⟨rg,sp,rfl,upd_same,by omega,by omega,fun hp hhp=>?_⟩⟩;have X1:=Ext.new hrg (.rng 0 sp);have X2:=X1.trans (Ext.new hhp (.lst ((List.range sp.toNat).map fun (i:Nat)=>V.int (i:Int))));refine⟨hAq _,fun fo hfo=>?_⟩;have f0:=X2.none hfo;refine⟨_,rfl,n,rfl,by omega,by omega,qCh (lo:=0) (n:=n.toNat) (fun i σ H'=>∃ b' h hp fo hs es,EI H sp n i σ H' b' h hp fo hs es)
  ⟨b,0,hp,fo,(List.range sp.toNat).map fun (i:Nat)=>(i:Int),[],⟨_,_,_,_,rfl⟩,X2.trans (Ext.new hfo _),f0,fun e=>(by rw[<-e,upd_same]at hfo;cases hfo),?_,?_,⟨[],upd_same,.nil⟩,hA5 _,fun e he=>by cases he⟩ ?_ ?_⟩
 ·rw[qAe (fun e=>by rw[<-e,upd_same]at hfo;cases hfo),upd_same,hB2];rfl
 ·rw[hA1,hC3];omega
 ·rintro i σ H' hi ⟨b',h,hp,fo,hs,es,⟨x6,x7,x8,x9,rfl⟩,ext,fo0,ne,hsA,hsl,esA,esl,esi⟩;have sp0:(0:Int)<sp:=p0;have o0:=hBv b' (show sp≠0 by omega);have o1:=hBf b' p0;have t0:=hBv (b' / sp) (show sp≠0 by omega);have t1:=hBf (b' / sp) p0;have cd:CDiv (b' / sp) sp:=⟨p0,by omega⟩;have cd':CDiv b' sp:=⟨p0,by omega⟩;refine⟨_,rfl,_,rfl,_,_,rfl,rfl,p0,_,rfl,_,rfl,_,_,rfl,rfl,cd',_,rfl,_,_,rfl,rfl,p0,(by show 2<=sizeLine;decide),fun T hT=>⟨T,_,rfl,SqT.of upd_same,rfl,_,_,rfl,_,_,rfl,rfl,?_⟩⟩;have X3:=Ext.new hT (.tup [V.int (b' % sp),V.int (b' / sp % sp)]);refine⟨_,rfl,_,rfl,_,_,rfl,rfl,cd',_,rfl,_,_,rfl,rfl,cd,?_⟩;obtain⟨v1,a1⟩:=at_int (hs:=hs) o0 (by omega);obtain⟨v2,a2⟩:=at_int (hs:=hs) t0 (by omega);have hs3:=X3 _ _ hsA;have es3:=esA.ext X3;obtain⟨as,ea1,ea2⟩:=id esA;have la:as.length=es.length:=ea2.length;have inn:InSp sp ((b' % sp),(b' / sp % sp)):=⟨⟨o0,o1⟩,t0,t1⟩;refine⟨_,rfl,_,rfl,hp,_,_,_,rfl,rfl,SqL.of hs3,a1,_,rfl,_,rfl,hp,_,_,_,rfl,rfl,SqL.of hs3,a2,rfl,_,rfl,?_⟩;refine qDa (fun c=>?_) (fun c=>?_)
  ·refine⟨_,rfl,fo,_,rfl,.inl (SqL.of (X3 _ _ ea1)),_,rfl,_,_,rfl,rfl,_,_,rfl,rfl,_,rfl,?_⟩;refine qDa (fun c2=>?_) (fun c2=>?_)
   ·refine⟨_,rfl,.inl ⟨rfl,_,SqL.of (X3 _ _ ea1)⟩,_,rfl,_,rfl,(by show 2<=sizeLine;decide),fun T2 hT2=>?_⟩;have X4:=X3.trans (Ext.new hT2 (.tup (enV ((b' % sp),(b' / sp % sp)))));refine⟨fo,_,_,rfl,rfl,X4 _ _ ea1,by rw[hA1];exact qAi (by omega),?_⟩;refine⟨_,_,hp,fo,hs,es++[((b' % sp),(b' / sp % sp))],⟨_,_,_,_,rfl⟩,(ext.trans X4).over fo0 _,fo0,ne,by rw[qAe ne];exact X4 _ _ hsA,hsl,qD8.snoc ea1 ea2 X4 upd_same,by rw[hAd];exact Nat.succ_le_succ esl,fun e he=>?_⟩;rcases hAe.mp he with z | z
    ·exact esi e z
    ·rw[hA7]at z;subst z;exact inn
   ·refine⟨_,rfl,_,rfl,hp,_,_,_,rfl,rfl,SqL.of hs3,a1,_,rfl,_,rfl,hp,_,_,_,rfl,rfl,SqL.of hs3,a2,rfl,_,rfl,?_⟩;refine qDa (fun c3=>?_) (fun c3=>?_)
    ·have e1:v1=v2:=by simpa using c
     have e2:¬v1=v2:=by simpa using c3
     exact absurd e1 e2
    ·refine iteF ?_;exact⟨_,_,hp,fo,hs,es,⟨_,_,_,_,rfl⟩,ext.trans X3,fo0,ne,hs3,hsl,es3,by omega,esi⟩
  ·refine iteF ?_;refine⟨_,rfl,_,rfl,hp,_,_,_,rfl,rfl,SqL.of hs3,a1,_,rfl,_,rfl,hp,_,_,_,rfl,rfl,SqL.of hs3,a2,rfl,_,rfl,?_⟩;refine qDa (fun c3=>?_) (fun c3=>?_)
   ·refine⟨_,rfl,_,_,rfl,rfl,_,rfl,?_⟩;refine qDa (fun c2=>?_) (fun c2=>?_)
    ·refine⟨_,rfl,.inl ⟨rfl,_,SqL.of (X3 _ _ ea1)⟩,_,rfl,_,rfl,(by show 2<=sizeLine;decide),fun T2 hT2=>?_⟩;have X4:=X3.trans (Ext.new hT2 (.tup (enV ((b' % sp),(b' / sp % sp)))));refine⟨fo,_,_,rfl,rfl,X4 _ _ ea1,by rw[hA1];exact qAi (by omega),?_⟩;have hs4:upd (upd (upd H' T (.tup [V.int (b' % sp),V.int (b' / sp % sp)])) T2 (.tup (enV ((b' % sp),(b' / sp % sp))))) fo (.lst (as.map V.ref++[V.ref T2])) hp=some (.lst (hs.map V.int)):=by rw[qAe ne];exact X4 _ _ hsA
     have en4:=qD8.snoc (t:=((b' % sp),(b' / sp % sp))) ea1 ea2 X4 upd_same;have X5:=(ext.trans X4).over fo0 (.lst (as.map V.ref++[V.ref T2]));refine⟨_,rfl,_,_,rfl,rfl,?_⟩;refine⟨_,rfl,_,rfl,hp,_,_,_,rfl,rfl,SqL.of hs4,a2,?_⟩;refine⟨_,rfl,hp,rfl,⟨_,SqL.of hs4⟩,?_⟩;refine turns_pure (fun v=>some (if v = .int v2 then .int v1 else v)) (SqL.of hs4) (by rw[hA1];exact hB3 (qAi (by omega))) (fun x hx C hC=>?_) (fun r hr'=>?_)
     ·obtain⟨y,_,rfl⟩:=hAb.mp hx;refine⟨Sle.set _ (Sle.refl _) (fun u z=>by cases z),iteT (B:=False) ?_⟩;refine⟨_,rfl,_,rfl,rfl,_,rfl,?_⟩;refine qDa (fun c5=>?_) (fun c5=>?_)
      ·have e5:y=v2:=by simpa using c5
       subst e5;refine⟨_,rfl,_,rfl,hp,_,_,_,rfl,rfl,SqL.of hs4,a1,?_⟩;rw[if_pos rfl]at hC;exact hC
      ·have e5:¬y=v2:=by simpa using c5
       rw[if_neg (fun z=>e5 (V.int.inj z))]at hC;exact⟨_,rfl,hC⟩
     ·have rf:r≠fo:=fun e=>by rw[e,upd_same]at hr';cases hr'
      have em:(hs.map V.int).filterMap (fun v=>some (if v = .int v2 then .int v1 else v))=(hs.map fun y=>if y=v2 then v1 else y).map V.int:=by
       rw[List.filterMap_eq_map',hB2,hB2];refine hBu fun y _=>?_
       show(if V.int y=V.int v2 then V.int v1 else V.int y)=V.int (if y=v2 then v1 else y);by_cases z:y=v2
       ·subst z;rw[if_pos rfl,if_pos rfl]
       ·rw[if_neg (fun e=>z (V.int.inj e)),if_neg z]
      rw[em];refine⟨_,_,r,fo,_,es++[((b' % sp),(b' / sp % sp))],⟨_,_,_,_,rfl⟩,X5.trans (Ext.new hr' _),fo0,rf,upd_same,by rw[hA1];exact hsl,en4.ext (Ext.new hr' _),by rw[hAd];exact Nat.succ_le_succ esl,fun e he=>?_⟩;rcases hAe.mp he with z | z
      ·exact esi e z
      ·rw[hA7]at z;subst z;exact inn
    ·exact⟨_,_,hp,fo,hs,es,⟨_,_,_,_,rfl⟩,ext.trans X3,fo0,ne,hs3,hsl,es3,by omega,esi⟩
   ·refine iteF ?_;exact⟨_,_,hp,fo,hs,es,⟨_,_,_,_,rfl⟩,ext.trans X3,fo0,ne,hs3,hsl,es3,by omega,esi⟩
 ·rintro σ H' ⟨b',h,hp,fo,hs,es,⟨x6,x7,x8,x9,rfl⟩,ext,fo0,ne,hsA,hsl,esA,esl,esi⟩;exact⟨_,rfl,q fo es H' ext fo0 esA esl esi⟩
end
end My
namespace L2
open PySem PySem.Spec PyProof.Rows
theorem for_pairs {n:Nat} {Ls:Hp->Prop} {xv:Nat->List V} {g:TG} {tb:TS} {D:Ends} {σ:St} {H:Hp} (Pv:Nat->St->Hp->Prop) (h0:Pv 0 σ H) (hl:∀ i σ H,i<=n->Pv i σ H->Ls H)
  (hs:∀ i σ H T,i<n->Pv i σ H->H T=none->g (.ref T) σ (upd H T (.tup (xv i))) fun σ2 H2=>tb { D with nx:=Pv (i+1),ct:=Pv (i+1),bk:=D.nx } σ2 H2) (hd:∀ σ H,Pv n σ H->D.nx σ H) :
  ∃ W:Nat->Nat->St->Hp->Prop,(∃ m,W 0 m σ H)/\∀ i m σ H,W i m σ H ->
   ((Itp n Ls xv).stop i H/\D.nx σ H)\/((Itp n Ls xv).go i H/\∃ N:St->Hp->Prop,(∀ σ' H',N σ' H'->∃ m',m'<m/\W (i+1) m' σ' H')/\∀ x H',(Itp n Ls xv).yld i H x H'->g x σ H' fun σ2 H2=>tb { D with nx:=N,ct:=N,bk:=D.nx } σ2 H2):=by
 refine⟨fun i m σ H=>m=n - i/\i<=n/\Pv i σ H,⟨n,by simp,hAq _,h0⟩,?_⟩;rintro i m σ H ⟨rfl,hi,p⟩;have q:=hl i σ H hi p;by_cases hlt:i<n
 ·refine .inr ⟨⟨q,hlt⟩,Pv (i+1),fun σ' H' p'=>⟨n - (i+1),by omega,rfl,hlt,p'⟩,fun x H' y=>?_⟩;obtain⟨T,e1,e2,e3⟩:=y;subst e2 e3;exact hs i σ H T hlt p e1
 ·have e:i=n:=by omega
  subst e;exact .inl ⟨⟨q,rfl⟩,hd σ H p⟩
end L2
namespace My
open PySem L2
theorem at_intM {hs:List Int} {i:Int} (h0:0<=i) (h1:i<(hs.length:Int)):∃ v∈hs,atI (hs.map V.int) i=some (.int v):=by
 have hk:i.toNat<hs.length:=by omega
 have hv:atI (hs.map V.int) ((i.toNat:Nat):Int)=some (.int hs[i.toNat]):=atI_nat (by rw[hAh,hA2 hk] <;> rfl);rw[hD2 h0]at hv;exact⟨_,hBw hk,hv⟩
theorem at_strM {hs:List Str} {i:Int} (h0:0<=i) (h1:i<(hs.length:Int)):∃ v∈hs,atI (hs.map V.str) i=some (.str v):=by
 have hk:i.toNat<hs.length:=by omega
 have hv:atI (hs.map V.str) ((i.toNat:Nat):Int)=some (.str hs[i.toNat]):=atI_nat (by rw[hAh,hA2 hk] <;> rfl);rw[hD2 h0]at hv;exact⟨_,hBw hk,hv⟩
theorem paired_mem {α β:Type} {R:α->β->Prop}:∀ {as:List α} {bs:List β},Paired R as bs->∀ a∈as,∃ b∈bs,R a b
 | _,_,.nil,a,h=>by cases h
 | _,_,.cons h t,a,ha=>by
  rcases hAa.mp ha with rfl | z
  ·exact⟨_,hA3,h⟩
  ·obtain⟨b,hb,hr⟩:=paired_mem t a z;exact⟨b,hA4 _ hb,hr⟩
theorem qGy {α β γ:Type} {R:α->β->Prop} {S:α->γ->Prop} (g:β->γ) (h:∀ a b,R a b->S a (g b)):∀ {as:List α} {bs:List β},Paired R as bs->Paired S as (bs.map g)
 | _,_,.nil=>.nil
 | _,_,.cons x t=>.cons (h _ _ x) (qGy g h t)
theorem qA8.snoc {H H':Hp} {k a:Addr} {as:List Addr} {net:List Tr} {t:Tr} (hk:H k=some (.lst (as.map V.ref))) (pr:Paired (fun a t=>H a=some (.tup (trV t))) as net) (e:Ext H H') (ha:H' a=some (.tup (trV t))):qA8 (upd H' k (.lst (as.map V.ref++[V.ref a]))) k (net++[t]):=by
 have hk':=e _ _ hk;have ne:∀ {b:Addr} {xs:List V},H' b=some (.tup xs)->b≠k:=fun h z=>by rw[z,hk']at h;cases h
 refine⟨as++[a],by rw[upd_same,hA9];rfl,?_⟩;refine Paired.snoc (Paired.mapP pr fun b u z=>?_) ?_
 ·have z':=e _ _ z;rw[qAe (ne z')];exact z'
 ·rw[qAe (ne ha)];exact ha
def rowT (t:Tr):List Str:=[t.1,t.2.1,t.2.2]
def t0:Tr:=("","","")
theorem rowT_at:∀ {net:List Tr} {i:Nat},i<net.length->rowT (net.getD i t0)=(net.map rowT).getD i []
 | [],_,h=>absurd h (hCf _)
 | t :: r,0,_=>rfl
 | t :: r,i+1,h=>by simpa using rowT_at (net:=r) (i:=i) (by simpa using h)
theorem net_pick {H:Hp}:∀ {as:List Addr} {net:List Tr} {i:Nat},Paired (fun a t=>H a=some (.tup (trV t))) as net->i<as.length->H (as.getD i 0)=some (.tup (trV (net.getD i t0)))
 | _,_,i,.nil,hi=>absurd hi (hCf _)
 | _,_,0,.cons h _,_=>h
 | _,_,i+1,.cons _ t,hi=>by simpa using net_pick (i:=i) t (by simpa using hi)
theorem net_picks {H:Hp} {as:List Addr} {net:List Tr} (pr:Paired (fun a t=>H a=some (.tup (trV t))) as net):∀ {l:List Nat},(∀ i∈l,i<as.length)->Paired (fun a t=>H a=some (.tup (trV t))) (l.map fun i=>as.getD i 0) (l.map fun i=>net.getD i t0)
 | [],_=>.nil
 | i :: l,h=>.cons (net_pick pr (h i hA3)) (net_picks pr fun j hj=>h j (hA4 _ hj))
theorem qGu {net:List Tr}:∀ {l:List Nat},(∀ i∈l,i<net.length)->(l.map fun i=>net.getD i t0).map rowT=l.map fun i=>(net.map rowT).getD i []
 | [],_=>rfl
 | i :: l,h=>by
  rw[hAm,hAm,hAm,qGu fun j hj=>h j (hA4 _ hj),rowT_at (h i hA3)]
theorem rowT_inj {t u:Tr} (e:rowT t=rowT u):t=u:=by
 obtain⟨a,b,c⟩:=t;obtain⟨a',b',c'⟩:=u;unfold rowT at e;simp at e;obtain⟨e1,e2,e3⟩:=e;subst e1 e2 e3;rfl
theorem map_names (net:List Tr):(net.map rowT).map (fun r=>r.getD 0 "")=net.map (·.1):=by
 rw[hB2];rfl
theorem rise_srt:∀ {net:List Tr},Srt (net.map rowT)->(net.map (·.1)).Nodup->qDo (net.map (·.1))
 | [],_,_=>List.Pairwise.nil
 | t :: r,h,nd=>by
  rw[hAm]at h nd;obtain⟨h1,h2⟩:=hC0.mp h;obtain⟨n1,n2⟩:=hAx.mp nd;rw[hAm];refine hC0.mpr ⟨fun x hx=>?_,rise_srt h2 n2⟩;obtain⟨u,hu,rfl⟩:=hAb.mp hx;have q:=h1 (rowT u) (hBs hu);have ne:¬u.1=t.1:=fun z=>n1 (z▸hBs hu)
  unfold rowT ltL at q;rw[if_neg ne]at q;rcases sLtB_tri t.1 u.1 with z | z | z
  ·exact z
  ·exact absurd z.symm ne
  ·rw[z]at q;cases q
def TxT (t:Tr):Prop:=Sm t.1/\Sm t.2.1/\Sm t.2.2
def TxN (net:List Tr):Prop:=∀ t∈net,TxT t
def spNet (K:PySem.W.Frag):Sp:=fun vs H Q _=>∃ (a:Addr) (ns:List Int),vs=[.ref a,.int 1]/\SqL K H a (ns.map V.int)/\∀ r net H',Ext H H'->H r=none->qA8 H' r net->net.length<=12->TxN net->qDo (net.map (·.1))->Q (.ref r) H'
section
variable {P:Program} {w:World} {K:PySem.W.Frag} {mg:Str->Option Value} {base:Heap} {f f1 f2 f3:Addr} {fd fd1 fd2 fd3:FuncData}
abbrev neN:List Str:=["_law_script","_law_at","_law_head","_law_ends_here","_law_ties","_law_knots","_law_net_here","_law_tie","_law_two"]
theorem scNet:FnScope neN ["_law_script","_law_at"] (qAb sNet):=⟨rfl,rfl,rfl,by decide +kernel,rfl,by decide +kernel,by decide +kernel⟩
abbrev spr:List Int:=[4,5,3,6,5,9,2,10]
theorem ok_net (F:Fun K "_law_net" "_law_net" sNet f fd)
  (G1:Cl P w K mg base CX0 2 f1 fd1 ["_law_script","_law_k"] (spBig K) "_law_big")
  (G2:Cl P w K mg base CX0 1 f2 fd2 ["_law_big_here","_law_many","_law_spread"] spEnds "_law_ends")
  (G3:Cl P w K mg base CX0 1 f3 fd3 ["_law_big_here","_law_many"] spNames "_law_names")
  (ml:mg "len" = none) (mz:mg "zip" = none) (mtu:mg "tuple" = none) (mso:mg "sorted" = none):FnOk P w K mg base CX0 3 f fd ["_law_script","_law_at"] (spNet K):=by
 refine F.ok scNet (fun vs H Q E h=>?_) (fun cdv A outer s H vs Q E hr h=>?_)
 ·obtain⟨a,ns,rfl,_⟩:=h;rfl
 obtain⟨a,ns,rfl,hS,q⟩:=h;have hr1:=hr.mono (j:=1) (by decide);refine⟨_,pss_cons (qAn (i:=2) scNet.nd rfl (Or.inl rfl) (qAy G1 hr rfl .nil qAz (qAa (pv 0) (qAa (pv 1) qAc))))
  (pss_cons (qAn (i:=3) scNet.nd rfl (Or.inl rfl) (qAy G2 hr1 rfl .nil qAz (qAa (qAy G1 hr rfl .nil qAz (qAa (pv 0) (qAa (qAk qBw (pv 1) qAd) qAc))) (qAa (qAk qBe (qAk qBd (pv 2) qAd) qAd) (qAa
    (pe_ix ix_list (qBk (qAa qAd (qAa qAd (qAa qAd (qAa qAd (qAa qAd (qAa qAd (qAa qAd (qAa qAd qAc))))))))) (qAk qBe (pv 2) qAd) (fun _ _=>rfl)) qAc)))))
  (pss_cons (qAn (i:=4) scNet.nd rfl (Or.inl rfl) (qAy G3 hr1 rfl .nil qAz (qAa (qAk qBd (pv 2) qAd) (qAa (qAj qAq rfl ml hB9 (qAa (pv 3) qAc)) qAc))))
  (pss_cons (qAn (i:=5) scNet.nd rfl (Or.inl rfl) (qAy G3 hr1 rfl .nil qAz (qAa (qAy G1 hr rfl .nil qAz (qAa (pv 0) (qAa (qAk qBw (pv 1) qAd) qAc))) (qAa qAd qAc))))
  (pss_cons (qAn (i:=6) scNet.nd rfl (Or.inl rfl) (qBk qAc))
  (pss_cons (qB6 PassesOwn.never rfl (pi_zip rfl mz (qAa (pv 4) (qAa (pv 3) qAc))) (qB3 rfl (qAm (qAg (i:=7) scNet.nd rfl (Or.inl rfl)) (qAm (qAg (i:=8) scNet.nd rfl (Or.inl rfl)) qBo)))
   (qAh (qEg (pe_bm hC7 hC4 hC5 qCf (pv 6) (qAa
    (qAk op_catT (qCn (qAa (pv 7) qAc)) (qBb call_tuple_of rfl mtu boot_tuple' (qAa (qAj qEz rfl mso qA9 (qAa
     (qBk (qAa (pe_ix ix_list (pv 5) (pe_ix qDe (pv 8) qAd (fun _ _=>rfl)) (fun _ _=>rfl)) (qAa (pe_ix ix_list (pv 5) (pe_ix qDe (pv 8) qAd (fun _ _=>rfl)) (fun _ _=>rfl)) qAc))) qAc)) qAc))) qAc)))))
  (qAh (qAu (qAj call_sortedTO rfl mso qA9 (qAa (pv 6) qAc))))))))),?_⟩
 try dsimp only[Cx.wish,qB5]
 refine⟨_,rfl,_,rfl,a,ns,1,rfl,hS,by decide,by decide,fun hd=>?_⟩;have d1:=hBv (hd / 8) (show(13:Int)≠0 by decide);have d2:=hBf (hd / 8) (show(0:Int)<13 by decide);have d3:=hBv hd (show(8:Int)≠0 by decide);have d4:=hBf hd (show(0:Int)<8 by decide);refine⟨_,rfl,_,rfl,_,_,rfl,rfl,a,ns,_,rfl,hS,by decide,by decide,fun v1=>?_⟩;refine⟨_,rfl,_,_,rfl,rfl,⟨by decide,by decide⟩,_,_,rfl,rfl,(by show(0:Int)<_;decide),(by show 8<=sizeLine;decide),fun L hL=>?_⟩;have X1:=Ext.new hL (.lst (spr.map V.int));obtain⟨sp,spm,spa⟩:=at_intM (hs:=spr) d3 (by show hd % 8<8;exact d4);have spb:0<sp/\sp<=10:=by
  have:∀ z∈spr,0<z/\z<=10:=by decide
  exact this sp spm
 refine⟨_,rfl,_,_,rfl,rfl,(by show(0:Int)<_;decide),L,spr.map V.int,_,_,rfl,rfl,SqL.of upd_same,spa,?_⟩;refine⟨_,_,sp,rfl,d1,by omega,spb.1,spb.2,fun en es H2 e2 en0 hen esl esi=>?_⟩;have E2:=X1.trans e2;obtain⟨bs,hb1,hb2⟩:=id hen;have lb:bs.length=es.length:=hb2.length;have esl':es.length<=12:=by omega
 refine⟨_,rfl,_,_,rfl,rfl,⟨by decide,by decide⟩,_,rfl,en,_,rfl,.inl (SqL.of hb1),?_⟩;refine⟨_,_,rfl,by omega,by rw[hA1];omega,fun tl ts H3 e3 tl0 htl tsl tsx tnd=>?_⟩;have E3:=E2.trans e3;refine⟨_,rfl,_,rfl,_,_,rfl,rfl,a,ns,_,rfl,E3.sqL hS,by decide,by decide,fun v2=>?_⟩;refine⟨_,10,rfl,by decide,by decide,fun kl kn H4 e4 kl0 hkl knl knx _=>?_⟩;have E4:=E3.trans e4;refine⟨hAq _,fun nl hnl=>?_⟩;have nl0:=E4.none hnl;have E5:=E4.trans (Ext.new hnl (.lst []));have tsl':ts.length=es.length:=by rw[tsl,hA1,lb];omega
 have mn:min (ts.map V.str).length (bs.map V.ref).length=es.length:=by rw[hA1,hA1,lb,tsl'];exact Nat.min_self _
 have htl5:=(Ext.new hnl (.lst [])) _ _ (e4 _ _ htl);have hen5:=(Ext.new hnl (.lst [])) _ _ (e4 _ _ (e3 _ _ hb1));refine⟨_,rfl,_,rfl,tl,en,_,_,rfl,SqL.of htl5,SqL.of hen5,?_⟩;refine for_pairs (fun i σ H6=>∃ (x7 x8:Option V) (net:List Tr),σ=[some (.ref a),some (.int 1),some (.int hd),some (.ref en),some (.ref tl),some (.ref kl),some (.ref nl),x7,x8]/\Ext H4 H6/\qA8 H6 nl net/\net.length=i/\TxN net/\net.map (·.1)=ts.take i)
  ⟨none,none,[],rfl,Ext.new hnl _,⟨[],upd_same,.nil⟩,rfl,(fun t ht=>by cases ht),rfl⟩ ?_ ?_ ?_
 ·rintro i σ H6 _ ⟨x7,x8,net,_,e6,_⟩;exact⟨SqL.of (e6 _ _ (e4 _ _ htl)),SqL.of (e6 _ _ (e4 _ _ (e3 _ _ hb1)))⟩
 ·rintro i σ H6 T hi ⟨x7,x8,net,rfl,e6,nt,nl',tx,nm⟩ hT;rw[mn]at hi;have hit:i<ts.length:=by omega
  have hib:i<bs.length:=by omega
  have g1:(ts.map V.str).getD i .non = .str ts[i]:=by rw[hAg,hAh,hA2 hit];rfl
  have g2:(bs.map V.ref).getD i .non = .ref bs[i]:=by rw[hAg,hAh,hA2 hib];rfl
  obtain⟨e,he,hbe⟩:=qBc hb2 (hA2 hib);obtain⟨⟨i0,i1⟩,j0,j1⟩:=esi e (hAu he);obtain⟨k1,k1m,k1a⟩:=at_strM (hs:=kn) i0 (by rw[knl];show e.1<10;omega);obtain⟨k2,k2m,k2a⟩:=at_strM (hs:=kn) j0 (by rw[knl];show e.2<10;omega);obtain⟨as,ea1,ea2⟩:=id nt;have la:as.length=net.length:=ea2.length;dsimp only;rw[g1,g2];have Y1:=Ext.new hT (.tup [V.str ts[i],V.ref bs[i]]);refine⟨T,_,rfl,SqT.of upd_same,rfl,_,_,rfl,_,_,rfl,rfl,?_⟩;refine⟨_,rfl,.inl ⟨rfl,_,SqL.of (Y1 _ _ ea1)⟩,_,rfl,(by show 1<=sizeLine;decide),fun T1 hT1=>?_⟩;have Y2:=Y1.trans (Ext.new hT1 (.tup [V.str ts[i]]));have hb6:=Y2 _ _ (e6 _ _ (e4 _ _ (e3 _ _ hbe)));have hk6:=Y2 _ _ (e6 _ _ hkl);refine⟨_,rfl,_,rfl,bs[i],_,_,_,rfl,rfl,SqT.of hb6,(by exact atI_nat (j:=0) rfl),kl,_,_,_,rfl,rfl,SqL.of hk6,k1a,?_⟩;refine⟨_,rfl,_,rfl,bs[i],_,_,_,rfl,rfl,SqT.of hb6,(by exact atI_nat (j:=1) rfl),kl,_,_,_,rfl,rfl,SqL.of hk6,k2a,?_⟩;refine⟨(by show 2<=sizeLine;decide),fun L2 hL2=>⟨L2,[k1,k2],rfl,SqL.of upd_same,(by show 2<64;decide),fun S ss hS' perm srt=>?_⟩⟩;have Y3:=Y2.trans (Ext.new hL2 (.lst [V.str k1,V.str k2]));have Y4:=Y3.trans (Ext.new hS' (.lst (ss.map V.str)));refine⟨S,_,rfl,.inl ⟨SqL.of upd_same,fun T2 hT2=>?_⟩⟩;have lss:ss.length=2:=perm.length_eq;obtain⟨x,y,rfl⟩:∃ x y,ss=[x,y]:=by
   match ss,lss with
   | [x,y],_=>exact⟨x,y,rfl⟩
  have sx:Sm x:=by
   have:x∈[k1,k2]:=perm.mem_iff.mp (by simp);simp at this;rcases this with rfl | rfl
   ·exact knx _ k1m
   ·exact knx _ k2m
  have sy:Sm y:=by
   have:y∈[k1,k2]:=perm.mem_iff.mp (by simp);simp at this;rcases this with rfl | rfl
   ·exact knx _ k1m
   ·exact knx _ k2m
  have Y5:=Y4.trans (Ext.new hT2 (.tup ([x,y].map V.str)));have t1:upd (upd H6 T (.tup [V.str ts[i],V.ref bs[i]])) T1 (.tup [V.str ts[i]]) T1=some (.tup [V.str ts[i]]):=upd_same;have t15:=Ext.new hT2 (.tup ([x,y].map V.str)) _ _ (Ext.new hS' (.lst ([x,y].map V.str)) _ _ (Ext.new hL2 (.lst [V.str k1,V.str k2]) _ _ t1));refine⟨T1,T2,_,_,rfl,rfl,SqT.of t15,SqT.of upd_same,(by simp),(by show 3<=sizeLine;decide),(fun z=>by cases z),fun _ T3 hT3=>?_⟩;have Y6:=Y5.trans (Ext.new hT3 (.tup (trV (ts[i],x,y))));refine⟨nl,_,_,rfl,rfl,Y6 _ _ ea1,?_,?_⟩
  ·rw[hA1];exact qAi (by omega)
  ·refine⟨_,_,net++[(ts[i],x,y)],rfl,(e6.trans Y6).over hnl _,qA8.snoc ea1 ea2 Y6 upd_same,by rw[hAd,nl'];rfl,(fun t ht=>?_),by rw[hA9,nm,qAl (hA2 hit)];rfl⟩;rcases hAe.mp ht with z | z
   ·exact tx t z
   ·rw[hA7]at z;subst z;exact⟨tsx _ (hBw hit),sx,sy⟩
 ·rintro σ H6 ⟨x7,x8,net,rfl,e6,nt,nl',tx,nm⟩;rw[mn]at nl' nm;obtain⟨as,ea1,ea2⟩:=id nt;have la:as.length=net.length:=ea2.length;refine⟨_,rfl,nl,as,net.map rowT,rfl,SqL.of ea1,qGy _ (fun a t z=>⟨SqT.of z,by simp[rowT]⟩) ea2,by omega,fun r o hr' g sp=>?_⟩;have E6:=E4.trans e6;have gm:∀ i∈o.toList,i<as.length:=fun i hi=>gd_mem g hi
  have gm':∀ i∈o.toList,i<net.length:=fun i hi=>by have:=gm i hi;omega
  have gl:=gd_len g;have lt:as.length=(net.map rowT).length:=by rw[hA1];exact la
  rw[lt]at g sp;obtain⟨s1,s2⟩:=qG0 g sp;rw[<-qGu gm']at s1 s2;have nd:((o.toList.map fun i=>net.getD i t0).map (·.1)).Nodup:=by
   rw[<-map_names];refine(s2.map _).nodup_iff.mpr ?_;rw[map_names,nm,<-tsl',hA8 (hA5 _)];refine tnd ?_;rw[hA1];omega
  refine q r (o.toList.map fun i=>net.getD i t0) _ (E6.trans (Ext.new hr' _)) (E6.none hr') ⟨_,upd_same,Paired.mapP (net_picks ea2 gm) fun a' t z=>Ext.new hr' _ _ _ z⟩ ?_ (fun t ht=>?_) (rise_srt s1 nd)
  ·rw[hA1,gl];omega
  ·have m:rowT t∈net.map rowT:=s2.mem_iff.mp (hBs ht);obtain⟨u,hu,e⟩:=hAb.mp m;rw[<-rowT_inj e];exact tx u hu
end
end My
namespace My
open PySem L2
section
variable {K:PySem.W.Frag}
theorem turns_net {as:List Addr} {net:List Tr} {Q:List V->Hp->Prop} {H1:Hp} {σ0:St} {g:TG} {tt:TT} {te:TE} {p:Addr} (h:Tr->Str) (hp:H1 p=some (.lst (as.map V.ref))) (pr:Paired (fun a t=>H1 a=some (.tup (trV t))) as net) (ln:net.length<=12)
  (hs:∀ a t,H1 a=some (.tup (trV t))->∀ (C:V->Hp->Prop) (B:Hp->Prop),C (.str (h t)) H1->g (.ref a) σ0 H1 fun σ2 H2=>Sle σ0 σ2/\tt σ2 H2 fun b H3=>if b=true then te σ2 H3 C else B H3)
  (hd:Q ((net.map h).map V.str) H1):qE0 (Itl K p) σ0 g tt te Q H1:=by
 have lA:as.length=net.length:=pr.length;refine qAt (xs:=as.map V.ref) (fun j ys H2=>H2=H1/\ys=((net.take j).map h).map V.str) ⟨rfl,rfl⟩ (fun j ys H2 _ h=>by rw[h.1];exact SqL.of hp) ?_ ?_
 ·rintro j x ys H2 hx ⟨rfl,rfl⟩;obtain⟨a,t,rfl,ht,ha⟩:=qCt pr hx;have hi:=qA0 ht;have sz:(((net.take j).map h).map V.str).length<sizeLine:=by
   rw[hA1,hA1,hAj];exact qAi (by omega)
  exact hs a t ha _ _ ⟨sz,nxt (qA0 hx) ⟨rfl,by rw[qAl ht,hA9,hA9];rfl⟩⟩
 ·rintro ys H2 ⟨rfl,rfl⟩;rw[hA1,lA,hA8 (hA5 _)];exact hd
end
end My
namespace My
theorem tb_hi {x i:Nat} (h:x<2^i) {j:Nat} (hj:i<=j):x.testBit j=false :=
 Nat.testBit_lt_two_pow (hAi h (hC8 (by decide) hj))
theorem tb_ge {x i:Nat} (h:x.testBit i=true):2^i<=x:=by
 rcases hDp x (2^i) with z | z
 ·rw[Nat.testBit_lt_two_pow z]at h;cases h
 ·exact z
theorem log2_of {x i:Nat} (h1:x.testBit i=true) (h2:x<2^(i+1)):x.log2=i:=by
 have g:=tb_ge h1;have nz:x≠0:=fun z=>by subst z;simp at h1
 have a:=(Nat.log2_lt nz).mpr h2;have b:=(Nat.le_log2 nz).mpr g;omega
theorem tb_le {x i:Nat} (h:x.testBit i=true):i<=x.log2:=by
 have nz:x≠0:=fun z=>by subst z;simp at h
 exact(Nat.le_log2 nz).mpr (tb_ge h)
theorem qEq {n:Nat} (h:n % 2=0):n^^^1=n+1:=by
 have d:(n^^^1) / 2=n / 2:=by rw[Nat.xor_div_two];simp
 have b:(n^^^1).testBit 0=true:=by rw[hBk,hB8,hB8];simp[h]
 rw[hB8]at b;have b':=of_decide_eq_true b;omega
theorem xor_one_odd {n:Nat} (h:n % 2=1):n^^^1=n - 1:=by
 have d:(n^^^1) / 2=n / 2:=by rw[Nat.xor_div_two];simp
 have b:(n^^^1).testBit 0=false:=by rw[hBk,hB8,hB8];simp[h]
 rw[hB8]at b;have b':=of_decide_eq_false b;omega
theorem shr_log2 {s:Nat} (hs:s≠0):s >>> s.log2=1:=by
 rw[hCx];have a:=Nat.log2_self_le hs;have b:s<2^(s.log2+1):=Nat.lt_log2_self;rw[Nat.pow_succ]at b;have p:0<2^s.log2:=Nat.pow_pos (by decide);exact Nat.div_eq_of_lt_le (by omega) (by omega)
theorem qGm (x:Nat) {s:Nat} (hs:s≠0):x^^^s<x↔x.testBit s.log2=true:=by
 have e:(x^^^s) >>> s.log2=(x >>> s.log2)^^^1:=by rw[Nat.shiftRight_xor_distrib,shr_log2 hs]
 have tb:x.testBit s.log2=decide ((x >>> s.log2) % 2=1):=by rw[Nat.testBit_eq_decide_div_mod_eq,hCx]
 rw[tb];have lt:∀ {a b:Nat},a >>> s.log2<b >>> s.log2->a<b:=fun {a b} h=>by
  rw[hCx,hCx]at h;rcases hDp a b with z | z
  ·exact z
  ·have:=Nat.div_le_div_right (c:=2^s.log2) z;omega
 rcases hBg (x >>> s.log2) with h | h
 ·rw[qEq h]at e;have:x<x^^^s:=lt (by omega);constructor
  ·intro z;omega
  ·intro z;rw[h]at z;simp at z
 ·rw[xor_one_odd h]at e;have:x^^^s<x:=lt (by rw[e];exact Nat.sub_one_lt fun z=>by rw[z]at h;cases h);exact⟨fun _=>by simp[h],fun _=>this⟩
def rd1 (x s:Nat):Nat:=if x.testBit s.log2=true then x^^^s else x
theorem min_rd1 (x:Nat) {s:Nat} (hs:s≠0):(if x^^^s<x then x^^^s else x)=rd1 x s:=by
 unfold rd1;by_cases h:x.testBit s.log2=true
 ·rw[if_pos h,if_pos ((qGm x hs).mpr h)]
 ·rw[if_neg h,if_neg (fun z=>h ((qGm x hs).mp z))]
theorem qDl (x s i:Nat):(rd1 x s).testBit i=(x.testBit i ^^ (x.testBit s.log2 && s.testBit i)):=by
 unfold rd1;by_cases h:x.testBit s.log2=true
 ·rw[if_pos h,hBk,h,hCl]
 ·rw[if_neg h];have:x.testBit s.log2=false:=by simpa using h
  rw[this];simp
def red1 (k:List Nat) (x:Nat):Nat:=k.foldl rd1 x
structure RR (k:List Nat):Prop where
 nz:∀ s∈k,s≠0
 ap:k.Pairwise fun s t=>t.testBit s.log2=false/\s.testBit t.log2=false
theorem RR.nil:RR []:=⟨fun s h=>(by cases h),.nil⟩
theorem RR.tl {s:Nat} {k:List Nat} (h:RR (s :: k)):RR k:=⟨fun t ht=>h.nz t (hA4 _ ht),(hC0.mp h.ap).2⟩
theorem RR.hd {s:Nat} {k:List Nat} (h:RR (s :: k)):∀ t∈k,t.testBit s.log2=false/\s.testBit t.log2=false:=(hC0.mp h.ap).1
theorem RR.ne:∀ {k:List Nat},RR k->∀ {s t:Nat},s∈k->t∈k->s≠t->s.testBit t.log2=false
 | [],_,_,_,hs,_,_=>by cases hs
 | a :: k,h,s,t,hs,ht,e=>by
  rcases hAa.mp hs with rfl | zs
  ·rcases hAa.mp ht with rfl | zt
   ·exact absurd rfl e
   ·exact(h.hd t zt).2
  ·rcases hAa.mp ht with rfl | zt
   ·exact(h.hd s zs).1
   ·exact RR.ne h.tl zs zt e
theorem RR.self {k:List Nat} (h:RR k) {s:Nat} (hs:s∈k):s.testBit s.log2=true:=Nat.testBit_log2 (h.nz s hs)
theorem red1_keep:∀ {k:List Nat} {x i:Nat},RR k->(∀ s∈k,x.testBit s.log2=true->s.testBit i=false)->(red1 k x).testBit i=x.testBit i
 | [],_,_,_,_=>rfl
 | s :: k,x,i,h,hx=>by
  show(red1 k (rd1 x s)).testBit i=_;have b1:(rd1 x s).testBit i=x.testBit i:=by
   rw[qDl];cases q:x.testBit s.log2 with
   | false=>simp
   | true=>rw[hx s hA3 q];simp
  rw[red1_keep h.tl fun t ht hb=>?_,b1];refine hx t (hA4 _ ht) ?_;rw[qDl,(h.hd t ht).2]at hb
  simpa using hb
theorem red1_lead:∀ {k:List Nat} {x:Nat},RR k->∀ s∈k,(red1 k x).testBit s.log2=false
 | [],_,_,_,hs=>by cases hs
 | a :: k,x,h,s,hs=>by
  show(red1 k (rd1 x a)).testBit s.log2=false;rcases hAa.mp hs with rfl | z
  ·rw[red1_keep h.tl fun t ht _=>(h.hd t ht).1,qDl,h.self hA3];cases x.testBit s.log2 <;> rfl
  ·exact red1_lead h.tl s z
inductive Spn (l:List Nat):Nat->Prop
 | zero:Spn l 0
 | add {x y:Nat}:x∈l->Spn l y->Spn l (x^^^y)
theorem Spn.mem {l:List Nat} {x:Nat} (h:x∈l):Spn l x:=by
 have:=Spn.add h Spn.zero
 rwa [Nat.xor_zero]at this
theorem Spn.xor {l:List Nat} {x y:Nat} (h:Spn l x) (h':Spn l y):Spn l (x^^^y):=by
 induction h with
 | zero=>rwa [Nat.zero_xor]
 | add m _ ih=>rw[Nat.xor_assoc];exact .add m ih
theorem Spn.mono {l l':List Nat} (h:∀ x∈l,Spn l' x) {y:Nat} (hy:Spn l y):Spn l' y:=by
 induction hy with
 | zero=>exact .zero
 | add m _ ih=>exact(h _ m).xor ih
theorem Spn.lt {l:List Nat} {m:Nat} (h:∀ x∈l,x<2^m) {y:Nat} (hy:Spn l y):y<2^m:=by
 induction hy with
 | zero=>exact Nat.pow_pos (by decide)
 | add hm _ ih=>exact Nat.xor_lt_two_pow (h _ hm) ih
theorem qBx (x y:Nat):(x^^^y)^^^y=x:=by rw[Nat.xor_assoc,Nat.xor_self,Nat.xor_zero]
theorem rd1_spn {k:List Nat} {x s:Nat} (hs:s∈k):Spn k (rd1 x s^^^x):=by
 unfold rd1;split
 ·rw[Nat.xor_comm x s,qBx];exact .mem hs
 ·rw[Nat.xor_self];exact .zero
theorem red1_spn (k:List Nat):∀ (k':List Nat),(∀ s∈k',s∈k)->∀ x,Spn k (red1 k' x^^^x)
 | [],_,x=>by show Spn k (x^^^x);rw[Nat.xor_self];exact .zero
 | s :: k',h,x=>by
  have a:=red1_spn k k' (fun t ht=>h t (hA4 _ ht)) (rd1 x s);have b:=rd1_spn (x:=x) (h s hA3);have c:=a.xor b;rw[<-Nat.xor_assoc,qBx]at c;exact c
def redS (k:List Nat) (x:Nat):List Nat:=if red1 k x=0 then k else k.map (fun s=>rd1 s (red1 k x))++[red1 k x]
def red (xs:List Nat):List Nat:=xs.foldl redS []
theorem qFg (xs:List Nat) (x:Nat):red (xs++[x])=redS (red xs) x:=by unfold red;rw[hCo];rfl
theorem rd1_log2 {s f:Nat} (hs:s≠0) (hf:f≠0) (h:f.testBit s.log2=false):(rd1 s f).log2=s.log2/\rd1 s f≠0:=by
 have ss:=Nat.testBit_log2 hs;have bit:(rd1 s f).testBit s.log2=true:=by rw[qDl,ss,h];simp
 refine⟨log2_of bit ?_,fun z=>by rw[z]at bit;simp at bit⟩;unfold rd1;split
 ·rename_i q;have le:=tb_le q;exact Nat.xor_lt_two_pow Nat.lt_log2_self (hAi Nat.lt_log2_self (hC8 (by decide) (by omega)))
 ·exact Nat.lt_log2_self
theorem RR.step {k:List Nat} (h:RR k) (x:Nat):RR (redS k x):=by
 unfold redS;by_cases z:red1 k x=0
 ·rw[if_pos z];exact h
 rw[if_neg z];have ld:=fun s hs=>red1_lead (x:=x) h s hs
 generalize red1 k x=f at z ld;have l2:∀ s∈k,(rd1 s f).log2=s.log2/\rd1 s f≠0:=fun s hs=>rd1_log2 (h.nz s hs) z (ld s hs)
 have ff:=Nat.testBit_log2 z;refine⟨fun s hs=>?_,?_⟩
 ·rcases hAe.mp hs with w | w
  ·obtain⟨u,hu,rfl⟩:=hAb.mp w;exact(l2 u hu).2
  ·rw[hA7]at w;rw[w];exact z
 ·rw[hAz];refine⟨?_,hD3 _ _,fun a ha b hb=>?_⟩
  ·rw[hBx];refine List.Pairwise.imp_of_mem (fun {a b} ha hb r=>?_) h.ap;rw[(l2 a ha).1,(l2 b hb).1,qDl,qDl,r.1,r.2,ld a ha,ld b hb];simp
  ·rw[hA7]at hb;obtain⟨u,hu,rfl⟩:=hAb.mp ha;subst hb;refine⟨by rw[(l2 u hu).1];exact ld u hu,?_⟩;rw[qDl,ff];cases u.testBit b.log2 <;> rfl
theorem redS_spn {k:List Nat} (x y:Nat):Spn (redS k x) y↔Spn (k++[x]) y:=by
 have rx:=red1_spn k k (fun _ h=>h) x;unfold redS;have inl:∀ {z},Spn k z->Spn (k++[x]) z:=fun {z} hz=>hz.mono fun u hu=>.mem (hAn _ hu)
 have xm:Spn (k++[x]) x:=.mem (by simp);by_cases z:red1 k x=0
 ·rw[if_pos z];rw[z,Nat.zero_xor]at rx;refine⟨inl,fun h=>h.mono fun u hu=>?_⟩;rcases hAe.mp hu with w | w
  ·exact .mem w
  ·rw[hA7]at w;rw[w];exact rx
 rw[if_neg z];have fm:Spn (k++[x]) (red1 k x):=by
  have:=(inl rx).xor xm
  rwa [qBx]at this
 revert rx fm;generalize red1 k x=f;intro rx fm;have ff:Spn (k.map (fun s=>rd1 s f)++[f]) f:=.mem (by simp);have sk:∀ s∈k,Spn (k.map (fun s=>rd1 s f)++[f]) s:=fun s hs=>by
  have a:Spn (k.map (fun s=>rd1 s f)++[f]) (rd1 s f):=.mem (hAn _ (hBs (f:=fun s=>rd1 s f) hs));by_cases q:s.testBit f.log2=true
  ·have b:=a.xor ff;rw[show rd1 s f=s^^^f from if_pos q,qBx]at b;exact b
  ·rw[show rd1 s f=s from if_neg q]at a;exact a
 constructor
 ·intro h;refine h.mono fun u hu=>?_
  rcases hAe.mp hu with w | w
  ·obtain⟨s,hs,rfl⟩:=hAb.mp w;unfold rd1;split
   ·exact(inl (.mem hs)).xor fm
   ·exact inl (.mem hs)
  ·rw[hA7]at w;rw[w];exact fm
 ·intro h;refine h.mono fun u hu=>?_
  rcases hAe.mp hu with w | w
  ·exact sk u w
  ·rw[hA7]at w;subst w;have b:=ff.xor (rx.mono sk);rw[<-Nat.xor_assoc,Nat.xor_self,Nat.zero_xor]at b;exact b
theorem snocN {P:List Nat->Prop} (h0:P []) (hs:∀ l t,P l->P (l++[t])) (l:List Nat):P l:=by
 have:∀ r:List Nat,P r.reverse:=fun r=>by
  induction r with
  | nil=>exact h0
  | cons a r ih=>rw[List.reverse_cons];exact hs _ _ ih
 have q:=this l.reverse
 rwa [List.reverse_reverse]at q
theorem qGw (xs:List Nat):RR (red xs):=snocN (P:=fun xs=>RR (red xs)) RR.nil (fun l t ih=>by rw[qFg];exact ih.step t) xs
theorem qFy (xs:List Nat):∀ y,Spn (red xs) y↔Spn xs y:=by
 refine snocN (P:=fun xs=>∀ y,Spn (red xs) y↔Spn xs y) (fun y=>Iff.rfl) (fun l t ih y=>?_) xs;rw[qFg,redS_spn];constructor
 ·exact fun h=>h.mono fun u hu=>by
   rcases hAe.mp hu with w | w
   ·exact((ih u).mp (.mem w)).mono fun v hv=>.mem (hAn _ hv)
   ·exact .mem (hA6 _ w)
 ·exact fun h=>h.mono fun u hu=>by
   rcases hAe.mp hu with w | w
   ·exact((ih u).mpr (.mem w)).mono fun v hv=>.mem (hAn _ hv)
   ·exact .mem (hA6 _ w)
theorem red_lt {xs:List Nat} {m:Nat} (h:∀ x∈xs,x<2^m):∀ s∈red xs,s<2^m:=fun s hs=>Spn.lt h ((qFy xs s).mp (.mem hs))
def Fsh (xs:List Nat):Prop:=∀ i x,xs[i]?=some x->∃ j,x.testBit j=true/\∀ y∈xs.take i,y.testBit j=false
theorem spn_bit {l:List Nat} {j:Nat} (h:∀ x∈l,x.testBit j=false) {y:Nat} (hy:Spn l y):y.testBit j=false:=by
 induction hy with
 | zero=>simp
 | add m _ ih=>rw[hBk,h _ m,ih];rfl
end My
namespace My
def xsum:Nat->(Nat->Bool)->Bool
 | 0,_=>false
 | m+1,f=>xsum m f ^^ f m
theorem qBq {f g:Nat->Bool}:∀ {m:Nat},(∀ j,j<m->f j=g j)->xsum m f=xsum m g
 | 0,_=>rfl
 | m+1,h=>by unfold xsum;rw[qBq fun j hj=>h j (by omega),h m (by omega)]
theorem xsum_xor (f g:Nat->Bool):∀ m:Nat,xsum m (fun j=>f j ^^ g j)=(xsum m f ^^ xsum m g)
 | 0=>rfl
 | m+1=>by
  unfold xsum;rw[xsum_xor f g m];show((xsum m f ^^ xsum m g) ^^ (f m ^^ g m))=_;cases xsum m f <;> cases xsum m g <;> cases f m <;> cases g m <;> rfl
theorem qD9:∀ m:Nat,xsum m (fun _=>false)=false
 | 0=>rfl
 | m+1=>by unfold xsum;rw[qD9 m];rfl
theorem xsum_one {f:Nat->Bool} {l:Nat}:∀ {m:Nat},(∀ j,j<m->j≠l->f j=false)->xsum m f=(decide (l<m) && f l)
 | 0,_=>by simp[xsum]
 | m+1,h=>by
  unfold xsum;rw[xsum_one (m:=m) fun j hj=>h j (by omega)];by_cases e:l=m
  ·subst e;simp
  ·have n:=h m (by omega) (fun z=>e z.symm);rw[n];have:decide (l<m)=decide (l<m+1):=by
    by_cases q:l<m
    ·rw[decide_eq_true q,decide_eq_true (by omega)]
    ·rw[decide_eq_false q,decide_eq_false (by omega)]
   rw[this];simp
theorem xsum_head (f:Nat->Bool):∀ m:Nat,xsum (m+1) f=(f 0 ^^ xsum m fun j=>f (j+1))
 | 0=>by simp[xsum]
 | m+1=>by
  rw[xsum,xsum_head f m,xsum];cases f 0 <;> cases xsum m (fun j=>f (j+1)) <;> cases f (m+1) <;> rfl
theorem xsum_rev (f:Nat->Bool):∀ m:Nat,xsum m (fun j=>f (m - 1 - j))=xsum m f
 | 0=>rfl
 | m+1=>by
  rw[xsum_head];have:xsum m (fun j=>f (m+1 - 1 - (j+1)))=xsum m fun j=>f (m - 1 - j):=qBq fun j hj=>by
   rw[show m+1 - 1 - (j+1)=m - 1 - j by omega]
  rw[this,xsum_rev f m];show(f m ^^ xsum m f)=(xsum m f ^^ f m);cases f m <;> cases xsum m f <;> rfl
def dot (m x y:Nat):Bool:=xsum m fun j=>x.testBit j && y.testBit j
theorem dot_left (m x x' y:Nat):dot m (x^^^x') y=(dot m x y ^^ dot m x' y):=by
 unfold dot;rw[<-xsum_xor];refine qBq fun j _=>?_
 rw[hBk];cases x.testBit j <;> cases x'.testBit j <;> cases y.testBit j <;> rfl
theorem dot_right (m x y y':Nat):dot m x (y^^^y')=(dot m x y ^^ dot m x y'):=by
 unfold dot;rw[<-xsum_xor];refine qBq fun j _=>?_
 rw[hBk];cases x.testBit j <;> cases y.testBit j <;> cases y'.testBit j <;> rfl
theorem dot_zero (m y:Nat):dot m 0 y=false:=by
 unfold dot;rw[qBq (g:=fun _=>false) fun j _=>by simp,qD9]
theorem dot_zero' (m y:Nat):dot m y 0=false:=by
 unfold dot;rw[qBq (g:=fun _=>false) fun j _=>by simp,qD9]
theorem dot_pow {m p y:Nat} (hp:p<m):dot m (2^p) y=y.testBit p:=by
 unfold dot;rw[xsum_one (l:=p) fun j _ ne=>by rw[hCq,decide_eq_false (fun z=>ne z.symm)];rfl];rw[hCq];simp[hp]
theorem dot_only {m x s l:Nat} (hl:l<m) (hs:s.testBit l=true) (h:∀ j,j<m->j≠l->(x.testBit j && s.testBit j)=false):dot m x s=x.testBit l:=by
 unfold dot;rw[xsum_one (l:=l) h,decide_eq_true hl,hs];simp
theorem spn_dot {l:List Nat} {m y:Nat} (h:∀ s∈l,dot m y s=false) {z:Nat} (hz:Spn l z):dot m y z=false:=by
 induction hz with
 | zero=>exact dot_zero' m y
 | add hm _ ih=>rw[dot_right,h _ hm,ih];rfl
theorem spn_dotL {l:List Nat} {m s:Nat} (h:∀ x∈l,dot m x s=false) {z:Nat} (hz:Spn l z):dot m z s=false:=by
 induction hz with
 | zero=>exact dot_zero m s
 | add hm _ ih=>rw[dot_left,h _ hm,ih];rfl
theorem add_pow:∀ (l x:Nat),x.testBit l=false->2^l+x=2^l^^^x
 | 0,x,h=>by
  have e:x % 2=0:=by
   rw[hB8]at h;have:=of_decide_eq_false h;omega
  show 1+x=1^^^x;rw[Nat.xor_comm,qEq e,Nat.add_comm]
 | l+1,x,h=>by
  rw[Nat.testBit_succ]at h;have ih:=add_pow l (x / 2) h;have d:(2^(l+1)^^^x) / 2=2^l+x / 2:=by
   rw[Nat.xor_div_two,ih,Nat.pow_succ,Nat.mul_div_cancel _ (by decide)]
  have b:(2^(l+1)^^^x).testBit 0=x.testBit 0:=by rw[hBk,hCq];simp
  rw[hB8,hB8]at b;have b':(2^(l+1)^^^x) % 2=1↔x % 2=1:=by simpa using b
  have p:=Nat.pow_succ (n:=2) (m:=l);rcases hBg x with q | q
  ·have:¬(2^(l+1)^^^x) % 2=1:=fun z=>by have:=b'.mp z;omega
   omega
  ·have:=b'.mpr q;omega
theorem sum_pow:∀ (L:List Nat),L.Nodup->∀ j,((L.map fun l=>2^l).sum).testBit j=decide (j∈L)
 | [],_,j=>by simp
 | l :: L,nd,j=>by
  obtain⟨n1,n2⟩:=hAx.mp nd;have ih:=sum_pow L n2;rw[hAm,hD4,add_pow l _ (by rw[ih l,decide_eq_false n1]),hBk,ih j,hCq];by_cases e:l=j
  ·subst e;simp[n1]
  ·have e':¬j=l:=fun z=>e z.symm
   simp[e,e']
def crM (S:List Nat) (p:Nat):Nat:=2^p+((S.filter fun s:Nat=>s.testBit p).map fun s:Nat=>2^s.log2).sum
def isLd (S:List Nat) (p:Nat):Prop:=∃ s∈S,s.log2=p
instance (S:List Nat):DecidablePred (isLd S):=fun p=>inferInstanceAs (Decidable (∃ s∈S,s.log2=p))
theorem ld_nd:∀ {S:List Nat},RR S->(S.map Nat.log2).Nodup
 | [],_=>hCe
 | s :: S,h=>by
  rw[hAm];refine hAx.mpr ⟨fun z=>?_,ld_nd h.tl⟩;obtain⟨t,ht,e⟩:=hAb.mp z;have a:=(h.hd t ht).1;rw[<-e,h.self (hA4 _ ht)]at a;cases a
theorem qD1 {S:List Nat} (h:RR S) (p j:Nat):(((S.filter fun s:Nat=>s.testBit p).map fun s:Nat=>2^s.log2).sum).testBit j=decide (∃ s∈S,s.testBit p=true/\s.log2=j):=by
 have e:((S.filter fun s:Nat=>s.testBit p).map fun s:Nat=>2^s.log2)=((S.filter fun s:Nat=>s.testBit p).map Nat.log2).map fun l=>2^l:=by rw[hB2];rfl
 rw[e,sum_pow _ ((ld_nd h).sublist (hB5.map _))];refine decide_eq_decide.mpr ?_;rw[hAb];constructor
 ·rintro⟨s,hs,rfl⟩;exact⟨s,(hAf.mp hs).1,(hAf.mp hs).2,rfl⟩
 ·rintro⟨s,hs,h1,rfl⟩;exact⟨s,hAf.mpr ⟨hs,h1⟩,rfl⟩
theorem leads_bit {S:List Nat} (h:RR S) (j:Nat):((S.map fun s:Nat=>2^s.log2).sum).testBit j=decide (isLd S j):=by
 have e:(S.map fun s:Nat=>2^s.log2)=(S.map Nat.log2).map fun l=>2^l:=by rw[hB2];rfl
 rw[e,sum_pow _ (ld_nd h)];refine decide_eq_decide.mpr ?_;rw[hAb];exact Iff.rfl
theorem crM_bit {S:List Nat} (h:RR S) {p:Nat} (np:¬isLd S p) (j:Nat):(crM S p).testBit j=(decide (p=j) ^^ decide (∃ s∈S,s.testBit p=true/\s.log2=j)):=by
 unfold crM;rw[add_pow _ _ (by rw[qD1 h];exact decide_eq_false fun ⟨s,hs,_,e⟩=>np ⟨s,hs,e⟩),hBk,hCq,qD1 h]
theorem crM_lt {S:List Nat} {m:Nat} (h:RR S) (hm:∀ s∈S,s<2^m) {p:Nat} (hp:p<m) (np:¬isLd S p):crM S p<2^m:=by
 refine Nat.lt_pow_two_of_testBit _ fun i hi=>?_
 rw[crM_bit h np,decide_eq_false (by omega:¬p=i),decide_eq_false]
 ·rfl
 ·rintro⟨s,hs,_,e⟩;have:=h.self hs;rw[e,tb_hi (hm s hs) hi]at this;cases this
theorem crM_dot {S:List Nat} {m:Nat} (h:RR S) (hm:∀ s∈S,s<2^m) {p:Nat} (hp:p<m) (np:¬isLd S p):∀ s∈S,dot m (crM S p) s=false:=fun s hs=>by
 have e:crM S p=2^p^^^((S.filter fun s:Nat=>s.testBit p).map fun s:Nat=>2^s.log2).sum:=by
  unfold crM;exact add_pow _ _ (by rw[qD1 h];exact decide_eq_false fun ⟨s,hs,_,e⟩=>np ⟨s,hs,e⟩)
 have ls:s.log2<m:=by
  have:=h.self hs;rcases hDp s.log2 m with z | z
  ·exact z
  ·rw[tb_hi (hm s hs) z]at this;cases this
 rw[e,dot_left,dot_pow hp,dot_only (l:=s.log2) ls (h.self hs) fun j hj ne=>?_,qD1 h]
 ·have:decide (∃ t∈S,t.testBit p=true/\t.log2=s.log2)=s.testBit p:=by
   cases q:s.testBit p with
   | true=>exact decide_eq_true ⟨s,hs,q,rfl⟩
   | false =>
    refine decide_eq_false ?_;rintro⟨t,ht,h1,h2⟩;by_cases z:t=s
    ·subst z;rw[q]at h1;cases h1
    ·have a:=h.ne hs ht (fun w=>z w.symm);rw[h2,h.self hs]at a;cases a
  rw[this];cases s.testBit p <;> rfl
 ·rw[qD1 h];by_cases q:∃ t∈S,t.testBit p=true/\t.log2=j
  ·obtain⟨t,ht,h1,h2⟩:=q;have z:s≠t:=fun w=>ne (by rw[w,h2])
   have a:=h.ne hs ht z;rw[h2]at a;rw[a];simp
  ·rw[decide_eq_false q];rfl
def qD4 (S:List Nat) (m:Nat):List Nat:=((List.range m).filter fun p=>!decide (isLd S p)).map (crM S)
def xl (L:List Nat):Nat:=L.foldr (·^^^·) 0
theorem xl_spn {l L:List Nat} (h:∀ x∈L,x∈l):Spn l (xl L):=by
 induction L with
 | nil=>exact .zero
 | cons a L ih=>exact .add (h a hA3) (ih fun x hx=>h x (hA4 _ hx))
theorem xl_cr {S:List Nat} (h:RR S):∀ (L:List Nat),L.Nodup->(∀ p∈L,¬isLd S p)->∀ j,¬isLd S j->(xl (L.map (crM S))).testBit j=decide (j∈L)
 | [],_,_,j,_=>by simp[xl]
 | p :: L,nd,np,j,nj=>by
  obtain⟨n1,n2⟩:=hAx.mp nd;show(crM S p^^^xl (L.map (crM S))).testBit j=_;rw[hBk,xl_cr h L n2 (fun q hq=>np q (hA4 _ hq)) j nj,crM_bit h (np p hA3),decide_eq_false (p:=∃ s∈S,s.testBit p=true/\s.log2=j) fun ⟨s,hs,_,e⟩=>nj ⟨s,hs,e⟩];by_cases e:p=j
  ·subst e;simp[n1]
  ·have e':¬j=p:=fun z=>e z.symm
   simp[e,e']
theorem cr_spn {S:List Nat} {m:Nat} (h:RR S) (hm:∀ s∈S,s<2^m) (y:Nat):Spn (qD4 S m) y↔y<2^m/\∀ s∈S,dot m y s=false:=by
 have mem:∀ x,x∈qD4 S m↔∃ p,p<m/\¬isLd S p/\crM S p=x:=fun x=>by
  unfold qD4;rw[hAb];constructor
  ·rintro⟨p,hp,rfl⟩;obtain⟨h1,h2⟩:=hAf.mp hp;exact⟨p,hBb.mp h1,by simpa using h2,rfl⟩
  ·rintro⟨p,h1,h2,rfl⟩;exact⟨p,hAf.mpr ⟨hBb.mpr h1,by simpa using h2⟩,rfl⟩
 constructor
 ·intro hy;refine⟨Spn.lt (fun x hx=>?_) hy,fun s hs=>spn_dotL (fun x hx=>?_) hy⟩
  ·obtain⟨p,h1,h2,rfl⟩:=(mem x).mp hx;exact crM_lt h hm h1 h2
  ·obtain⟨p,h1,h2,rfl⟩:=(mem x).mp hx;exact crM_dot h hm h1 h2 s hs
 ·rintro⟨hy,hd⟩;have hL:∀ p∈(List.range m).filter (fun p=>!decide (isLd S p) && y.testBit p),p<m/\¬isLd S p/\y.testBit p=true:=fun p hp=>by
   obtain⟨h1,h2⟩:=hAf.mp hp;rw[hB7]at h2;exact⟨hBb.mp h1,by simpa using h2.1,h2.2⟩
  have nd:((List.range m).filter (fun p=>!decide (isLd S p) && y.testBit p)).Nodup:=List.nodup_range.sublist hB5;have cov:∀ j,j<m->¬isLd S j->(j∈(List.range m).filter (fun p=>!decide (isLd S p) && y.testBit p)↔y.testBit j=true):=fun j hj nj=>by
   rw[hAf,hBb];simp[hj,nj]
  generalize (List.range m).filter (fun p=>!decide (isLd S p) && y.testBit p)=L at hL nd cov;have sp:Spn (qD4 S m) (xl (L.map (crM S))):=xl_spn fun x hx=>by
   obtain⟨p,hp,rfl⟩:=hAb.mp hx;exact(mem _).mpr ⟨p,(hL p hp).1,(hL p hp).2.1,rfl⟩
  have lt1:xl (L.map (crM S))<2^m:=Spn.lt (fun x hx=>by
   obtain⟨p,h1,h2,rfl⟩:=(mem x).mp hx;exact crM_lt h hm h1 h2) sp
  have dz:∀ s∈S,dot m (y^^^xl (L.map (crM S))) s=false:=fun s hs=>by
   rw[dot_left,hd s hs,spn_dotL (fun x hx=>?_) sp]
   ·rfl
   ·obtain⟨p,h1,h2,rfl⟩:=(mem x).mp hx;exact crM_dot h hm h1 h2 s hs
  have non:∀ j,¬isLd S j->(y^^^xl (L.map (crM S))).testBit j=false:=fun j nj=>by
   rw[hBk,xl_cr h L nd (fun p hp=>(hL p hp).2.1) j nj];by_cases hj:j<m
   ·cases q:y.testBit j with
    | true=>rw[decide_eq_true ((cov j hj nj).mpr q)];rfl
    | false=>rw[decide_eq_false fun z=>by rw[(cov j hj nj).mp z]at q;cases q];rfl
   ·rw[tb_hi hy (by omega),decide_eq_false fun z=>hj (hL j z).1];rfl
  have z0:y^^^xl (L.map (crM S))=0:=by
   refine hCk fun j=>?_
   rw[Nat.zero_testBit];by_cases q:isLd S j
   ·obtain⟨s,hs,rfl⟩:=q;have ls:s.log2<m:=by
     have:=h.self hs;rcases hDp s.log2 m with z | z
     ·exact z
     ·rw[tb_hi (hm s hs) z]at this;cases this
    rw[<-dot_only (m:=m) (s:=s) ls (h.self hs) fun j hj ne=>?_]
    ·exact dz s hs
    ·by_cases q:isLd S j
     ·obtain⟨t,ht,rfl⟩:=q;rw[h.ne hs ht (fun w=>ne (by rw[w]))];simp
     ·rw[non j q];rfl
   ·exact non j q
  have:y=xl (L.map (crM S)):=by
   have q:=qBx y (xl (L.map (crM S)));rw[z0,Nat.zero_xor]at q;exact q.symm
  rw[this];exact sp
end My
namespace My
open PySem
theorem add_xor:∀ (n a b:Nat),a<n->a+b=(a^^^b)+2*(a&&&b)
 | 0,_,_,h=>absurd h (hCf _)
 | n+1,a,b,h=>by
  by_cases a0:a=0
  ·subst a0;simp
  have ih:=add_xor n (a / 2) (b / 2) (by omega);have d1:(a^^^b) / 2=a / 2^^^b / 2:=Nat.xor_div_two;have d2:(a&&&b) / 2=a / 2&&&b / 2:=Nat.and_div_two;have b1:(a^^^b).testBit 0=(a.testBit 0 ^^ b.testBit 0):=hBk ..;have b2:(a&&&b).testBit 0=(a.testBit 0 && b.testBit 0):=hDg ..;rw[hB8,hB8,hB8]at b1 b2;rw[<-d1,<-d2]at ih;generalize a^^^b=X at b1 ih ⊢;generalize a&&&b=Y at b2 ih ⊢;rcases hBg a with p | p <;> rcases hBg b with q | q <;> rw[p,q]at b1 b2 <;> simp at b1 b2 <;> omega
theorem qCl (a b:Nat):Builtin.bitAnd (a:Int) (b:Int)=((a&&&b:Nat):Int):=by
 unfold Builtin.bitAnd;rw[decide_eq_true (Int.natCast_nonneg a),decide_eq_true (Int.natCast_nonneg b)];simp
theorem bxor_nat (a b:Nat):Builtin.bitXor (a:Int) (b:Int)=((a^^^b:Nat):Int):=by
 have e:=add_xor (a+1) a b (hBj a);have h:Builtin.bitXor (a:Int) (b:Int)=(a:Int)+b - 2*Builtin.bitAnd a b:=by
  have x:∀ x y:Int,Builtin.bitNot (Builtin.bitNot x)=x:=fun x y=>by unfold Builtin.bitNot;omega
  unfold Builtin.bitXor Builtin.bitOr;have na:¬(0:Int)<=Builtin.bitNot (a:Int):=by unfold Builtin.bitNot;omega
  have nb:¬(0:Int)<=Builtin.bitNot (b:Int):=by unfold Builtin.bitNot;omega
  have o:Builtin.bitAnd (Builtin.bitNot (a:Int)) (Builtin.bitNot (b:Int))=Builtin.bitNot ((a ||| b:Nat):Int):=by
   unfold Builtin.bitAnd;rw[decide_eq_false na,decide_eq_false nb];show Builtin.bitNot _=_;rw[x a 0,x b 0];simp
  rw[o,x _ 0,qCl];have e2:(a ||| b)+(a&&&b)=a+b:=by
   have:=add_or (a+1) a b (hBj a);omega
  omega
 rw[h,qCl];omega
where
 add_or:∀ (n a b:Nat),a<n->(a ||| b)+(a&&&b)=a+b
 | 0,_,_,h=>absurd h (hCf _)
 | n+1,a,b,h=>by
  by_cases a0:a=0
  ·subst a0;simp
  have ih:=add_or n (a / 2) (b / 2) (by omega);have d1:(a ||| b) / 2=a / 2 ||| b / 2:=Nat.or_div_two
  have d2:(a&&&b) / 2=a / 2&&&b / 2:=Nat.and_div_two;have b1:(a ||| b).testBit 0=(a.testBit 0 || b.testBit 0):=Nat.testBit_or ..;have b2:(a&&&b).testBit 0=(a.testBit 0 && b.testBit 0):=hDg ..;rw[hB8,hB8,hB8]at b1 b2;rw[<-d1,<-d2]at ih;generalize a ||| b=X at b1 ih ⊢
  generalize a&&&b=Y at b2 ih ⊢;rcases hBg a with p | p <;> rcases hBg b with q | q <;> rw[p,q]at b1 b2 <;> simp at b1 b2 <;> omega
noncomputable def lo (f:Nat):Nat:=Classical.epsilon fun i=>f.testBit i=true/\∀ j,j<i->f.testBit j=false
theorem and_pow (x p:Nat):x&&&2^p≠0↔x.testBit p=true:=by
 constructor
 ·intro ne;cases q:x.testBit p with
  | true=>rfl
  | false =>
   refine absurd (hCk fun j=>?_) ne;rw[hDg,hCq,Nat.zero_testBit];by_cases e:p=j
   ·subst e;rw[q];rfl
   ·simp[e]
 ·intro q z;have:=congrArg (fun x:Nat=>x.testBit p) z;simp[hDg,q]at this
def rv (m x:Nat):Nat:=((((List.range m).filter fun i=>x.testBit i).map fun i=>m - 1 - i).map fun l=>2^l).sum
theorem rv_bit (m x j:Nat):(rv m x).testBit j=(decide (j<m) && x.testBit (m - 1 - j)):=by
 have nd:(((List.range m).filter fun i=>x.testBit i).map fun i=>m - 1 - i).Nodup:=by
  have h:((List.range m).filter fun i=>x.testBit i).Pairwise fun a b=>m - 1 - a≠m - 1 - b:=by
   have:(List.range m).Pairwise fun a b=>a≠b:=List.nodup_range
   refine List.Pairwise.imp_of_mem (fun {a b} ha hb ne=>?_) (this.sublist hB5);have a1:=hBb.mp (hAf.mp ha).1;have b1:=hBb.mp (hAf.mp hb).1;omega
  rw[List.Nodup,hBx];exact h
 unfold rv;rw[sum_pow _ nd];by_cases hj:j<m
 ·rw[decide_eq_true hj,hCl];cases q:x.testBit (m - 1 - j) with
  | true=>exact decide_eq_true (hAb.mpr ⟨m - 1 - j,hAf.mpr ⟨hBb.mpr (by omega),q⟩,by omega⟩)
  | false =>
   refine decide_eq_false fun z=>?_
   obtain⟨i,hi,e⟩:=hAb.mp z;obtain⟨h1,h2⟩:=hAf.mp hi;have:=hBb.mp h1;rw[show m - 1 - j=i by omega,h2]at q;cases q
 ·rw[decide_eq_false hj,Bool.false_and];refine decide_eq_false fun z=>?_
  obtain⟨i,hi,e⟩:=hAb.mp z;have:=hBb.mp (hAf.mp hi).1;omega
end My
namespace My
open PySem
def bd (V:Nat->Nat):Nat->Nat->Nat
 | 0,_=>0
 | m+1,y=>bd V m y^^^(if y.testBit m=true then V m else 0)
noncomputable def el1 (v f:Nat×Nat):Nat×Nat:=if v.1.testBit (lo f.1)=true then (v.1^^^f.1,v.2^^^f.2) else v
noncomputable def el (k:List (Nat×Nat)) (v:Nat×Nat):Nat×Nat:=k.foldl el1 v
abbrev Ech (k:List (Nat×Nat)):Prop:=k.Pairwise fun a b=>b.1.testBit (lo a.1)=false
structure EIv (V:Nat->Nat) (m j:Nat) (K:List (Nat×Nat)) (F:List Nat):Prop where
 k1:∀ f∈K,f.1≠0/\f.1=bd V m f.2
 kl:∀ f∈K,f.2<2^j
 k2:Ech K
 f1:∀ y∈F,y<2^j/\bd V m y=0
 cov:∀ y,y<2^j->Spn (F++K.map (·.2)) y
 len:F.length+K.length=j
 fsh:Fsh F
end My
namespace L2
open PySem PySem.Spec PyProof.Rows
section
variable {X:Cx}
theorem ints_of:∀ {us:List Value},qBa (ns.map V.int) us->∃ xs:List (Int×Tok),us=xs.map (fun p=>Value.int p.1 p.2)/\xs.map (·.1)=ns:=by
 induction ns with
 | nil=>intro us r;cases r;exact⟨[],rfl,rfl⟩
 | cons a l ih =>
  intro us r;cases r with
  | cons r rr =>
   obtain⟨t,rfl⟩:=r;obtain⟨xs,rfl,rfl⟩:=ih rr;exact⟨(a,t) :: xs,rfl,rfl⟩
theorem call_sumI (hc:X.calm=true):qA6 X (.builtin "sum") (fun xs H Q=>∃ (p:Addr) (ns:List Int),xs=[.ref p]/\SqL X.K H p (ns.map V.int)/\Q (.int ns.sum) H):=by
 intro pins s σ H xs us Q I r h;obtain⟨p,ns,rfl,hq,q⟩:=h;obtain⟨u,rfl,rx⟩:=qCa r;cases rx;obtain⟨its,rv,pl,hz⟩:=I.list hq;obtain⟨ys,rfl,rfl⟩:=ints_of rv;have e:(ys.map (fun p=>Value.int p.1 p.2)).toArray=intItems ys.toArray:=by unfold intItems;simp
 have pl':=pl.isList;rw[e]at pl';refine sum_intListG (I.ok.hd hc) pl' fun h' tk t' hk=>⟨.int _,H,I.kept (t':=tk) hk,⟨t',rfl⟩,?_⟩
 rw[preSum_eq,hA8 (by simp)];exact q
theorem qGa:∀ {us:List Value},qBa (ns.map V.int) us->IntsAre us ns:=by
 induction ns with
 | nil=>intro us r;cases r;exact .nil
 | cons a l ih =>
  intro us r;cases r with
  | cons r rr =>
   obtain⟨t,rfl⟩:=r;exact .cons a t (ih rr)
theorem of_intsAre:∀ {us:List Value},IntsAre us ns->qBa (ns.map V.int) us:=by
 induction ns with
 | nil=>intro us r;cases r;exact .nil
 | cons a l ih =>
  intro us r;cases r with
  | cons _ _ r=>exact .cons ⟨_,rfl⟩ (ih r)
def tSortRev (K:PySem.W.Frag) (t:TA):TE:=fun σ H Q=>t σ H fun vs H1=>∃ (p:Addr) (ns:List Int),vs=[.ref p]/\SqL K H1 p (ns.map V.int)/\ns.length<64/\∀ (r:Addr) (ns':List Int),H1 r=none->ns'.Perm ns->Ordered true ns'->Q (.ref r) (upd H1 r (.lst (ns'.map V.int)))
theorem pe_sortRev (hg:Gl X "sorted") (hm:X.mg "sorted" = none) (ha:PA X [e] t)
  (he:backTo pos (starEach [e] X.env)=(false,eval e X.env) :: backTo pos (starEach [] X.env):=by rfl)
  (hplain:(backTo pos (starEach [e] X.env)).any (·.1)=false:=by rfl):PE X (.Call (.Name "sorted" p) [e] [⟨some "reverse",.Constant (.bool true) j cp,kp⟩] pos) (tSortRev X.K t):=by
 intro pins s σ H Q I h;refine wpAny_Call_Name_kw (qEx I hg hm (by decide +kernel:bootBuiltins "sorted" = some (.builtin "sorted")) ?_ (by decide) (by decide));refine PyProof.Rows.callWith_kw (thn (ha pos pins s σ H _ I h) fun us s1 ⟨vs,H1,I1,r1,q1⟩=>?_) he hplain;obtain⟨a,ns,rfl,hq,h64,q⟩:=q1;obtain⟨u,rfl,rx⟩:=qCa r1;cases rx;refine PyProof.Rows.kws_cons (Constant_bool (PyProof.Rows.kws_nil ?_));obtain⟨its,rv,pl,hz⟩:=I1.list hq;have hl:=rv.length;rw[hA1]at hl;refine sorted_ints_rev (b:=true) pl.isList (qGa rv) (by omega) fun out ns' h1 h2 h3=>?_
 obtain⟨e,he⟩:=sortedAll_at s1.heap its out;have nz:H1 (s1.heap.objs.size+1)=none:=I1.hok.fresh (hAw _);refine⟨.ref (s1.heap.objs.size+1),_,I1.laid (t':=s1.toks) (a:=s1.heap.objs.size+1) (o:=.lst (ns'.map V.int)) (fun b o eb=>sortedAll_old eb) (hAw _) ?_,rfl,q _ ns' nz h2 h3⟩;refine⟨?_,out.toList,e,of_intsAre h1,by simpa using he⟩;rw[hA1,h2.length_eq];exact hB3 (qAi (by omega))
def rBits:V->List V->Hp->VK->Prop:=fun x vs H Q=>∃ i:Int,x = .int i/\vs=[]/\Q (.int (Builtin.Int.intBits i:Nat)) H
theorem mt_bits:MtR X "int.bit_length" rBits:=by
 intro pins s σ H x vs v us Q I rx rv h;obtain⟨i,rfl,rfl,q⟩:=h;obtain⟨t,rfl⟩:=rx;have hus:=rv.zero;subst hus;exact call_int_bit_length ⟨.int _,H,I.tok _,⟨_,rfl⟩,q⟩
end
end L2
namespace L2
open PySem PySem.Spec PyProof.Rows
section
variable {X:Cx}
def iEnum (K:PySem.W.Frag) (ta:TA):TI:=fun σ H R=>ta σ H fun vs H1=>∃ (a:Addr) (xs:List V),vs=[.ref a]/\SqL K H1 a xs/\R (Itp xs.length (fun H=>SqL K H a xs) (fun i=>[.int (i:Nat),xs.getD i .non])) H1
theorem boot_enum:bootBuiltins "enumerate" = some (.type "enumerate"):=by decide +kernel
theorem pi_enum (hg:Gl X "enumerate") (hm:X.mg "enumerate" = none) (ha:PA X [a] ta) (hs:starEach [a] X.env=[(false,eval a X.env)]:=by rfl) :
  PI X (.Tuple elts ct tpos) (.Call (.Name "enumerate" p) [a] [] pos) (iEnum X.K ta):=by
 intro pins s σ H R I h;refine Call_ (qEx I hg hm boot_enum (hCp (thn (ha pos pins s σ H _ I h) fun us s1 ⟨vs,H1,I1,r1,q1⟩=>?_) (by rw[hs];rfl) (by rfl)));obtain⟨l,xs,e,hx,q⟩:=q1;subst e;obtain⟨u,rfl,rx⟩:=qCa r1;cases rx;obtain⟨it1,rv1,pl1,hz1⟩:=I1.list hx;have b1:l<s1.heap.objs.size:=by obtain⟨o,n,e,_⟩:=pl1;exact Heap.lt_size e
 refine call_enumerate_list pl1.isList fun h1 z1 z2 z3 z7=>?_
 refine wpAny_pyIter_enum z1 ?_;have hfp:∀ b∈[s1.heap.objs.size+1,s1.heap.objs.size],s1.heap.objs.size<=b:=fun b hb=>by
  simp only[hAa,hCa,or_false]at hb;rcases hb with rfl | rfl
  ·exact hD6 _ _
  ·exact hA5 _
 refine⟨s1.heap.objs.size+1,[s1.heap.objs.size+1,s1.heap.objs.size],
  fun i h=>(∃ old,IsEnum h (s1.heap.objs.size+1) s1.heap.objs.size i old)/\h.IsListIter s1.heap.objs.size l i,
  _,H1,rfl,I1.kept (t':=s1.toks) z7,
  qGo (s1.heap.objs.size+1) _ [s1.heap.objs.size+1,s1.heap.objs.size,l] [s1.heap.objs.size+1,s1.heap.objs.size] _ _ _ _ (by simp) (fun b hb=>hb) (fun i h st b hb=>?_) (fun i h h' st k=>?_) (fun i=>by show 2<=sizeLine;decide) ?_ (fun A i s' Q E st hQ=>by
   obtain⟨⟨old,he⟩,_⟩:=st;exact wpAny_pyIter_enum he hQ),
  ⟨⟨_,z1⟩,z2⟩,fun b hb=>I1.fpOk (hfp b hb) (I1.hok.fresh (hfp b hb)),q⟩
 ·obtain⟨⟨old,a1⟩,⟨o4,a4,c4,d4⟩⟩:=st;simp only[hAa,hCa,or_false]at hb;rcases hb with rfl | rfl
  ·exact⟨_,a1,fun v z=>by cases z⟩
  ·exact⟨_,a4,fun v z=>by rw[d4]at z;cases z⟩
 ·obtain⟨⟨old,a1⟩,a4⟩:=st;exact⟨⟨old,k _ (by simp) _ a1⟩,a4.at fun o e=>k _ (by simp) o e⟩
 ·intro X' hP hw hK hc pins' s' σ' H' I' hL;rw[<-hK]at hL;obtain⟨jt1,sv1,ql1,_⟩:=I'.list hL;have m1:=sv1.length;have ne1:l≠s1.heap.objs.size:=hAk b1;have Wz:=WalksT.enumerateD (A:=X'.A) (Draws.list (prog:=X.prog) (w:=X.w) (A:=X'.A.in1) (I'.ok.hd hc) s1.heap.objs.size l ne1 jt1.toArray) (s1.heap.objs.size+1) (Nat.succ_ne_self _) (fun z=>by
   simp only[hAa,hCa,or_false]at z;rcases z with z | z
   ·exact Nat.succ_ne_self _ z
   ·exact absurd b1 (by rw[<-z];exact Nat.not_lt_of_le (hAw _))) (by simp)
  rw[show jt1.toArray.size=xs.length by show jt1.length=_;rw[m1]]at Wz;refine⟨_,_,_,Wz,fun i st=>?_,fun i h st=>?_,fun i vals pv=>?_⟩
  ·exact⟨st.1,st.2,ql1.isList⟩
  ·exact⟨st.1,st.2.1⟩
  ·obtain⟨t,x,e1,rfl⟩:=pv;have e1:jt1[i]?=some x:=by simpa using e1
   have c1:i<xs.length:=by rw[m1];exact(hAr.mp e1).1
   obtain⟨u,d1,d2⟩:=sv1.get (hA2 c1);rw[e1]at d1;cases d1;show qBa [.int (i:Nat),xs.getD i .non] [.int i t,x];rw[hAg,hA2 c1];exact .cons ⟨t,rfl⟩ (.cons d2 .nil)
end
end L2
namespace My
open PySem L2
abbrev iV (n:Nat):V:=.int (n:Int)
def LsN (H:Hp) (a:Addr) (ms:List Nat):Prop:=H a=some (.lst (ms.map iV))
theorem boot_min':bootBuiltins "min" = some (.builtin "min"):=by decide +kernel
theorem boot_sum':bootBuiltins "sum" = some (.builtin "sum"):=by decide +kernel
theorem str_get {as:List Str} {i:Nat} {x:V} (e:(as.map V.str)[i]?=some x):∃ a,x = .str a/\as[i]?=some a:=by
 rw[hAh]at e;cases ha:as[i]? with
 | none=>rw[ha]at e;cases e
 | some a=>rw[ha]at e;exact⟨a,(hAv e).symm,rfl⟩
theorem ref_get {as:List Addr} {i:Nat} {x:V} (e:(as.map V.ref)[i]?=some x):∃ a,x = .ref a/\as[i]?=some a:=by
 rw[hAh]at e;cases ha:as[i]? with
 | none=>rw[ha]at e;cases e
 | some a=>rw[ha]at e;exact⟨a,(hAv e).symm,rfl⟩
theorem qCw {ms:List Nat} {i:Nat} {x:V} (e:(ms.map iV)[i]?=some x):∃ n,x=iV n/\ms[i]?=some n:=by
 rw[hAh]at e;cases ha:ms[i]? with
 | none=>rw[ha]at e;cases e
 | some a=>rw[ha]at e;exact⟨a,(hAv e).symm,rfl⟩
theorem qEm (ms:List Nat):ms.map iV=(ms.map fun n:Nat=>(n:Int)).map V.int:=by rw[hB2];rfl
def qA3 (names row:List Str):Nat:=names.foldl (fun m n=>2*m+(if n∈row then 1 else 0)) 0
theorem qEl (names row:List Str) (n:Str):qA3 (names++[n]) row=2*qA3 names row+(if n∈row then 1 else 0):=by unfold qA3;rw[hCo];rfl
theorem qB4 (row:List Str) (names:List Str):∀ j,(qA3 names row).testBit j=(decide (j<names.length) && decide (∃ n,names[names.length - 1 - j]?=some n/\n∈row)):=by
 refine qBy (P:=fun names=>∀ j,(qA3 names row).testBit j=(decide (j<names.length) && decide (∃ n,names[names.length - 1 - j]?=some n/\n∈row))) (fun j=>by simp[qA3]) (fun l n ih j=>?_) names;rw[qEl,hAd];show _=(decide (j<l.length+1) && decide (∃ m,(l++[n])[l.length+1 - 1 - j]?=some m/\m∈row));cases j with
 | zero =>
  rw[hB8,decide_eq_true (by omega:0<l.length+1),hCl];refine decide_eq_decide.mpr ?_;rw[show l.length+1 - 1 - 0=l.length by omega,hBy (hA5 _)];simp;by_cases h:n∈row
  ·simp[h]
  ·simp[h]
 | succ j =>
  rw[Nat.testBit_succ,show(2*qA3 l row+(if n∈row then 1 else 0)) / 2=qA3 l row by split <;> omega,ih j];by_cases hj:j<l.length
  ·rw[decide_eq_true hj,decide_eq_true (by omega:j+1<l.length+1),show l.length+1 - 1 - (j+1)=l.length - 1 - j by omega,hCd (by omega)]
  ·rw[decide_eq_false hj,decide_eq_false (by omega:¬j+1<l.length+1)];rfl
theorem qC5 (names row:List Str):qA3 names row<2^names.length:=Nat.lt_pow_two_of_testBit _ fun i hi=>by rw[qB4,decide_eq_false (by omega)];rfl
def spMask:Sp:=fun vs H Q _=>∃ (pn pr:Addr) (names row:List Str),vs=[.ref pn,.ref pr]/\LsS H pn names/\LsS H pr row/\Q (iV (qA3 names row)) H
def rowM (names:List Str) (x:Nat):List Str:=(List.range names.length).filterMap fun i=>if x.testBit (names.length - 1 - i)=true then names[i]? else none
def spRowOf:Sp:=fun vs H Q _=>∃ (pn:Addr) (names:List Str) (x:Nat),vs=[.ref pn,iV x]/\LsS H pn names/\names.length<=12/\∀ r H',Ext H H'->H r=none->LsS H' r (rowM names x)->Q (.ref r) H'
theorem shr_one (x k:Nat):Builtin.bitAnd ((x:Int) / 2^k) 1=if x.testBit k=true then 1 else 0:=by
 have e:(x:Int) / 2^k=((x / 2^k:Nat):Int):=by rw[Int.natCast_ediv,Int.natCast_pow];rfl
 have e1:(1:Int)=((1:Nat):Int):=rfl;rw[e];show Builtin.bitAnd _ ((1:Nat):Int)=_;rw[qCl,Nat.and_one_is_mod,Nat.testBit_eq_decide_div_mod_eq];rcases hBg (x / 2^k) with h | h <;> rw[h] <;> rfl
def spLess:Sp:=fun vs H Q _=>∃ (x:Nat) (p:Addr) (k:List Nat),vs=[iV x,.ref p]/\LsN H p k/\(∀ s∈k,s≠0)/\Q (iV (red1 k x)) H
theorem min_int (x:Nat) {s:Nat} (hs:s≠0):(if Builtin.bitXor (x:Int) (s:Int)<(x:Int) then Builtin.bitXor (x:Int) (s:Int) else (x:Int))=((rd1 x s:Nat):Int):=by
 rw[bxor_nat,<-min_rd1 x hs];by_cases h:x^^^s<x
 ·rw[if_pos h,if_pos (by omega)]
 ·rw[if_neg h,if_neg (by omega)]
def spRedu:Sp:=fun vs H Q _=>∃ (p:Addr) (ms:List Nat),vs=[.ref p]/\LsN H p ms/\ms.length<=24/\∀ (r:Addr) (M:List Nat) (H':Hp),Ext H H'->H r=none->LsN H' r M->M.Perm (red ms)->M.Pairwise (fun a b=>b<=a)->Q (.ref r) H'
def spLead:Sp:=fun vs H Q _=>∃ x:Nat,vs=[iV x]/\x≠0/\x<2^24/\Q (iV (2^x.log2)) H
theorem redS_len (k:List Nat) (x:Nat):(redS k x).length<=k.length+1:=by
 unfold redS;split
 ·omega
 ·rw[hAd,hA1];exact hA5 _
theorem red_le (xs:List Nat):(red xs).length<=xs.length:=by
 refine snocN (P:=fun xs=>(red xs).length<=xs.length) (hA5 _) (fun l t ih=>?_) xs;rw[qFg,hAd];have:=redS_len (red l) t;show _<=l.length+1;omega
section
variable {P:Program} {w:World} {K:PySem.W.Frag} {mg:Str->Option Value} {base:Heap} {f f1 f2:Addr} {fd fd1 fd2:FuncData}
abbrev maN:List Str:=["names","row","mask","name"]
theorem scMask:FnScope maN ["names","row"] (qAb sMask):=⟨rfl,rfl,rfl,by decide +kernel,rfl,by decide +kernel,by decide +kernel⟩
theorem ok_mask (F:Fun K "mask_of" "mask_of" sMask f fd):FnOk P w K mg base CX0 1 f fd ["names","row"] spMask:=by
 refine F.ok scMask (fun vs H Q E h=>?_) (fun cdv A outer s H vs Q E hr h=>?_)
 ·obtain⟨pn,pr,names,row,rfl,_⟩:=h;rfl
 obtain⟨pn,pr,names,row,rfl,hn,hw,q⟩:=h;refine⟨_,pss_cons (qAn (i:=2) scMask.nd rfl (Or.inl rfl) qAd)
  (pss_cons (qB6 PassesOwn.never rfl (qAv (pv 0)) (qAg (i:=3) scMask.nd rfl (Or.inl rfl))
   (qAh (qAn (i:=2) scMask.nd rfl (Or.inl rfl) (qAk qBw (qAk qDx qAd (pv 2)) (qFh (qAp qCe (pv 3) (pv 1) (by with_unfolding_all rfl)) qAd qAd)))))
  (qAh (qAu (pv 2)))),?_⟩
 try dsimp only[Cx.wish,qB5]
 refine⟨_,rfl,pn,rfl,⟨_,SqL.of hn⟩,?_⟩;refine qCi (xs:=names.map V.str) (fun i σ H'=>H'=H/\∃ x3:Option V,σ=[some (.ref pn),some (.ref pr),some (iV (qA3 (names.take i) row)),x3]) ⟨rfl,none,rfl⟩ (fun i σ H' _ h=>by rw[h.1];exact SqL.of hn) ?_ ?_
 ·rintro i x σ H' hx ⟨rfl,x3,rfl⟩;obtain⟨y,rfl,hy⟩:=str_get hx;refine⟨_,rfl,_,_,rfl,rfl,.inl ⟨by decide,by decide⟩,_,rfl,_,rfl,pr,_,rfl,.inl (SqL.of hw),rfl,flat_strs _,_,rfl,?_⟩;rw[if_neg (by decide),qEn];refine qDa (fun c=>?_) (fun c=>?_)
  ·have c':y∈row:=by simpa using c
   refine⟨_,_,rfl,rfl,rfl,some (.str y),?_⟩;rw[show iV (qA3 (names.take (i+1)) row)=V.int (2*((qA3 (names.take i) row:Nat):Int)+1) by rw[qAl hy,qEl,if_pos c'];rfl];rfl
  ·have c':¬y∈row:=by simpa using c
   refine⟨_,_,rfl,rfl,rfl,some (.str y),?_⟩;rw[show iV (qA3 (names.take (i+1)) row)=V.int (2*((qA3 (names.take i) row:Nat):Int)+0) by rw[qAl hy,qEl,if_neg c'];rfl];rfl
 ·rintro σ H' ⟨rfl,x3,rfl⟩;rw[hA1,hA8 (hA5 _)];exact⟨_,rfl,q⟩
theorem scRowOf:FnScope ["names","mask","last"] ["names","mask"] (qAb qFw):=⟨rfl,rfl,rfl,by decide +kernel,rfl,by decide +kernel,by decide +kernel⟩
abbrev roN:List Str:=["at","name","mask","last"]
theorem ok_rowOf (F:Fun K "row_of" "row_of" qFw f fd) (ml:mg "len" = none) (me:mg "enumerate" = none):FnOk P w K mg base CX0 1 f fd ["names","mask"] spRowOf:=by
 refine F.ok scRowOf (fun vs H Q E h=>?_) (fun cdv A outer s H vs Q E hr h=>?_)
 ·obtain⟨pn,names,x,rfl,_⟩:=h;rfl
 obtain⟨pn,names,x,rfl,hn,ln,q⟩:=h;refine⟨_,pss_cons (qAn (i:=2) scRowOf.nd rfl (Or.inr rfl) (qAk op_sub (qAj qAq rfl ml hB9 (qAa (pv 0) qAc)) qAd))
  (qAh (qAu (pe_lc (N:=["names","mask","last"]) (sc:=qAb qFw) (N':=roN) (sub:=[none,none,some 1,some 2]) rfl rfl (CmpOk.of (by decide +kernel)) rfl (pi_enum rfl me (qAa (pv 0) qAc))
   (fun C s H fp=>⟨(show PG _ _ (gTup K 2 _) from qB3 rfl (qAm (qAg (i:=0) (by show roN.Nodup;decide) rfl (Or.inl rfl)) (qAm (qAg (i:=1) (by show roN.Nodup;decide) rfl (Or.inl rfl)) qBo))),
    qB8 (qAp qCs (qAk op_and (qAk op_shr (pv 2) (qAk op_sub (pv 3) (pv 0))) qAd) qAd (qAw _)),pv 1⟩)))),?_⟩
 try dsimp only[Cx.wish,qB5]
 refine⟨_,rfl,pn,_,rfl,.inl (SqL.of hn),_,_,rfl,rfl,?_⟩;refine⟨_,rfl,pn,_,rfl,SqL.of hn,?_⟩;rw[hA1];refine turns_tup (fun i ys H'=>Ext H H'/\ys=((List.range i).filterMap fun i=>if x.testBit (names.length - 1 - i)=true then names[i]? else none).map V.str) ⟨Ext.refl _,rfl⟩ (fun i ys H' _ p=>SqL.of (p.1 _ _ hn)) ?_ ?_
 ·rintro i ys H' T hi ⟨e,rfl⟩ hT;have gd:(names.map V.str).getD i .non = .str names[i]:=by rw[hAg,hAh,hA2 hi];rfl
  have e2:=e.trans (Ext.new hT (.tup [V.int (i:Nat),(names.map V.str).getD i .non]));refine⟨T,_,rfl,SqT.of upd_same,rfl,_,_,rfl,_,_,rfl,rfl,?_⟩;refine⟨Sle.set _ (Sle.set _ (Sle.refl _) (fun u z=>by cases z)) (fun u z=>by cases z),?_⟩;have k:(((names.length:Nat):Int) - 1 - (i:Nat))=((names.length - 1 - i:Nat):Int):=by omega
  refine⟨_,rfl,_,rfl,_,rfl,_,_,rfl,rfl,_,_,rfl,rfl,(by show(0:Int)<=_;omega),_,_,rfl,rfl,rfl,_,rfl,?_⟩;have fm:((List.range (i+1)).filterMap fun i=>if x.testBit (names.length - 1 - i)=true then names[i]? else none)=((List.range i).filterMap fun i=>if x.testBit (names.length - 1 - i)=true then names[i]? else none)++(if x.testBit (names.length - 1 - i)=true then [names[i]] else []):=by
   rw[hDf,hDe];congr 1;by_cases b:x.testBit (names.length - 1 - i)=true
   ·simp[b,hA2 hi]
   ·simp[b]
  have sz:=List.length_filterMap_le (fun i=>if x.testBit (names.length - 1 - i)=true then names[i]? else none) (List.range i);rw[hC3]at sz;have key:(decide (V.int (Builtin.bitAnd ((x:Int) / 2^(((names.length:Nat):Int) - 1 - (i:Nat)).toNat) 1)=V.int 1)=true)↔x.testBit (names.length - 1 - i)=true:=by
   rw[decide_eq_true_iff,V.int.injEq,k,hC2,shr_one];by_cases b:x.testBit (names.length - 1 - i)=true
   ·simp[b]
   ·simp[b]
  refine qDa (fun c=>?_) (fun c=>?_)
  ·have b:=key.mp c;refine⟨_,rfl,by rw[hA1];exact qAi (by omega),nxt hi ⟨e2,?_⟩⟩;rw[fm,if_pos b,hA9,gd];rfl
  ·have b:¬x.testBit (names.length - 1 - i)=true:=fun z=>c (key.mpr z)
   refine nxt hi ⟨e2,?_⟩;rw[fm,if_neg b,hBi]
 ·rintro ys H' ⟨e,rfl⟩ r hr';exact q r _ (e.trans (Ext.new hr' _)) (e.none hr') upd_same
theorem scLess:FnScope ["mask","kept","step"] ["mask","kept"] (qAb sLess):=⟨rfl,rfl,rfl,by decide +kernel,rfl,by decide +kernel,by decide +kernel⟩
theorem ok_less (F:Fun K "lessened" "lessened" sLess f fd) (mmi:mg "min" = none):FnOk P w K mg base CX0 1 f fd ["mask","kept"] spLess:=by
 refine F.ok scLess (fun vs H Q E h=>?_) (fun cdv A outer s H vs Q E hr h=>?_)
 ·obtain⟨x,p,k,rfl,_⟩:=h;rfl
 obtain⟨x,p,k,rfl,hk,nz,q⟩:=h;refine⟨_,pss_cons (qB6 PassesOwn.never rfl (qAv (pv 1)) (qAg (i:=2) scLess.nd rfl (Or.inl rfl))
   (qAh (qAn (i:=0) scLess.nd rfl (Or.inl rfl) (qAj (call_min2 rfl) rfl mmi boot_min' (qAa (pv 0) (qAa (qAk op_xor (pv 0) (pv 2)) qAc))))))
  (qAh (qAu (pv 0))),?_⟩
 try dsimp only[Cx.wish,qB5]
 refine⟨_,rfl,p,rfl,⟨_,SqL.of hk⟩,?_⟩;refine qCi (xs:=k.map iV) (fun i σ H'=>H'=H/\∃ x2:Option V,σ=[some (iV (red1 (k.take i) x)),some (.ref p),x2]) ⟨rfl,none,rfl⟩ (fun i σ H' _ h=>by rw[h.1];exact SqL.of hk) ?_ ?_
 ·rintro i v σ H' hx ⟨rfl,x2,rfl⟩;obtain⟨s,rfl,hs⟩:=qCw hx;refine⟨_,rfl,_,rfl,_,rfl,_,_,rfl,rfl,_,_,rfl,rfl,some (iV s),?_⟩;rw[min_int _ (nz s (hAu hs)),show red1 (k.take (i+1)) x=rd1 (red1 (k.take i) x) s by rw[qAl hs];unfold red1;rw[hCo];rfl];rfl
 ·rintro σ H' ⟨rfl,x2,rfl⟩;rw[hA1,hA8 (hA5 _)];exact⟨_,rfl,q⟩
theorem scRedu:FnScope ["masks","kept","mask","fresh"] ["masks"] (qAb sRedu):=⟨rfl,rfl,rfl,by decide +kernel,rfl,by decide +kernel,by decide +kernel⟩
theorem ok_redu (F:Fun K "reduced" "reduced" sRedu f fd) (G:Cl P w K mg base CX0 1 f1 fd1 ["mask","kept"] spLess "lessened") (mmi:mg "min" = none) (mso:mg "sorted" = none):FnOk P w K mg base CX0 2 f fd ["masks"] spRedu:=by
 refine F.ok scRedu (fun vs H Q E h=>?_) (fun cdv A outer s H vs Q E hr h=>?_)
 ·obtain⟨p,ms,rfl,_⟩:=h;rfl
 obtain⟨p,ms,rfl,hp,lm,q⟩:=h;refine⟨_,pss_cons (qAn (i:=1) scRedu.nd rfl (Or.inl rfl) (qBk qAc))
  (pss_cons (qB6 PassesOwn.never rfl (qAv (pv 0)) (qAg (i:=2) scRedu.nd rfl (Or.inl rfl))
   (pss_cons (qAn (i:=3) scRedu.nd rfl (Or.inr rfl) (qAy G hr rfl .nil qAz (qAa (pv 2) (qAa (pv 1) qAc))))
   (qAh (qCq (qAp op_ne (pv 3) qAd (qAw _))
    (qAh (qAn (i:=1) scRedu.nd rfl (Or.inl rfl) (qAk qDd (pe_lc (N:=["masks","kept","mask","fresh"]) (sc:=qAb sRedu) (N':=["step","fresh"]) (sub:=[none,some 3]) rfl rfl (CmpOk.of (by decide +kernel)) rfl (qAv (pv 1))
     (fun C s H fp=>⟨qAg (i:=0) (by show(["step","fresh"]:List Str).Nodup;decide) rfl (Or.inl rfl),qA7,qAj (call_min2 rfl) rfl mmi boot_min' (qAa (pv 0) (qAa (qAk op_xor (pv 0) (pv 1)) qAc))⟩)) (qBk (qAa (pv 3) qAc)))))
    qBl))))
  (qAh (qAu (pe_sortRev rfl mso (qAa (pv 1) qAc))))),?_⟩
 try dsimp only[Cx.wish,qB5]
 refine⟨hAq _,fun ke ke0=>?_⟩;have X0:=Ext.new ke0 (.lst []);refine⟨_,rfl,p,rfl,⟨_,SqL.of (X0 _ _ hp)⟩,?_⟩;refine qCi (xs:=ms.map iV) (fun i σ H'=>∃ (ke:Addr) (x2 x3:Option V),σ=[some (.ref p),some (.ref ke),x2,x3]/\Ext H H'/\LsN H' ke (red (ms.take i))) ⟨ke,none,none,rfl,X0,upd_same⟩ (fun i σ H' _ h=>by obtain⟨_,_,_,_,e,_⟩:=h;exact SqL.of (e _ _ hp)) ?_ ?_
 ·rintro i v σ H' hx ⟨ke,x2,x3,rfl,e,hk⟩;obtain⟨m,rfl,hm⟩:=qCw hx;have hi:i<ms.length:=qA0 hm;have rr:=qGw (ms.take i);have lr:=red_le (ms.take i);rw[hAj]at lr;refine⟨_,rfl,_,rfl,m,ke,_,rfl,hk,rr.nz,?_⟩;have sn:red (ms.take (i+1))=redS (red (ms.take i)) m:=by rw[qAl hm,qFg]
  refine⟨_,rfl,rfl,_,rfl,?_⟩;refine qDa (fun c=>?_) (fun c=>?_)
  ·have c':red1 (red (ms.take i)) m≠0:=fun z=>by rw[z]at c;simp at c
   refine⟨_,rfl,ke,rfl,⟨_,SqL.of hk⟩,?_⟩;refine qAt (xs:=(red (ms.take i)).map iV) (fun j ys H2=>H2=H'/\ys=(((red (ms.take i)).take j).map fun s=>rd1 s (red1 (red (ms.take i)) m)).map iV) ⟨rfl,rfl⟩ (fun j ys H2 _ h=>by rw[h.1];exact SqL.of hk) ?_ ?_
   ·rintro j x ys H2 hx2 ⟨rfl,rfl⟩;obtain⟨s,rfl,hs⟩:=qCw hx2;have hj:=qA0 hs;refine⟨Sle.set _ (Sle.refl _) (fun u z=>by cases z),iteT (B:=False) ⟨_,rfl,_,rfl,_,rfl,_,_,rfl,rfl,_,_,rfl,?_,nxt (qA0 hx2) ⟨rfl,?_⟩⟩⟩
    ·rw[hA1,hA1,hAj];exact qAi (by omega)
    ·rw[min_int _ c',qAl hs,hA9,hA9];rfl
   ·rintro ys H2 ⟨rfl,rfl⟩ l hl;rw[hA1,hA8 (hA5 _)];have n1:=Ext.new hl (.lst (((red (ms.take i)).map fun s=>rd1 s (red1 (red (ms.take i)) m)).map iV));refine⟨_,rfl,(by show 1<=sizeLine;decide),fun l2 hl2=>?_⟩;have n2:=Ext.new hl2 (.lst [iV (red1 (red (ms.take i)) m)]);refine⟨l,l2,_,_,rfl,rfl,n2 _ _ upd_same,upd_same,?_,fun l3 hl3=>?_⟩
    ·rw[hA1,hA1];show _+1<=sizeLine;exact hB3 (qAi (by omega))
    ·refine⟨l3,_,_,rfl,((e.trans n1).trans n2).trans (Ext.new hl3 _),?_⟩;rw[sn];unfold redS LsN;rw[if_neg c',upd_same,hA9];rfl
  ·have c':red1 (red (ms.take i)) m=0:=by
    have:(red1 (red (ms.take i)) m:Int)=0:=by simpa using c
    omega
   refine⟨ke,_,_,rfl,e,?_⟩;rw[sn];unfold redS;rw[if_pos c'];exact hk
 ·rintro σ H' ⟨ke,x2,x3,rfl,e,hk⟩;rw[hA1,hA8 (hA5 _)]at hk;have lr:=red_le ms;refine⟨_,rfl,ke,(red ms).map (fun n:Nat=>(n:Int)),rfl,by rw[<-qEm];exact SqL.of hk,by rw[hA1];omega,fun r ns hr' pm od=>?_⟩;have od':ns.Pairwise fun a b=>a >= b:=od
  obtain⟨M,rfl⟩:∃ M:List Nat,ns=M.map (fun n:Nat=>(n:Int)):=by
   refine⟨ns.map Int.toNat,?_⟩;rw[hB2];refine(List.map_id _).symm.trans (hBu fun a ha=>?_);obtain⟨n,_,rfl⟩:=hAb.mp (pm.mem_iff.mp ha);simp
  have pm':M.Perm (red ms):=by
   have:=pm.map Int.toNat;rw[hB2,hB2]at this;have idn:(Int.toNat∘fun n:Nat=>(n:Int))=id:=by funext n;simp
   rw[idn,List.map_id,List.map_id]at this;exact this
  refine q r M _ (e.trans (Ext.new hr' _)) (e.none hr') (by unfold LsN;rw[upd_same,qEm]) pm' ?_;rw[hBx]at od';exact List.Pairwise.imp (fun {a b} h=>by omega) od'
theorem scLead:FnScope ["mask"] ["mask"] (qAb sLead):=⟨rfl,rfl,rfl,by decide +kernel,rfl,by decide +kernel,by decide +kernel⟩
theorem ok_lead (F:Fun K "lead_of" "lead_of" sLead f fd):FnOk P w K mg base CX0 1 f fd ["mask"] spLead:=by
 refine F.ok scLead (fun vs H Q E h=>?_) (fun cdv A outer s H vs Q E hr h=>?_)
 ·obtain⟨x,rfl,_⟩:=h;rfl
 obtain⟨x,rfl,nz,lt,q⟩:=h;refine⟨_,qAh (qAu (qAk op_shl qAd (qAk op_sub (pe_bm0 PySem.F.plainAttrs_int PySem.F.slot_int_bit_length PySem.F.type_int_bit_length mt_bits (pv 0)) qAd))),?_⟩;try dsimp only[Cx.wish,qB5]
 have l24:x.log2<24:=(Nat.log2_lt nz).mpr lt;have ib:Builtin.Int.intBits (x:Int)=x.log2+1:=by
  unfold Builtin.Int.intBits;rw[if_neg (by simpa using nz)];simp
 refine⟨_,rfl,rfl,x,rfl,rfl,_,_,rfl,rfl,_,_,rfl,rfl,?_⟩;rw[ib];have e:((x.log2+1:Nat):Int) - 1=(x.log2:Nat):=by omega
 rw[e];refine⟨⟨by omega,by omega,by decide⟩,?_⟩;dsimp only;rw[hC2,Int.one_mul];have p2:((2:Int)^x.log2)=((2^x.log2:Nat):Int):=by rw[Int.natCast_pow];rfl
 rw[p2];exact q
end
end My
namespace My
open PySem L2
theorem RR.perm {a b:List Nat} (h:RR a) (p:b.Perm a):RR b:=⟨fun s hs=>h.nz s (p.mem_iff.mp hs),(p.pairwise_iff (fun {x y} z=>⟨z.2,z.1⟩)).mpr h.ap⟩
theorem sum_cast:∀ l:List Nat,(l.map fun n:Nat=>(n:Int)).sum=((l.sum:Nat):Int)
 | []=>rfl
 | a :: l=>by rw[hAm,hD4,hD4,sum_cast l];omega
theorem shl_nat (p:Nat):(1:Int)*2^((p:Int)).toNat=((2^p:Nat):Int):=by
 rw[hC2,Int.one_mul,Int.natCast_pow];rfl
def spCrM:Sp:=fun vs H Q _=>∃ (p:Addr) (S:List Nat) (m:Nat),vs=[.ref p,iV m]/\LsN H p S/\RR S/\(∀ s∈S,s<2^m)/\m<=12/\S.length<=24/\∀ r H',Ext H H'->H r=none->LsN H' r (qD4 S m)->Q (.ref r) H'
def TabIn (H:Hp) (T:Addr) (names:List Str) (rows:List (List Str)):Prop:=∃ a b,H T=some (.tup [.ref a,.ref b])/\LsS H a names/\qCx H b rows
def TabF (H0 H:Hp) (T:Addr) (names:List Str) (rows:List (List Str)):Prop:=∃ a b,H T=some (.tup [.ref a,.ref b])/\LsS H a names/\H0 a=none/\RowsY H0 H b rows/\H0 b=none
theorem TabF.tin {H0 H:Hp} {T:Addr} {names:List Str} {rows:List (List Str)} (h:TabF H0 H T names rows):TabIn H T names rows:=by
 obtain⟨a,b,h1,h2,h3,h4,h5⟩:=h;exact⟨a,b,h1,h2,h4.rows⟩
theorem TabF.down {H0 H1 H:Hp} {T:Addr} {names:List Str} {rows:List (List Str)} (h:TabF H1 H T names rows) (e:Ext H0 H1):TabF H0 H T names rows:=by
 obtain⟨a,b,h1,h2,h3,⟨as,h4,h6⟩,h5⟩:=h;exact⟨a,b,h1,h2,e.none h3,⟨as,h4,Paired.mapP h6 fun a r z=>⟨z.1,e.none z.2.1,z.2.2⟩⟩,e.none h5⟩
def spTabF:Sp:=fun vs H Q _=>∃ (pn pm:Addr) (names:List Str) (ms:List Nat),vs=[.ref pn,.ref pm]/\LsS H pn names/\names.length<=12/\LsN H pm ms/\ms.length<=24/\∀ (T:Addr) (M:List Nat) (H':Hp),Ext H H'->H T=none->TabF H H' T names (M.map (rowM names))->M.Perm (red ms)->M.Pairwise (fun a b=>b<=a)->Q (.ref T) H'
def spStepM:Sp:=fun vs H Q _=>∃ (T:Addr) (names:List Str) (rows:List (List Str)),vs=[.ref T]/\TabIn H T names rows/\rows.length<=24/\∀ (r:Addr) (M:List Nat) (H':Hp),Ext H H'->H r=none->LsN H' r M->M.Perm (red (rows.map (qA3 names)))->M.Pairwise (fun a b=>b<=a)->Q (.ref r) H'
def spCross:Sp:=fun vs H Q _=>∃ (T:Addr) (names:List Str) (rows:List (List Str)),vs=[.ref T]/\TabIn H T names rows/\names.length<=12/\rows.length<=24/\∀ (T':Addr) (S M:List Nat) (H':Hp),Ext H H'->H T'=none->TabF H H' T' names (M.map (rowM names))->S.Perm (red (rows.map (qA3 names)))->M.Perm (red (qD4 S names.length))->M.Pairwise (fun a b=>b<=a)->Q (.ref T') H'
def spTies:Sp:=fun vs H Q _=>∃ (p:Addr) (net:List Tr),vs=[.ref p]/\qA8 H p net/\net.length<=12/\∀ r H',Ext H H'->H r=none->LsS H' r (net.map (·.1))->Q (.ref r) H'
def qE7 (net:List Tr) (x:Str):List Str:=(net.filter fun t=>decide (t.2.1=x) != decide (t.2.2=x)).map (·.1)
def spMet:Sp:=fun vs H Q _=>∃ (p:Addr) (net:List Tr) (x:Str),vs=[.ref p,.str x]/\qA8 H p net/\net.length<=12/\∀ r H',Ext H H'->H r=none->LsS H' r (qE7 net x)->Q (.ref r) H'
def spTable:Sp:=fun vs H Q _=>∃ (p:Addr) (net:List Tr),vs=[.ref p]/\qA8 H p net/\net.length<=12/\∀ (T:Addr) (ps:List Str) (S M:List Nat) (H':Hp),Ext H H'->H T=none->TabF H H' T (net.map (·.1)) (M.map (rowM (net.map (·.1))))->qGk net ps->qDo ps->S.Perm (red (ps.map fun x=>qA3 (net.map (·.1)) (qE7 net x)))->M.Perm (red (qD4 S net.length))->M.Pairwise (fun a b=>b<=a)->Q (.ref T) H'
section
variable {P:Program} {w:World} {K:PySem.W.Frag} {mg:Str->Option Value} {base:Heap} {f f1 f2 f3 f4:Addr} {fd fd1 fd2 fd3 fd4:FuncData}
abbrev crN:List Str:=["steps","width","leads","told","place","bit"]
theorem scCrM:FnScope crN ["steps","width"] (qAb sCrM):=⟨rfl,rfl,rfl,by decide +kernel,rfl,by decide +kernel,by decide +kernel⟩
theorem ok_crM (F:Fun K "crossed_masks" "crossed_masks" sCrM f fd) (G:Cl P w K mg base CX0 1 f1 fd1 ["mask"] spLead "lead_of") (msu:mg "sum" = none) (mr:mg "range" = none):FnOk P w K mg base CX0 2 f fd ["steps","width"] spCrM:=by
 refine F.ok scCrM (fun vs H Q E h=>?_) (fun cdv A outer s H vs Q E hr h=>?_)
 ·obtain⟨p,S,m,rfl,_⟩:=h;rfl
 obtain⟨p,S,m,rfl,hp,rr,lt,m12,lS,q⟩:=h;refine⟨_,pss_cons (qAn (i:=2) scCrM.nd rfl (Or.inl rfl) (qAj (call_sumI rfl) rfl msu boot_sum' (qAa (pe_lc (N:=crN) (sc:=qAb sCrM) (N':=["step"]) (sub:=[none]) rfl rfl (CmpOk.of (by decide +kernel)) rfl (qAv (pv 0))
   (fun C s H fp=>⟨qAg (i:=0) (by show(["step"]:List Str).Nodup;decide) rfl (Or.inl rfl),qA7,qAy G hr rfl .nil qAz (qAa (pv 0) qAc)⟩)) qAc)))
  (pss_cons (qAn (i:=3) scCrM.nd rfl (Or.inl rfl) (qBk qAc))
  (pss_cons (qB6 PassesOwn.never rfl (qB2 rfl mr (qAa (pv 1) qAc)) (qAg (i:=4) scCrM.nd rfl (Or.inl rfl))
   (pss_cons (qAn (i:=5) scCrM.nd rfl (Or.inr rfl) (qAk op_shl qAd (pv 4)))
   (qAh (qCq (qAp qCs (qAk op_and (pv 2) (pv 5)) qAd (qAw _))
    (qAh (qEg (pe_bm hC7 hC4 hC5 qCf (pv 3) (qAa
     (qAk qBw (pv 5) (qAj (call_sumI rfl) rfl msu boot_sum' (qAa (pe_lc (N:=crN) (sc:=qAb sCrM) (N':=["step","bit"]) (sub:=[none,some 5]) rfl rfl (CmpOk.of (by decide +kernel)) rfl (qAv (pv 0))
      (fun C s H fp=>⟨qAg (i:=0) (by show(["step","bit"]:List Str).Nodup;decide) rfl (Or.inl rfl),qB8 (qAp op_ne (qAk op_and (pv 0) (pv 1)) qAd (qAw _)),qAy G hr rfl .nil qAz (qAa (pv 0) qAc)⟩)) qAc))) qAc))))
    qBl))))
  (qAh (qAu (pv 3))))),?_⟩
 try dsimp only[Cx.wish,qB5]
 have l24:∀ s∈S,s<2^24:=fun s hs=>hAi (lt s hs) (hC8 (by decide) (by omega))
 refine⟨_,rfl,p,rfl,⟨_,SqL.of hp⟩,?_⟩;refine qAt (xs:=S.map iV) (fun j ys H2=>H2=H/\ys=((S.take j).map fun s:Nat=>2^s.log2).map iV) ⟨rfl,rfl⟩ (fun j ys H2 _ h=>by rw[h.1];exact SqL.of hp) ?_ ?_
 ·rintro j v ys H2 hx ⟨rfl,rfl⟩;obtain⟨s,rfl,hs⟩:=qCw hx;have hj:=qA0 hs;have sm:=hAu hs;refine⟨Sle.set _ (Sle.refl _) (fun u z=>by cases z),iteT (B:=False) ⟨_,rfl,s,rfl,rr.nz s sm,l24 s sm,?_,nxt (qA0 hx) ⟨rfl,?_⟩⟩⟩
  ·rw[hA1,hA1,hAj];exact qAi (by omega)
  ·rw[qAl hs,hA9,hA9];rfl
 rintro ys H2 ⟨rfl,rfl⟩ l1 hl1;rw[hA1,hA8 (hA5 _)];have n1:=Ext.new hl1 (.lst ((S.map fun s:Nat=>2^s.log2).map iV));refine⟨l1,(S.map fun s:Nat=>2^s.log2).map (fun n:Nat=>(n:Int)),rfl,SqL.of (by rw[upd_same,qEm]),?_⟩;rw[sum_cast];refine⟨hAq _,fun to to1=>?_⟩;have to0:=n1.none to1;have n2:=n1.trans (Ext.new to1 (.lst []));refine⟨_,rfl,(m:Int),rfl,by omega,by omega,?_⟩;refine qCh (lo:=0) (n:=((m:Int)).toNat) (fun i σ H'=>∃ (x4 x5:Option V),σ=[some (.ref p),some (iV m),some (iV (S.map fun s:Nat=>2^s.log2).sum),some (.ref to),x4,x5]/\Ext H2 H'/\LsN H' to (((List.range i).filter fun p=>!decide (isLd S p)).map (crM S))) ⟨none,none,rfl,n2,upd_same⟩ ?_ ?_
 ·rintro i σ H' hi ⟨x4,x5,rfl,e,ht⟩;have hi':i<m:=by omega
  refine⟨_,rfl,_,_,rfl,rfl,⟨by omega,by omega,by decide⟩,?_⟩;have bv:(fun i j:Int=>V.int (i*2^j.toNat)) 1 (0+(i:Int))=iV (2^i):=by
   show V.int (1*2^(0+(i:Int)).toNat)=_;rw[show(0+(i:Int))=(i:Nat) by omega,shl_nat]
  rw[bv];have sn:((List.range (i+1)).filter fun p=>!decide (isLd S p)).map (crM S)=((List.range i).filter fun p=>!decide (isLd S p)).map (crM S)++(if isLd S i then [] else [crM S i]):=by
   rw[hDf,hBz,hA9];congr 1;by_cases b:isLd S i
   ·simp[b]
   ·simp[b]
  have lb:=leads_bit rr i;refine⟨_,rfl,_,rfl,_,_,rfl,rfl,rfl,_,rfl,?_⟩;refine qDa (fun c=>?_) (fun c=>?_)
  ·have nl:¬isLd S i:=fun z=>by
    rw[decide_eq_true z]at lb;have ne:=(and_pow _ i).mpr lb;have:Builtin.bitAnd (((S.map fun s:Nat=>2^s.log2).sum:Nat):Int) ((2^i:Nat):Int)=0:=by simpa using c
    rw[qCl]at this;omega
   refine⟨_,rfl,.inl ⟨rfl,_,SqL.of ht⟩,_,rfl,?_⟩;refine⟨_,rfl,p,rfl,⟨_,SqL.of (e _ _ hp)⟩,?_⟩;refine qAt (xs:=S.map iV) (fun j ys H3=>H3=H'/\ys=(((S.take j).filter fun s:Nat=>s.testBit i).map fun s:Nat=>2^s.log2).map iV) ⟨rfl,rfl⟩ (fun j ys H3 _ h=>by rw[h.1];exact SqL.of (e _ _ hp)) ?_ ?_
   ·rintro j v ys H3 hx ⟨rfl,rfl⟩;obtain⟨s,rfl,hs⟩:=qCw hx;have hj:=qA0 hs;have sm:=hAu hs;refine⟨Sle.set _ (Sle.refl _) (fun u z=>by cases z),_,rfl,_,rfl,_,_,rfl,rfl,rfl,_,rfl,?_⟩;have key:((!decide (V.int (Builtin.bitAnd (s:Int) ((2^i:Nat):Int))=V.int 0))=true)↔s.testBit i=true:=by
     rw[<-and_pow s i,qCl];simp
    refine qDa (fun c3=>?_) (fun c3=>?_)
    ·have b:=key.mp c3;refine⟨_,rfl,s,rfl,rr.nz s sm,l24 s sm,?_,nxt (qA0 hx) ⟨rfl,?_⟩⟩
     ·have:=hAt (fun s:Nat=>s.testBit i) (S.take j);rw[hAj]at this;rw[hA1,hA1];exact qAi (by omega)
     ·rw[qAl hs,hBz,hA9,hA9];simp[b]
    ·have b:¬s.testBit i=true:=fun z=>c3 (key.mpr z)
     refine nxt (qA0 hx) ⟨rfl,?_⟩;rw[qAl hs,hBz];simp[b]
   ·rintro ys H3 ⟨rfl,rfl⟩ l2 hl2;rw[hA1,hA8 (hA5 _)];have n3:=Ext.new hl2 (.lst (((S.filter fun s:Nat=>s.testBit i).map fun s:Nat=>2^s.log2).map iV));refine⟨l2,((S.filter fun s:Nat=>s.testBit i).map fun s:Nat=>2^s.log2).map (fun n:Nat=>(n:Int)),rfl,SqL.of (by rw[upd_same,qEm]),?_⟩;rw[sum_cast];refine⟨_,_,rfl,rfl,to,_,_,rfl,rfl,n3 _ _ ht,?_,?_⟩
    ·have:=hAt (fun p=>!decide (isLd S p)) (List.range i);rw[hC3]at this;rw[hA1,hA1];exact qAi (by omega)
    ·refine⟨_,_,rfl,(e.trans n3).over to0 _,?_⟩;rw[sn,if_neg nl];unfold LsN;rw[upd_same,hA9];rfl
  ·have il:isLd S i:=hBo fun z=>by
    rw[decide_eq_false z]at lb;refine c ?_;have:(S.map fun s:Nat=>2^s.log2).sum&&&2^i=0:=hBo fun y=>by
     have:=(and_pow _ i).mp y;rw[lb]at this;cases this
    show decide (V.int (Builtin.bitAnd (((S.map fun s:Nat=>2^s.log2).sum:Nat):Int) ((2^i:Nat):Int))=V.int 0)=true;rw[qCl,this];rfl
   refine⟨_,_,rfl,e,?_⟩;rw[sn,if_pos il,hBi];exact ht
 ·rintro σ H' ⟨x4,x5,rfl,e,ht⟩;rw[hC2]at ht;exact⟨_,rfl,q to _ e to0 ht⟩
theorem scTabF:FnScope ["names","masks"] ["names","masks"] (qAb sTabF):=⟨rfl,rfl,rfl,by decide +kernel,rfl,by decide +kernel,by decide +kernel⟩
theorem ok_tabF (F:Fun K "table_from" "table_from" sTabF f fd) (G1:Cl P w K mg base CX0 1 f1 fd1 ["names","mask"] spRowOf "row_of")
  (G2:Cl P w K mg base CX0 2 f2 fd2 ["masks"] spRedu "reduced") (mL:mg "list" = none):FnOk P w K mg base CX0 3 f fd ["names","masks"] spTabF:=by
 refine F.ok scTabF (fun vs H Q E h=>?_) (fun cdv A outer s H vs Q E hr h=>?_)
 ·obtain⟨pn,pm,names,ms,rfl,_⟩:=h;rfl
 obtain⟨pn,pm,names,ms,rfl,hn,ln,hm,lm,q⟩:=h;have hr1:=hr.mono (j:=1) (by decide);refine⟨_,qAh (qAu (qCn (qAa (qBb qBs rfl mL qBj (qAa (pv 0) qAc)) (qAa
  (pe_lc (N:=["names","masks"]) (sc:=qAb sTabF) (N':=["mask","names"]) (sub:=[none,some 0]) rfl rfl (CmpOk.of (by decide +kernel)) rfl (qAv (qAy G2 hr rfl .nil qAz (qAa (pv 1) qAc)))
   (fun C s H fp=>⟨qAg (i:=0) (by show(["mask","names"]:List Str).Nodup;decide) rfl (Or.inl rfl),qA7,qAy G1 hr1 rfl .nil qAz (qAa (pv 1) (qAa (pv 0) qAc))⟩)) qAc)))),?_⟩
 try dsimp only[Cx.wish,qB5]
 refine⟨_,rfl,pn,_,rfl,.inl (SqL.of hn),fun l1 hl1=>?_⟩;have n1:=Ext.new hl1 (.lst (names.map V.str));refine⟨_,rfl,pm,ms,rfl,n1 _ _ hm,lm,fun r M H1 e1 r0 hM pM dM=>?_⟩;have E1:=n1.trans e1;have lM:M.length<=24:=by rw[pM.length_eq];exact hAs (red_le ms) lm
 refine⟨r,rfl,⟨_,SqL.of hM⟩,?_⟩;refine qAt (xs:=M.map iV) (fun j ys H2=>Ext H1 H2/\∃ as,ys=as.map V.ref/\Paired (fun a r=>LsS H2 a r/\H a=none) as ((M.take j).map (rowM names))) ⟨Ext.refl _,[],rfl,.nil⟩ (fun j ys H2 _ h=>SqL.of (h.1 _ _ hM)) ?_ ?_
 ·rintro j v ys H2 hx ⟨e2,as,rfl,pr⟩;obtain⟨x,rfl,hx'⟩:=qCw hx;have hj:=qA0 hx';have la:as.length=_:=pr.length;rw[hA1,hAj]at la;refine⟨Sle.set _ (Sle.refl _) (fun u z=>by cases z),iteT (B:=False) ⟨_,rfl,_,rfl,pn,names,x,rfl,(E1.trans e2) _ _ hn,ln,fun r3 H3 e3 r30 h3=>⟨?_,nxt (qA0 hx) ⟨e2.trans e3,as++[r3],by rw[hA9];rfl,?_⟩⟩⟩⟩
  ·rw[hA1];exact qAi (by omega)
  ·rw[qAl hx',hA9];exact Paired.snoc (Paired.mapP pr fun a t z=>⟨e3 _ _ z.1,z.2⟩) ⟨h3,(E1.trans e2).none r30⟩
 ·rintro ys H2 ⟨e2,as,rfl,pr⟩ b hb;rw[hA1,hA8 (hA5 _)]at pr;have E2:=E1.trans e2;have Xb:=Ext.new hb (.lst (as.map V.ref));refine⟨(by show 2<=sizeLine;decide),fun T hT=>?_⟩;have XT:=Xb.trans (Ext.new hT (.tup [V.ref l1,V.ref b]));refine q T M _ (E2.trans XT) ((E2.trans Xb).none hT) ⟨l1,b,upd_same,XT _ _ (e2 _ _ (e1 _ _ upd_same)),hl1,⟨as,(Ext.new hT _) _ _ upd_same,Paired.mapP pr fun a t z=>⟨XT _ _ z.1,z.2,qAf z.1 hb⟩⟩,E2.none hb⟩ pM dM
theorem scStepM:FnScope ["table","names","rows"] ["table"] (qAb qFu):=⟨rfl,rfl,rfl,by decide +kernel,rfl,by decide +kernel,by decide +kernel⟩
theorem ok_stepM (F:Fun K "step_masks" "step_masks" qFu f fd) (G1:Cl P w K mg base CX0 1 f1 fd1 ["names","row"] spMask "mask_of")
  (G2:Cl P w K mg base CX0 2 f2 fd2 ["masks"] spRedu "reduced"):FnOk P w K mg base CX0 3 f fd ["table"] spStepM:=by
 refine F.ok scStepM (fun vs H Q E h=>?_) (fun cdv A outer s H vs Q E hr h=>?_)
 ·obtain⟨T,names,rows,rfl,_⟩:=h;rfl
 obtain⟨T,names,rows,rfl,⟨a,b,hT,ha,⟨as,hb,pr⟩⟩,lr,q⟩:=h;have hr1:=hr.mono (j:=1) (by decide);refine⟨_,pss_cons (ps_asg (pv 0) (qB3 rfl (qAm (qAg (i:=1) scStepM.nd rfl (Or.inr rfl)) (qAm (qAg (i:=2) scStepM.nd rfl (Or.inl rfl)) qBo))))
  (qAh (qAu (qAy G2 hr rfl .nil qAz (qAa (pe_lc (N:=["table","names","rows"]) (sc:=qAb qFu) (N':=["row","names"]) (sub:=[none,some 1]) rfl rfl (CmpOk.of (by decide +kernel)) rfl (qAv (pv 2))
   (fun C s H fp=>⟨qAg (i:=0) (by show(["row","names"]:List Str).Nodup;decide) rfl (Or.inl rfl),qA7,qAy G1 hr1 rfl .nil qAz (qAa (pv 1) (qAa (pv 0) qAc))⟩)) qAc)))),?_⟩
 try dsimp only[Cx.wish,qB5]
 have la:as.length=rows.length:=pr.length;refine⟨_,rfl,T,_,rfl,SqT.of hT,rfl,_,_,rfl,_,_,rfl,rfl,?_⟩;refine⟨_,rfl,b,rfl,⟨_,SqL.of hb⟩,?_⟩;refine qAt (xs:=as.map V.ref) (fun j ys H2=>H2=H/\ys=((rows.take j).map (qA3 names)).map iV) ⟨rfl,rfl⟩ (fun j ys H2 _ h=>by rw[h.1];exact SqL.of hb) ?_ ?_
 ·rintro j v ys H2 hx ⟨rfl,rfl⟩;obtain⟨c,rfl,hc⟩:=ref_get hx;obtain⟨rw1,hrw,hc1⟩:=qBc pr hc;have hj:=qA0 hrw;refine⟨Sle.set _ (Sle.refl _) (fun u z=>by cases z),iteT (B:=False) ⟨_,rfl,_,rfl,a,c,names,rw1,rfl,ha,hc1,?_,nxt (qA0 hx) ⟨rfl,?_⟩⟩⟩
  ·rw[hA1,hA1,hAj];exact qAi (by omega)
  ·rw[qAl hrw,hA9,hA9];rfl
 ·rintro ys H2 ⟨rfl,rfl⟩ l hl;rw[hA1,la,hA8 (hA5 _)];have n1:=Ext.new hl (.lst ((rows.map (qA3 names)).map iV));refine⟨l,_,rfl,upd_same,by rw[hA1];exact lr,fun r M H1 e1 r0 hM pM dM=>?_⟩;exact q r M H1 (n1.trans e1) (n1.none r0) hM pM dM
theorem scCross:FnScope ["table","names"] ["table"] (qAb qGt):=⟨rfl,rfl,rfl,by decide +kernel,rfl,by decide +kernel,by decide +kernel⟩
theorem ok_cross (F:Fun K "crossed" "crossed" qGt f fd) (G1:Cl P w K mg base CX0 3 f1 fd1 ["names","masks"] spTabF "table_from")
  (G2:Cl P w K mg base CX0 2 f2 fd2 ["steps","width"] spCrM "crossed_masks")
  (G3:Cl P w K mg base CX0 3 f3 fd3 ["table"] spStepM "step_masks") (ml:mg "len" = none):FnOk P w K mg base CX0 4 f fd ["table"] spCross:=by
 refine F.ok scCross (fun vs H Q E h=>?_) (fun cdv A outer s H vs Q E hr h=>?_)
 ·obtain⟨T,names,rows,rfl,_⟩:=h;rfl
 obtain⟨T,names,rows,rfl,ht,ln,lr,q⟩:=h;have hr2:=hr.mono (j:=2) (by decide);refine⟨_,pss_cons (qAn (i:=1) scCross.nd rfl (Or.inl rfl) (pe_ix qDe (pv 0) qAd (fun _ _=>rfl)))
  (qAh (qAu (qAy G1 hr rfl .nil qAz (qAa (pv 1) (qAa (qAy G2 hr2 rfl .nil qAz (qAa (qAy G3 hr rfl .nil qAz (qAa (pv 0) qAc)) (qAa (qAj qAq rfl ml hB9 (qAa (pv 1) qAc)) qAc))) qAc))))),?_⟩
 try dsimp only[Cx.wish,qB5]
 obtain⟨a,b,hT,ha,hb⟩:=id ht;refine⟨_,rfl,T,_,_,_,rfl,rfl,SqT.of hT,(by exact atI_nat (j:=0) rfl),?_⟩;refine⟨_,rfl,_,rfl,T,names,rows,rfl,ht,lr,fun r S H1 e1 r0 hS pS dS=>?_⟩;have rrS:RR S:=(qGw _).perm pS;have ltS:∀ s∈S,s<2^names.length:=fun s hs=>red_lt (fun x hx=>by
  obtain⟨rw1,_,rfl⟩:=hAb.mp hx;exact qC5 names rw1) s (pS.mem_iff.mp hs)
 have lS:S.length<=24:=by
  have:=red_le (rows.map (qA3 names));rw[hA1]at this;rw[pS.length_eq];omega
 refine⟨_,rfl,a,_,rfl,.inl (SqL.of (e1 _ _ ha)),r,S,names.length,(by rw[hA1];rfl),hS,rrS,ltS,ln,lS,fun r2 H2 e2 r20 h2=>?_⟩;have lc:(qD4 S names.length).length<=24:=by
  unfold qD4;rw[hA1];have:=hAt (fun p=>!decide (isLd S p)) (List.range names.length);rw[hC3]at this;omega
 have E2:=e1.trans e2;refine⟨a,r2,names,_,rfl,E2 _ _ ha,ln,h2,lc,fun T' M H3 e3 t0 tf pM dM=>?_⟩;exact q T' S M H3 (E2.trans e3) (E2.none t0) (tf.down E2) pS pM dM
end
end My
namespace My
open PySem L2
theorem metF_snoc (net:List Tr) (t:Tr) (x:Str):qE7 (net++[t]) x=qE7 net x++(if (decide (t.2.1=x) != decide (t.2.2=x))=true then [t.1] else []):=by
 unfold qE7;rw[hBz,hA9];congr 1;by_cases b:(decide (t.2.1=x) != decide (t.2.2=x))=true
 ·rw[if_pos b,List.filter_cons,if_pos b];rfl
 ·rw[if_neg b,List.filter_cons,if_neg b];rfl
theorem metF_len (net:List Tr) (x:Str):(qE7 net x).length<=net.length:=by
 unfold qE7;rw[hA1];exact hAt _ _
section
variable {P:Program} {w:World} {K:PySem.W.Frag} {mg:Str->Option Value} {base:Heap} {f f1 f2 f3 f4:Addr} {fd fd1 fd2 fd3 fd4:FuncData}
theorem scTies:FnScope ["net"] ["net"] (qAb sTies):=⟨rfl,rfl,rfl,by decide +kernel,rfl,by decide +kernel,by decide +kernel⟩
abbrev tiN:List Str:=["tie","one","other"]
theorem ok_ties (F:Fun K "ties_of" "ties_of" sTies f fd):FnOk P w K mg base CX0 1 f fd ["net"] spTies:=by
 refine F.ok scTies (fun vs H Q E h=>?_) (fun cdv A outer s H vs Q E hr h=>?_)
 ·obtain⟨p,net,rfl,_⟩:=h;rfl
 obtain⟨p,net,rfl,⟨as,hp,pr⟩,hl,q⟩:=h;refine⟨_,qAh (qAu (pe_lc (N:=["net"]) (sc:=qAb sTies) (N':=tiN) (sub:=[none,none,none]) rfl rfl (CmpOk.of (by decide +kernel)) rfl (qAv (pv 0))
  (fun C s H fp=>⟨(show PG _ _ (gTup K 3 _) from qB3 rfl (qAm (qAg (i:=0) (by show tiN.Nodup;decide) rfl (Or.inl rfl)) (qAm (qAg (i:=1) (by show tiN.Nodup;decide) rfl (Or.inl rfl)) (qAm (qAg (i:=2) (by show tiN.Nodup;decide) rfl (Or.inl rfl)) qBo)))),qA7,pv 0⟩))),?_⟩
 try dsimp only[Cx.wish,qB5]
 refine⟨_,rfl,p,rfl,⟨_,SqL.of hp⟩,?_⟩;refine turns_net (fun t=>t.1) hp pr hl (fun a t ha C B c=>?_) (fun r hr'=>q r _ (Ext.new hr' _) hr' upd_same);refine⟨a,_,rfl,SqT.of ha,rfl,_,_,rfl,_,_,rfl,_,_,rfl,rfl,?_⟩;exact⟨Sle.set _ (Sle.set _ (Sle.set _ (Sle.refl _) (fun u z=>by cases z)) (fun u z=>by cases z)) (fun u z=>by cases z),iteT (B:=B H) ⟨_,rfl,c⟩⟩
theorem scMet:FnScope ["net","point"] ["net","point"] (qAb sMet):=⟨rfl,rfl,rfl,by decide +kernel,rfl,by decide +kernel,by decide +kernel⟩
abbrev meN:List Str:=["tie","one","other","point"]
theorem ok_met (F:Fun K "met_once" "met_once" sMet f fd):FnOk P w K mg base CX0 1 f fd ["net","point"] spMet:=by
 refine F.ok scMet (fun vs H Q E h=>?_) (fun cdv A outer s H vs Q E hr h=>?_)
 ·obtain⟨p,net,x,rfl,_⟩:=h;rfl
 obtain⟨p,net,x,rfl,⟨as,hp,pr⟩,hl,q⟩:=h;refine⟨_,qAh (qAu (pe_lc (N:=["net","point"]) (sc:=qAb sMet) (N':=meN) (sub:=[none,none,none,some 1]) rfl rfl (CmpOk.of (by decide +kernel)) rfl (qAv (pv 0))
  (fun C s H fp=>⟨(show PG _ _ (gTup K 3 _) from qB3 rfl (qAm (qAg (i:=0) (by show meN.Nodup;decide) rfl (Or.inl rfl)) (qAm (qAg (i:=1) (by show meN.Nodup;decide) rfl (Or.inl rfl)) (qAm (qAg (i:=2) (by show meN.Nodup;decide) rfl (Or.inl rfl)) qBo)))),
   qB8 (qAp op_ne (qCr qCs (pv 1) (pv 3) (qAw _)) (qCr qCs (pv 2) (pv 3) (qAw _)) (qAw _)),pv 0⟩))),?_⟩
 try dsimp only[Cx.wish,qB5]
 have lA:as.length=net.length:=pr.length;refine⟨_,rfl,p,rfl,⟨_,SqL.of hp⟩,?_⟩;refine qAt (xs:=as.map V.ref) (fun j ys H2=>H2=H/\ys=(qE7 (net.take j) x).map V.str) ⟨rfl,rfl⟩ (fun j ys H2 _ h=>by rw[h.1];exact SqL.of hp) ?_ ?_
 ·rintro j v ys H2 hx ⟨rfl,rfl⟩;obtain⟨a,t,rfl,ht,ha⟩:=qCt pr hx;have hj:=qA0 ht;refine⟨a,_,rfl,SqT.of ha,rfl,_,_,rfl,_,_,rfl,_,_,rfl,rfl,?_⟩;refine⟨Sle.set _ (Sle.set _ (Sle.set _ (Sle.refl _) (fun u z=>by cases z)) (fun u z=>by cases z)) (fun u z=>by cases z),?_⟩;refine⟨_,rfl,_,rfl,rfl,_,rfl,_,rfl,rfl,rfl,_,rfl,?_⟩;have key:((!decide (V.bl (decide (V.str t.2.1=V.str x))=V.bl (decide (V.str t.2.2=V.str x))))=true)↔(decide (t.2.1=x) != decide (t.2.2=x))=true:=by
   by_cases a:t.2.1=x <;> by_cases b:t.2.2=x <;> simp[a,b]
  have sz:=metF_len (net.take j) x;rw[hAj]at sz;refine qDa (fun c=>?_) (fun c=>?_)
  ·have b:=key.mp c;refine⟨_,rfl,by rw[hA1];exact qAi (by omega),nxt (qA0 hx) ⟨rfl,?_⟩⟩;rw[qAl ht,metF_snoc,if_pos b,hA9];rfl
  ·have b:¬(decide (t.2.1=x) != decide (t.2.2=x))=true:=fun z=>c (key.mpr z)
   refine nxt (qA0 hx) ⟨rfl,?_⟩;rw[qAl ht,metF_snoc,if_neg b,hBi]
 ·rintro ys H2 ⟨rfl,rfl⟩ r hr';rw[hA1,lA,hA8 (hA5 _)];exact q r _ (Ext.new hr' _) hr' upd_same
theorem scTable:FnScope ["net"] ["net"] (qAb qFt):=⟨rfl,rfl,rfl,by decide +kernel,rfl,by decide +kernel,by decide +kernel⟩
theorem ok_table (F:Fun K "table_of" "table_of" qFt f fd) (G1:Cl P w K mg base CX0 4 f1 fd1 ["table"] spCross "crossed")
  (G2:Cl P w K mg base CX0 1 f2 fd2 ["net"] spTies "ties_of")
  (G3:Cl P w K mg base CX0 1 f3 fd3 ["net","point"] spMet "met_once")
  (G4:Cl P w K mg base CX0 1 f4 fd4 ["net"] qFd "points"):FnOk P w K mg base CX0 5 f fd ["net"] spTable:=by
 refine F.ok scTable (fun vs H Q E h=>?_) (fun cdv A outer s H vs Q E hr h=>?_)
 ·obtain⟨p,net,rfl,_⟩:=h;rfl
 obtain⟨p,net,rfl,nt,hl,q⟩:=h;have hr1:=hr.mono (j:=1) (by decide);refine⟨_,qAh (qAu (qAy G1 hr rfl .nil qAz (qAa (qCn (qAa (qAy G2 hr1 rfl .nil qAz (qAa (pv 0) qAc)) (qAa
  (pe_lc (N:=["net"]) (sc:=qAb qFt) (N':=["point","net"]) (sub:=[none,some 0]) rfl rfl (CmpOk.of (by decide +kernel)) rfl (qAv (qAy G4 hr1 rfl .nil qAz (qAa (pv 0) qAc)))
   (fun C s H fp=>⟨qAg (i:=0) (by show(["point","net"]:List Str).Nodup;decide) rfl (Or.inl rfl),qA7,qAy G3 hr1 rfl .nil qAz (qAa (pv 1) (qAa (pv 0) qAc))⟩)) qAc))) qAc))),?_⟩
 try dsimp only[Cx.wish,qB5]
 refine⟨_,rfl,p,net,rfl,nt,hl,fun tl H1 e1 tl0 htl=>?_⟩;refine⟨_,rfl,p,net,rfl,nt.ext e1,hl,fun pl ps H2 e2 pl0 hpl pok psr lps=>⟨pl,rfl,⟨_,SqL.of hpl⟩,?_⟩⟩;have E2:=e1.trans e2;refine qAt (xs:=ps.map V.str) (fun j ys H3=>Ext H2 H3/\∃ as,ys=as.map V.ref/\Paired (LsS H3) as ((ps.take j).map (qE7 net))) ⟨Ext.refl _,[],rfl,.nil⟩ (fun j ys H3 _ h=>SqL.of (h.1 _ _ hpl)) ?_ ?_
 ·rintro j x ys H3 hx ⟨e3,as,rfl,pr⟩;obtain⟨y,rfl,hy⟩:=str_get hx;have hj:=qA0 hy;have la:as.length=_:=pr.length;rw[hA1,hAj]at la;refine⟨Sle.set _ (Sle.refl _) (fun u z=>by cases z),iteT (B:=False) ⟨_,rfl,_,rfl,p,net,y,rfl,nt.ext (E2.trans e3),hl,fun r4 H4 e4 r40 hr4=>⟨?_,nxt (qA0 hx) ⟨e3.trans e4,as++[r4],by rw[hA9];rfl,?_⟩⟩⟩⟩
  ·rw[hA1];exact qAi (by omega)
  ·rw[qAl hy,hA9];exact Paired.snoc (Paired.mapP pr fun a t z=>e4 _ _ z) hr4
 ·rintro ys H3 ⟨e3,as,rfl,pr⟩ b hb;rw[hA1,hA8 (hA5 _)]at pr;have Xb:=Ext.new hb (.lst (as.map V.ref));refine⟨(by show 2<=sizeLine;decide),fun T hT=>?_⟩;have XT:=Xb.trans (Ext.new hT (.tup [V.ref tl,V.ref b]));have E3:=(E2.trans e3).trans XT;refine⟨T,net.map (fun t:Tr=>t.1),ps.map (qE7 net),rfl,⟨tl,b,upd_same,(e2.trans (e3.trans XT)) _ _ htl,⟨as,(Ext.new hT _) _ _ upd_same,Paired.mapP pr fun a t z=>XT _ _ z⟩⟩,by rw[hA1];exact hl,by rw[hA1];exact lps,fun T' S M H4 e4 t0 tf pS pM dM=>?_⟩;rw[hB2]at pS;rw[hA1]at pM;exact q T' ps S M H4 (E3.trans e4) (E3.none t0) (tf.down E3) pok psr pS pM dM
end
end My
namespace My
open PySem L2
theorem closed_lab (net:List Tr):∀ S:Str->Prop,(∀ t∈net,S t.2.1↔S t.2.2)->∀ x y,homF net x=homF net y->(S x↔S y):=by
 refine qBy (P:=fun net=>∀ S:Str->Prop,(∀ t∈net,S t.2.1↔S t.2.2)->∀ x y,homF net x=homF net y->(S x↔S y)) (fun S _ x y e=>?_) (fun l t ih S hS x y e=>?_) net
 ·have:x=y:=e;rw[this]
 have ih':=ih S fun u hu=>hS u (hAn _ hu)
 have hT:=hS t (by simp);rw[qCg]at e;have e':(if homF l x=homF l t.2.2 then homF l t.2.1 else homF l x)=(if homF l y=homF l t.2.2 then homF l t.2.1 else homF l y):=e;by_cases a:homF l x=homF l t.2.2
 ·by_cases b:homF l y=homF l t.2.2
  ·exact ih' x y (a.trans b.symm)
  ·rw[if_pos a,if_neg b]at e';exact(ih' x t.2.2 a).trans (hT.symm.trans (ih' t.2.1 y e'))
 ·by_cases b:homF l y=homF l t.2.2
  ·rw[if_neg a,if_pos b]at e';exact(ih' x t.2.1 e').trans (hT.trans (ih' t.2.2 y b.symm))
  ·rw[if_neg a,if_neg b]at e';exact ih' x y e'
def ixF (ps:List Str) (x:Str):Nat:=ps.findIdx fun y=>decide (y=x)
def vT (ps:List Str) (t:Tr):Nat:=2^ixF ps t.2.1^^^2^ixF ps t.2.2
def vF (net:List Tr) (ps:List Str) (i:Nat):Nat:=match net[i]? with | some t=>vT ps t | none=>0
end My
namespace My
open PySem L2
def rowL (names:List Str) (x:Nat):List Str:=(List.range names.length).filterMap fun i=>if x.testBit i=true then names[i]? else none
def spLRow:Sp:=fun vs H Q _=>∃ (pn:Addr) (names:List Str) (x:Nat),vs=[.ref pn,iV x]/\LsS H pn names/\names.length<=12/\∀ r H',Ext H H'->H r=none->LsS H' r (rowL names x)->Q (.ref r) H'
section
variable {P:Program} {w:World} {K:PySem.W.Frag} {mg:Str->Option Value} {base:Heap} {f f1 f2 f3 f4:Addr} {fd fd1 fd2 fd3 fd4:FuncData}
theorem scLRow:FnScope ["_law_names_here","_law_number"] ["_law_names_here","_law_number"] (qAb sLRow):=⟨rfl,rfl,rfl,by decide +kernel,rfl,by decide +kernel,by decide +kernel⟩
abbrev lwN:List Str:=["_law_k","_law_name","_law_number"]
theorem ok_lrow (F:Fun K "_law_row" "_law_row" sLRow f fd) (me:mg "enumerate" = none):FnOk P w K mg base CX0 1 f fd ["_law_names_here","_law_number"] spLRow:=by
 refine F.ok scLRow (fun vs H Q E h=>?_) (fun cdv A outer s H vs Q E hr h=>?_)
 ·obtain⟨pn,names,x,rfl,_⟩:=h;rfl
 obtain⟨pn,names,x,rfl,hn,ln,q⟩:=h;refine⟨_,qAh (qAu (pe_lc (N:=["_law_names_here","_law_number"]) (sc:=qAb sLRow) (N':=lwN) (sub:=[none,none,some 1]) rfl rfl (CmpOk.of (by decide +kernel)) rfl (pi_enum rfl me (qAa (pv 0) qAc))
   (fun C s H fp=>⟨(show PG _ _ (gTup K 2 _) from qB3 rfl (qAm (qAg (i:=0) (by show lwN.Nodup;decide) rfl (Or.inl rfl)) (qAm (qAg (i:=1) (by show lwN.Nodup;decide) rfl (Or.inl rfl)) qBo))),
    qB8 (qAp qCs (qAk op_and (qAk op_shr (pv 2) (pv 0)) qAd) qAd (qAw _)),pv 1⟩))),?_⟩
 try dsimp only[Cx.wish,qB5]
 refine⟨_,rfl,pn,_,rfl,SqL.of hn,?_⟩;rw[hA1];refine turns_tup (fun i ys H'=>Ext H H'/\ys=((List.range i).filterMap fun i=>if x.testBit i=true then names[i]? else none).map V.str) ⟨Ext.refl _,rfl⟩ (fun i ys H' _ p=>SqL.of (p.1 _ _ hn)) ?_ ?_
 ·rintro i ys H' T hi ⟨e,rfl⟩ hT;have gd:(names.map V.str).getD i .non = .str names[i]:=by rw[hAg,hAh,hA2 hi];rfl
  have e2:=e.trans (Ext.new hT (.tup [V.int (i:Nat),(names.map V.str).getD i .non]));refine⟨T,_,rfl,SqT.of upd_same,rfl,_,_,rfl,_,_,rfl,rfl,?_⟩;refine⟨Sle.set _ (Sle.set _ (Sle.refl _) (fun u z=>by cases z)) (fun u z=>by cases z),?_⟩;refine⟨_,rfl,_,rfl,_,_,rfl,rfl,(by show(0:Int)<=_;omega),_,_,rfl,rfl,rfl,_,rfl,?_⟩;have fm:((List.range (i+1)).filterMap fun i=>if x.testBit i=true then names[i]? else none)=((List.range i).filterMap fun i=>if x.testBit i=true then names[i]? else none)++(if x.testBit i=true then [names[i]] else []):=by
   rw[hDf,hDe];congr 1;by_cases b:x.testBit i=true
   ·simp[b,hA2 hi]
   ·simp[b]
  have sz:=List.length_filterMap_le (fun i=>if x.testBit i=true then names[i]? else none) (List.range i);rw[hC3]at sz;have key:(decide (V.int (Builtin.bitAnd ((x:Int) / 2^(((i:Nat):Int)).toNat) 1)=V.int 1)=true)↔x.testBit i=true:=by
   rw[decide_eq_true_iff,V.int.injEq,hC2,shr_one];by_cases b:x.testBit i=true
   ·simp[b]
   ·simp[b]
  refine qDa (fun c=>?_) (fun c=>?_)
  ·have b:=key.mp c;refine⟨_,rfl,by rw[hA1];exact qAi (by omega),nxt hi ⟨e2,?_⟩⟩;rw[fm,if_pos b,hA9,gd];rfl
  ·have b:¬x.testBit i=true:=fun z=>c (key.mpr z)
   refine nxt hi ⟨e2,?_⟩;rw[fm,if_neg b,hBi]
 ·rintro ys H' ⟨e,rfl⟩ r hr';exact q r _ (e.trans (Ext.new hr' _)) (e.none hr') upd_same
end
end My
namespace My
open PySem L2
abbrev lbF (net:List Tr):Tr->Str:=fun t=>homF net t.2.1
def PD (H0 H:Hp) (kvs:List (Key×V)) (P:List (Str×List Str)):Prop:=Paired (fun kv p=>kv.1=Sum.inr p.1/\∃ a,kv.2=V.ref a/\LsS H a p.2/\H0 a=Option.none) kvs P
theorem PD.ext {H0 H H':Hp} {kvs:List (Key×V)} {P:List (Str×List Str)} (h:PD H0 H kvs P) (e:Ext H H'):PD H0 H' kvs P:=Paired.mapP h fun _ _ ⟨h1,a,h2,h3,h4⟩=>⟨h1,a,h2,e _ _ h3,h4⟩
theorem PD.set {H0 H:Hp} {d:Addr} {kvs:List (Key×V)} {P:List (Str×List Str)} (h:PD H0 H kvs P) {kvs':List (Key×V)} (hd:H d=some (.dK kvs')) (o:HO):PD H0 (upd H d o) kvs P:=Paired.mapP h fun _ _ ⟨h1,a,h2,h3,h4⟩=>⟨h1,a,h2,by
 have ne:a≠d:=fun z=>by unfold LsS at h3;rw[z,hd]at h3;cases h3
 unfold LsS;rw[qAe ne];exact h3,h4⟩
theorem PD.none {H0 H:Hp}:∀ {kvs:List (Key×V)} {P:List (Str×List Str)} {x:Str},PD H0 H kvs P->x∉P.map (·.1)->valV kvs (Sum.inr x)=Option.none
 | _,_,_,.nil,_=>rfl
 | _,_,_,.cons h t,nx=>by
  rw[hAm]at nx;have n1:=fun z=>nx (hAa.mpr (.inl z))
  rw[qCz (fun z=>n1 (Sum.inr.inj (h.1▸z)).symm)];exact PD.none t fun z=>nx (hA4 _ z)
theorem PD.some {H0 H:Hp}:∀ {kvs:List (Key×V)} {P:List (Str×List Str)} {x:Str},PD H0 H kvs P->x∈P.map (·.1)->∃ p∈P,p.1=x/\∃ a,valV kvs (Sum.inr x)=Option.some (.ref a)/\LsS H a p.2
 | _,_,_,.nil,m=>by cases m
 | _,_,x,@Paired.cons _ _ _ kv p _ _ h t,m=>by
  obtain⟨h1,a,h2,h3,_⟩:=h;by_cases e:p.1=x
  ·exact⟨p,hA3,e,a,by rw[qDr (by rw[h1,e]),h2],h3⟩
  ·rw[hAm]at m;rcases hAa.mp m with z | z
   ·exact absurd z.symm e
   ·obtain⟨p',hp',e',a',v,l⟩:=PD.some t z;exact⟨p',hA4 _ hp',e',a',by rw[qCz (fun z=>e (Sum.inr.inj (h1▸z)))];exact v,l⟩
theorem PD.put {H0 H:Hp} {x n:Str} {a:Addr} {old:List Str} (la:LsS H a (old++[n])) (la0:H0 a=Option.none):∀ {kvs:List (Key×V)} {P:List (Str×List Str)},PD H0 H kvs P->(P.map (·.1)).Nodup->(∀ p∈P,p.1=x->p.2=old)->PD H0 H (kvs.map fun kv=>if kv.1=Sum.inr x then (kv.1,V.ref a) else kv) (P.map fun p=>if p.1=x then (p.1,p.2++[n]) else p)
 | _,_,.nil,_,_=>.nil
 | _,_,@Paired.cons _ _ _ kv p _ _ h t,nd,ho=>by
  rw[hAm,hAm];refine .cons ?_ (PD.put la la0 t (hAx.mp nd).2 fun p hp=>ho p (hA4 _ hp));obtain⟨h1,b,h2,h3,h4⟩:=h;by_cases e:p.1=x
  ·have e':kv.1=Sum.inr x:=by rw[h1,e]
   rw[if_pos e,if_pos e'];exact⟨h1,a,rfl,by rw[ho p hA3 e];exact la,la0⟩
  ·have e':¬kv.1=Sum.inr x:=fun z=>e (Sum.inr.inj (h1▸z))
   rw[if_neg e,if_neg e'];exact⟨h1,b,h2,h3,h4⟩
end My
namespace My
open PySem L2
theorem PCK_len (f:Tr->Str) (net:List Tr):(PCK f net).length<=net.length:=by
 refine qBy (P:=fun net=>(PCK f net).length<=net.length) (by rw[qCy];exact hA5 _) (fun l t ih=>?_) net;rw[PCK_snoc,hAd];split
 ·rw[hA1];exact hAs ih (hD6 _ _)
 ·rw[hAd];exact Nat.add_le_add_right ih _
theorem PCK_small (f:Tr->Str) (net:List Tr):∀ p∈PCK f net,p.2.length<=net.length:=fun p hp=>by
 rw[PCK_val f net p hp,hA1];exact hAt _ _
theorem pd_rows {H0 H:Hp}:∀ {kvs:List (Key×V)} {P:List (Str×List Str)},PD H0 H kvs P->∃ as:List Addr,kvs.map (·.2)=as.map V.ref/\Paired (fun a r=>LsS H a r/\H0 a=none) as (P.map (·.2))
 | _,_,.nil=>⟨[],rfl,.nil⟩
 | _,_,.cons h t=>by
  obtain⟨h1,a,h2,h3⟩:=h;obtain⟨as,e,p⟩:=pd_rows t;exact⟨a :: as,by rw[hAm,hAm,e,h2],.cons h3 p⟩
def spPieces:Sp:=fun vs H Q _=>∃ (p:Addr) (net:List Tr),vs=[.ref p]/\qA8 H p net/\net.length<=12/\∀ r H',Ext H H'->H r=none->RowsY H H' r ((PCK (lbF net) net).map (·.2))->Q (.ref r) H'
section
variable {P:Program} {w:World} {K:PySem.W.Frag} {mg:Str->Option Value} {base:Heap} {f f1 f2:Addr} {fd fd1 fd2:FuncData}
abbrev piN:List Str:=["net","home","told","tie","one","other"]
theorem qC1:FnScope piN ["net"] (qAb qEe):=⟨rfl,rfl,rfl,by decide +kernel,rfl,by decide +kernel,by decide +kernel⟩
theorem ok_pieces (F:Fun K "pieces" "pieces" qEe f fd) (G:Cl P w K mg base CX0 2 f1 fd1 ["net"] spHomes "homes") (ml:mg "list" = none):FnOk P w K mg base CX0 3 f fd ["net"] spPieces:=by
 refine F.ok qC1 (fun vs H Q E h=>?_) (fun cdv A outer s H vs Q E hr h=>?_)
 ·obtain⟨p,net,rfl,_⟩:=h;rfl
 obtain⟨p,net,rfl,nt,hl,q⟩:=h;refine⟨_,pss_cons (qAn (i:=1) qC1.nd rfl (Or.inl rfl) (qAy G hr rfl .nil qAz (qAa (pv 0) qAc)))
  (pss_cons (qAn (i:=2) qC1.nd rfl (Or.inl rfl) pe_dnewK)
  (pss_cons (qB6 PassesOwn.never rfl (qAv (pv 0)) (qB3 rfl (qAm (qAg (i:=3) qC1.nd rfl (Or.inl rfl)) (qAm (qAg (i:=4) qC1.nd rfl (Or.inl rfl)) (qAm (qAg (i:=5) qC1.nd rfl (Or.inl rfl)) qBo))))
   (qAh (ps_dput (hu_of hr) (pv 2) (pe_dget (hu_of hr) (pv 1) (pv 4) (fun _ _=>rfl)) (qAk qDd (pe_dget2 (hu_of hr) (pv 2) (pe_dget (hu_of hr) (pv 1) (pv 4) (fun _ _=>rfl)) (qBk qAc) ⟨rfl,rfl,rfl,rfl⟩) (qBk (qAa (pv 3) qAc))) rfl)))
  (qAh (qAu (qBb (qGj rfl) rfl ml qBj (qAa (pe_bm0 PySem.F.plainAttrs_dict PySem.F.slot_dict_values PySem.F.type_dict_values mt_values (pv 2)) qAc)))))),?_⟩
 try dsimp only[Cx.wish,qB5]
 obtain⟨as,hp,pr⟩:=id nt;have lA:as.length=net.length:=pr.length;refine⟨_,rfl,p,net,rfl,nt,hl,fun hm ps H1 e1 hm0 hm1 pok lps=>?_⟩;intro d hd;have hd0:=e1.none hd;have hmd:hm≠d:=qAf hm1 hd;refine⟨_,rfl,p,rfl,⟨_,SqL.of ((e1.over hd0 _) _ _ hp)⟩,?_⟩;refine qCi (xs:=as.map V.ref) (fun i σ H3=>∃ (x3 x4 x5:Option V) (kvs:List (Key×V)),σ=[some (.ref p),some (.ref hm),some (.ref d),x3,x4,x5]/\Ext H H3/\H3 hm=some (.dK (hD ps (homF net)))/\H3 d=some (.dK kvs)/\PD H H3 kvs (PCK (lbF net) (net.take i)))
  ⟨none,none,none,[],rfl,e1.over hd0 _,by rw[qAe hmd];exact hm1,upd_same,by rw[List.take_zero,qCy];exact .nil⟩ ?_ ?_ ?_
 ·rintro i σ H3 _ ⟨x3,x4,x5,kvs,_,e3,_⟩;exact SqL.of (e3 _ _ hp)
 ·rintro i x σ H3 hx ⟨x3,x4,x5,kvs,rfl,e3,hh3,hd3,pd⟩;obtain⟨a,t,rfl,ht,ha⟩:=qCt pr hx;have hi:=qA0 ht;have i1:t.2.1∈ps:=(pok.2 _).mpr ⟨t,hAu ht,.inl rfl⟩;have v1:=hD_val (homF net) t.2.1 ps;rw[if_pos i1]at v1;have lk:kvs.length<=i:=by
   have h1:kvs.length=_:=pd.length;have h2:=PCK_len (lbF net) (net.take i);rw[hAj]at h2;omega
  refine⟨a,_,rfl,SqT.of (e3 _ _ ha),rfl,_,_,rfl,_,_,rfl,_,_,rfl,rfl,?_⟩;have gh:∀ {H4:Hp},Ext H3 H4->DGet H4 hm (V.str t.2.1) (some (.str (homF net t.2.1))):=fun e=>by
   have g:=DGet.k (k:=Sum.inr t.2.1) (e _ _ hh3);rw[v1]at g;exact g
  refine⟨_,rfl,d,rfl,.inl ⟨kvs,.inl hd3⟩,_,rfl,_,rfl,hm,_,rfl,gh (Ext.refl _),hAq _,fun l0 hl0=>?_⟩;have n0:=Ext.new hl0 (.lst []);refine⟨_,DGet.k (k:=Sum.inr (homF net t.2.1)) (n0 _ _ hd3),?_⟩;refine⟨_,rfl,(by show 1<=sizeLine;decide),fun l1 hl1=>?_⟩;have n1:=n0.trans (Ext.new hl1 (.lst [V.str t.1]));have snoc:=PCK_snoc (lbF net) t (net.take i);rw[<-qAl ht]at snoc;by_cases m:homF net t.2.1∈(PCK (lbF net) (net.take i)).map (·.1)
  ·obtain⟨pp,hpp,ep,lv,ev,hlv⟩:=pd.some m;have lz:=PCK_small (lbF net) (net.take i) pp hpp;rw[hAj]at lz;rw[if_pos (show lbF net t∈_ from m)]at snoc;refine⟨lv,l1,_,_,by rw[ev];rfl,rfl,n1 _ _ hlv,upd_same,?_,fun l2 hl2=>?_⟩
   ·rw[hA1];show _+1<=sizeLine;exact hB3 (qAi (by omega))
   have n2:=n1.trans (Ext.new hl2 (.lst (pp.2.map V.str++[V.str t.1])));have d2:=n2 _ _ hd3;have e4:=(e3.trans n2).over hd0 (.dK (qGh kvs (Sum.inr (homF net t.2.1)) (.ref l2)));refine⟨_,rfl,_,rfl,_,rfl,hm,_,rfl,gh n2,d,_,rfl,DPut.k (k:=Sum.inr (homF net t.2.1)) d2 (qAi (by omega)),?_⟩;refine⟨_,_,_,qGh kvs (Sum.inr (homF net t.2.1)) (.ref l2),rfl,e4,by rw[qAe hmd];exact n2 _ _ hh3,upd_same,?_⟩;rw[snoc];have pk:qGh kvs (Sum.inr (homF net t.2.1)) (.ref l2)=kvs.map fun kv=>if kv.1=Sum.inr (homF net t.2.1) then (kv.1,V.ref l2) else kv:=by
    unfold qGh;rw[qFa,ev,Option.isSome_some,if_pos rfl]
   rw[pk];refine PD.set (PD.put (old:=pp.2) (n:=t.1) (by unfold LsS;rw[upd_same,hA9];rfl) ((e3.trans n1).none hl2) (pd.ext n2) (qD6 _ _).1 fun p' hp' ep'=>?_) d2 _;rw[PCK_val _ _ p' hp',PCK_val _ _ pp hpp,ep',ep]
  ·have ev:=pd.none m;rw[if_neg (show ¬lbF net t∈_ from m)]at snoc;refine⟨l0,l1,_,_,by rw[ev];rfl,rfl,(Ext.new hl1 _) _ _ upd_same,upd_same,(by show 1<=sizeLine;decide),fun l2 hl2=>?_⟩;have n2:=n1.trans (Ext.new hl2 (.lst ([]++[V.str t.1])));have d2:=n2 _ _ hd3;have e4:=(e3.trans n2).over hd0 (.dK (qGh kvs (Sum.inr (homF net t.2.1)) (.ref l2)));refine⟨_,rfl,_,rfl,_,rfl,hm,_,rfl,gh n2,d,_,rfl,DPut.k (k:=Sum.inr (homF net t.2.1)) d2 (qAi (by omega)),?_⟩;refine⟨_,_,_,qGh kvs (Sum.inr (homF net t.2.1)) (.ref l2),rfl,e4,by rw[qAe hmd];exact n2 _ _ hh3,upd_same,?_⟩;rw[snoc,putK_new _ ev];exact PD.set (P:=PCK (lbF net) (net.take i)++[(lbF net t,[t.1])]) (Paired.snoc (pd.ext n2) ⟨rfl,l2,rfl,(upd_same:upd _ _ (HO.lst [V.str t.1]) _=_),(e3.trans n1).none hl2⟩) d2 _
 ·rintro σ H3 ⟨x3,x4,x5,kvs,rfl,e3,hh3,hd3,pd⟩;rw[hA1,lA,hA8 (hA5 _)]at pd;refine⟨_,rfl,.inr (.inr (.inl ⟨rfl,.inl ⟨kvs,hd3⟩⟩)),d,kvs,rfl,rfl,hd3,fun v hv'=>?_⟩;have n1:=Ext.new hv' (VwS v d);refine⟨v,d,kvs,rfl,upd_same,n1 _ _ hd3,fun l hl'=>?_⟩;obtain⟨bs,eb,pb⟩:=pd_rows pd;have n2:=n1.trans (Ext.new hl' (.lst (kvs.map (·.2))));exact q l _ (e3.trans n2) ((e3.trans n1).none hl') ⟨bs,by rw[upd_same,eb],Paired.mapP pb fun a t z=>⟨n2 _ _ z.1,z.2,qAf (n1 _ _ z.1) hl'⟩⟩
end
end My
namespace My
open PySem L2
abbrev nmS (net:List Tr):List Str:=net.map fun t=>t.1
theorem nm_at {net:List Tr} {i:Nat} {t:Tr} (h:net[i]?=some t):(nmS net)[i]?=some t.1:=by rw[hAh,h];rfl
theorem nm_inj {net:List Tr} (nd:(nmS net).Nodup) {t u:Tr} (ht:t∈net) (hu:u∈net) (e:t.1=u.1):t=u:=by
 induction net with
 | nil=>cases ht
 | cons v r ih =>
  have nd':(v.1 :: nmS r).Nodup:=nd;obtain⟨n1,n2⟩:=hAx.mp nd';rcases hAa.mp ht with a | a <;> rcases hAa.mp hu with b | b
  ·rw[a,b]
  ·subst a;exact absurd (hAb.mpr ⟨u,b,e.symm⟩) n1
  ·subst b;exact absurd (hAb.mpr ⟨t,a,e⟩) n1
  ·exact ih n2 a b
theorem met_mem {net:List Tr} (nd:(nmS net).Nodup) {t:Tr} (ht:t∈net) (x:Str):t.1∈qE7 net x↔(decide (t.2.1=x) != decide (t.2.2=x))=true:=by
 unfold qE7;rw[hAb];constructor
 ·rintro⟨u,hu,e⟩;obtain⟨h1,h2⟩:=hAf.mp hu;rw[<-nm_inj nd h1 ht e];exact h2
 ·intro h;exact⟨t,hAf.mpr ⟨ht,h⟩,rfl⟩
theorem bx:∀ a b:Bool,decide ((a != b)=true)=(a ^^ b):=fun a b=>by cases a <;> cases b <;> rfl
theorem fm_congr {α β:Type} {f g:α->Option β}:∀ {l:List α},(∀ i∈l,f i=g i)->l.filterMap f=l.filterMap g
 | [],_=>rfl
 | a :: l,h=>by rw[hBq,hBq,h a hA3,fm_congr fun i hi=>h i (hA4 _ hi)]
def gT (net:List Tr) (g:Tr->Bool) (i:Nat):Bool:=match net[i]? with | some t=>g t | none=>false
def atX (x:Str) (t:Tr):Bool:=decide (t.2.1=x) ^^ decide (t.2.2=x)
theorem sm_bit {net:List Tr} (nd:(nmS net).Nodup) (x:Str) {j:Nat} (hj:j<net.length):(qA3 (nmS net) (qE7 net x)).testBit j=gT net (atX x) (net.length - 1 - j):=by
 rw[qB4,hA1,decide_eq_true hj,hCl];have hi:net.length - 1 - j<net.length:=by omega
 have ht:=hA2 hi;unfold gT;rw[nm_at ht,ht];have e:(∃ n,some net[net.length - 1 - j].1=some n/\n∈qE7 net x)↔net[net.length - 1 - j].1∈qE7 net x:=⟨fun ⟨n,h1,h2⟩=>by cases h1;exact h2,fun h=>⟨_,rfl,h⟩⟩;exact(decide_eq_decide.mpr (e.trans (met_mem nd (hBw hi) x))).trans (bx _ _)
theorem dot_sm {net:List Tr} (nd:(nmS net).Nodup) (x:Str) (z:Nat):dot net.length z (qA3 (nmS net) (qE7 net x))=xsum net.length fun i=>z.testBit (net.length - 1 - i) && gT net (atX x) i:=by
 unfold dot;rw[<-xsum_rev (fun i=>z.testBit (net.length - 1 - i) && gT net (atX x) i)];refine qBq fun j hj=>?_
 rw[sm_bit nd x hj,show net.length - 1 - (net.length - 1 - j)=j by omega]
theorem rowL_rv {names:List Str} (x:Nat):rowM names (rv names.length x)=rowL names x:=by
 unfold rowM rowL;have:∀ i∈List.range names.length,(if (rv names.length x).testBit (names.length - 1 - i)=true then names[i]? else none)=(if x.testBit i=true then names[i]? else none):=fun i hi=>by
  have hi':=hBb.mp hi;rw[rv_bit,decide_eq_true (by omega),hCl,show names.length - 1 - (names.length - 1 - i)=i by omega]
 exact fm_congr this
structure Made (net:List Tr) (ps ps':List Str) (S M:List Nat) (K:List (Nat×Nat)) (F:List Nat):Prop where
 rs:qDo (nmS net)
 pk:qGk net ps
 pk':qGk net ps'
 pS:S.Perm (red (ps.map fun x=>qA3 (nmS net) (qE7 net x)))
 pM:M.Perm (red (qD4 S net.length))
 dM:M.Pairwise fun a b=>b<=a
 ei:EIv (vF net ps') net.length net.length K F
 kw:K.length=(woodF net).length
theorem qDc {l:List Str} (h:qDo l):l.Nodup:=List.Pairwise.imp (fun {a b} z e=>by rw[e,qDu]at z;cases z) h
end My
namespace My
open PySem L2
theorem filt_t {α:Type} {p:α->Bool} {l:List α} {i:Nat} {t:α} (h:l[i]?=some t) (c:p t=true):(l.take (i+1)).filter p=(l.take i).filter p++[t]:=by rw[qAl h,hBz];simp[c]
theorem filt_f {α:Type} {p:α->Bool} {l:List α} {i:Nat} {t:α} (h:l[i]?=some t) (c:p t=false):(l.take (i+1)).filter p=(l.take i).filter p:=by rw[qAl h,hBz];simp[c]
theorem eqv_rows':∀ a b:List (List Str),PyData.eqvAll (a.map qFf) (b.map qFf)=decide (a=b)
 | [],[]=>rfl
 | [],_ :: _=>rfl
 | _ :: _,[]=>rfl
 | x :: a,y :: b=>by
  show(PyData.eqv (qFf x) (qFf y) && PyData.eqvAll (a.map qFf) (b.map qFf))=_;rw[eqv_rows' a b,qDn];by_cases e:x=y
  ·subst e;simp
  ·simp[e]
theorem eqv_rows (a b:List (List Str)):PyData.eqv (rowsD a) (rowsD b)=decide (a=b):=eqv_rows' a b
theorem lay_rows:∀ {F:List (List Str)},(∀ r∈F,SOk r)->PyData.canLayAll0 (F.map qFf)=true/\PyData.depthAll (F.map qFf)<=1
 | [],_=>⟨rfl,by decide⟩
 | x :: r,h=>by
  obtain⟨h1,h2⟩:=lay_rows (F:=r) fun y hy=>h y (hA4 _ hy)
  obtain⟨h3,h4⟩:=lay_strs (h x hA3);refine⟨?_,?_⟩
  ·show(PyData.canLayAll0 (x.map .str) && PyData.canLayAll0 (r.map qFf))=true;rw[h1,h3];rfl
  ·show max (PyData.depthAll (x.map .str)+1) (PyData.depthAll (r.map qFf))<=1;rw[h4];omega
theorem qDi {F:List (List Str)} (h:∀ r∈F,SOk r):SeqAt.shaped (rowsD F)=true:=by
 obtain⟨h3,h4⟩:=lay_rows h;show(PyData.canLayAll0 (F.map qFf) && decide (PyData.depthAll (F.map qFf)+1<=64))=true;rw[h3,decide_eq_true (by omega)];rfl
theorem dr_rows' {K:PySem.W.Frag} {H:Hp}:∀ {as:List Addr} {F:List (List Str)},Paired (LsS H) as F->DRs K H (as.map V.ref) (F.map qFf)
 | _,_,.nil=>.nil
 | _,_,.cons h t=>.cons (qDf h) (dr_rows' t)
theorem dr_rows {K:PySem.W.Frag} {H:Hp} {p:Addr} {F:List (List Str)} (h:qCx H p F):DR K H (.ref p) (rowsD F):=by
 obtain⟨as,h1,h2⟩:=h;exact .lst (SqL.of h1) (dr_rows' h2)
end My
namespace My
open PySem L2
theorem qFk {names:List Str} {z:Nat} {n:Str}:n∈rowM names z↔∃ i,i<names.length/\names[i]?=some n/\z.testBit (names.length - 1 - i)=true:=by
 unfold rowM;rw[List.mem_filterMap];constructor
 ·rintro⟨i,hi,e⟩;split at e
  ·rename_i b;exact⟨i,hBb.mp hi,e,b⟩
  ·cases e
 ·rintro⟨i,hi,e,b⟩;exact⟨i,hBb.mpr hi,by rw[if_pos b];exact e⟩
theorem qFe {names:List Str} {z:Nat} {n:Str} (h:n∈rowM names z):n∈names:=by
 obtain⟨i,_,e,_⟩:=qFk.mp h;exact hAu e
theorem idx_one {names:List Str} (nd:names.Nodup) {i j:Nat} {n:Str} (hi:names[i]?=some n) (hj:names[j]?=some n):i=j :=
 (List.getElem?_inj (hAr.mp hi).1 nd).mp (hi.trans hj.symm)
abbrev chi (names:List Str) (z:Nat):Str->Bool:=fun n=>decide (n∈rowM names z)
theorem qGd {names:List Str} (nd:names.Nodup) {z i:Nat} {n:Str} (hi:names[i]?=some n):chi names z n=z.testBit (names.length - 1 - i):=by
 have il:=(hAr.mp hi).1;cases q:z.testBit (names.length - 1 - i) with
 | true=>exact decide_eq_true (qFk.mpr ⟨i,il,hi,q⟩)
 | false =>
  refine decide_eq_false fun m=>?_
  obtain⟨j,_,ej,bj⟩:=qFk.mp m;rw[idx_one nd ej hi,q]at bj;cases bj
theorem qCu {names:List Str} (nd:names.Nodup) {z:Nat} (hz:z<2^names.length):qA3 names (rowM names z)=z:=by
 refine hCk fun j=>?_
 rw[qB4];by_cases hj:j<names.length
 ·rw[decide_eq_true hj,hCl];have hi:names.length - 1 - j<names.length:=by omega
  have e:=hA2 hi;have c:=qGd nd (z:=z) e;rw[show names.length - 1 - (names.length - 1 - j)=j by omega]at c;rw[<-c];refine decide_eq_decide.mpr ⟨fun ⟨n,h1,h2⟩=>?_,fun h=>⟨_,e,h⟩⟩;rw[e]at h1;cases h1;exact h2
 ·rw[decide_eq_false hj,tb_hi hz (by omega)];rfl
theorem qC9 {names:List Str} (nd:names.Nodup) (r:List Str) {n:Str} (hn:n∈names):chi names (qA3 names r) n=decide (n∈r):=by
 obtain⟨i,hi,e⟩:=List.getElem_of_mem hn;have e':names[i]?=some n:=by rw[hA2 hi,e]
 rw[qGd nd e',qB4,decide_eq_true (by omega:names.length - 1 - i<names.length),hCl,show names.length - 1 - (names.length - 1 - i)=i by omega];refine decide_eq_decide.mpr ⟨fun ⟨m,h1,h2⟩=>?_,fun h=>⟨n,e',h⟩⟩;rw[e']at h1;cases h1;exact h2
theorem mask_ext {names:List Str} {r r':List Str} (h:∀ n∈names,(n∈r↔n∈r')):qA3 names r=qA3 names r':=by
 refine hCk fun j=>?_
 rw[qB4,qB4];congr 1;refine decide_eq_decide.mpr ⟨fun ⟨n,h1,h2⟩=>⟨n,h1,(h n (hAu h1)).mp h2⟩,fun ⟨n,h1,h2⟩=>⟨n,h1,(h n (hAu h1)).mpr h2⟩⟩
theorem row_zero (names:List Str):rowM names 0=[]:=by
 cases q:rowM names 0 with
 | nil=>rfl
 | cons n r =>
  have:n∈rowM names 0:=by rw[q];exact hA3
  obtain⟨i,_,_,b⟩:=qFk.mp this;simp at b
theorem mask_nil (names:List Str):qA3 names []=0:=by
 refine hCk fun j=>?_
 rw[qB4];simp
def evP (net:List Tr) (r:Str->Bool) (x:Str):Bool:=net.foldr (fun t b=>(r t.1 && atX x t) ^^ b) false
theorem evP_snoc (t:Tr) (r:Str->Bool) (x:Str):∀ l:List Tr,evP (l++[t]) r x=(evP l r x ^^ (r t.1 && atX x t))
 | []=>by simp[evP]
 | u :: l=>by
  show((r u.1 && atX x u) ^^ evP (l++[t]) r x)=(((r u.1 && atX x u) ^^ evP l r x) ^^ _);rw[evP_snoc t r x l,Bool.xor_assoc]
theorem qBu {r r':Str->Bool} (x:Str):∀ {l:List Tr},(∀ t∈l,r t.1=r' t.1)->evP l r x=evP l r' x
 | [],_=>rfl
 | u :: l,h=>by
  show((r u.1 && atX x u) ^^ evP l r x)=((r' u.1 && atX x u) ^^ evP l r' x);rw[h u hA3,qBu x fun t ht=>h t (hA4 _ ht)]
theorem qG6 {r:Str->Bool} (p:Tr->Bool) (x:Str):∀ {l:List Tr},(∀ t∈l,p t=false->r t.1=false)->evP (l.filter p) r x=evP l r x
 | [],_=>rfl
 | u :: l,h=>by
  have ih:=qG6 (r:=r) p x (l:=l) fun t ht=>h t (hA4 _ ht)
  rw[List.filter_cons];show _=((r u.1 && atX x u) ^^ evP l r x);split
  ·show((r u.1 && atX x u) ^^ evP (l.filter p) r x)=_;rw[ih]
  ·rename_i q;rw[h u hA3 (by simpa using q),ih];simp
theorem xsum_ev {net:List Tr} {g:Nat->Bool} {r:Str->Bool} (x:Str):(∀ i t,net[i]?=some t->g i=r t.1)->(xsum net.length fun i=>g i && gT net (atX x) i)=evP net r x:=by
 refine qBy (P:=fun net=>(∀ i t,net[i]?=some t->g i=r t.1)->(xsum net.length fun i=>g i && gT net (atX x) i)=evP net r x) (fun _=>rfl) (fun l t ih h=>?_) net;have ih':=ih fun i u hu=>h i u (by rw[hCd (hAr.mp hu).1];exact hu)
 rw[evP_snoc,<-ih',hAd];show(xsum l.length _ ^^ (g l.length && gT (l++[t]) (atX x) l.length))=_;rw[h l.length t (by simp)];have c1:xsum l.length (fun i=>g i && gT (l++[t]) (atX x) i)=xsum l.length (fun i=>g i && gT l (atX x) i):=qBq fun i hi=>by
  unfold gT;rw[hCd hi]
 have c2:gT (l++[t]) (atX x) l.length=atX x t:=by unfold gT;simp
 rw[c1,c2]
def Cyc (net:List Tr) (z:Nat):Prop:=z<2^net.length/\∀ x,evP net (chi (nmS net) z) x=false
structure Tb (net:List Tr) (ps:List Str) (S M:List Nat):Prop where
 rs:qDo (nmS net)
 pk:qGk net ps
 pS:S.Perm (red (ps.map fun x=>qA3 (nmS net) (qE7 net x)))
 pM:M.Perm (red (qD4 S net.length))
 dM:M.Pairwise fun a b=>b<=a
theorem Tb.spn {net:List Tr} {ps:List Str} {S M:List Nat} (h:Tb net ps S M) (z:Nat):Spn M z↔Cyc net z:=by
 have nd:=qDc h.rs;have rS:RR S:=(qGw _).perm h.pS;have lmS:∀ s∈ps.map (fun x=>qA3 (nmS net) (qE7 net x)),s<2^net.length:=fun s hs=>by
  obtain⟨x,_,rfl⟩:=hAb.mp hs;have:=qC5 (nmS net) (qE7 net x);rw[hA1]at this;exact this
 have lS:∀ s∈S,s<2^net.length:=fun s hs=>red_lt lmS s (h.pS.mem_iff.mp hs)
 have spM:Spn (red (qD4 S net.length)) z↔z<2^net.length/\∀ x∈ps,dot net.length z (qA3 (nmS net) (qE7 net x))=false:=by
  rw[qFy,cr_spn rS lS];refine and_congr_right fun _=>⟨fun a x hx=>?_,fun a s hs=>?_⟩
  ·have m:Spn (red (ps.map fun x=>qA3 (nmS net) (qE7 net x))) (qA3 (nmS net) (qE7 net x)):=(qFy _ _).mpr (.mem (hAb.mpr ⟨x,hx,rfl⟩));exact spn_dot a (m.mono fun u hu=>.mem (h.pS.mem_iff.mpr hu))
  ·have m:Spn (ps.map fun x=>qA3 (nmS net) (qE7 net x)) s:=(qFy _ s).mp (.mem (h.pS.mem_iff.mp hs));refine spn_dot (fun u hu=>?_) m;obtain⟨x,hx,rfl⟩:=hAb.mp hu;exact a x hx
 have e0:Spn M z↔Spn (red (qD4 S net.length)) z:=⟨fun a=>a.mono fun u hu=>.mem (h.pM.mem_iff.mp hu),fun a=>a.mono fun u hu=>.mem (h.pM.mem_iff.mpr hu)⟩;rw[e0,spM];have ev:∀ x,dot net.length z (qA3 (nmS net) (qE7 net x))=evP net (chi (nmS net) z) x:=fun x=>by
  rw[dot_sm nd];refine xsum_ev x fun i t ht=>?_
  have:=qGd nd (z:=z) (nm_at ht);rw[hA1]at this;exact this.symm
 unfold Cyc;refine and_congr_right fun _=>⟨fun a x=>?_,fun a x _=>(ev x).trans (a x)⟩
 by_cases hx:isPt net x
 ·rw[<-ev x];exact a x ((h.pk.2 x).mpr hx)
 ·have:∀ l:List Tr,(∀ t∈l,t∈net)->evP l (chi (nmS net) z) x=false:=fun l=>by
   induction l with
   | nil=>intro _;rfl
   | cons u l ih =>
    intro hl;show((chi (nmS net) z u.1 && atX x u) ^^ evP l (chi (nmS net) z) x)=false;rw[ih fun t ht=>hl t (hA4 _ ht)];have um:=hl u hA3;have a1:¬u.2.1=x:=fun e=>hx ⟨u,um,.inl e.symm⟩
    have a2:¬u.2.2=x:=fun e=>hx ⟨u,um,.inr e.symm⟩
    unfold atX;rw[decide_eq_false a1,decide_eq_false a2];simp
  exact this net fun t ht=>ht
theorem Tb.len {net:List Tr} {ps:List Str} {S M:List Nat} (h:Tb net ps S M):M.length<=net.length:=by
 rw[h.pM.length_eq];refine hAs (red_le _) ?_;unfold qD4;rw[hA1];exact hAs (hAt _ _) (by rw[hC3];exact hA5 _)
end My
namespace L2
open PySem PySem.Spec PyProof.Rows
end L2
namespace L2
open PySem PySem.Spec PyProof.Rows PySem.SeqAt PySem.MeetsSeq
end L2
namespace L2
open PySem PySem.Spec PyProof.Rows
section
variable {X:Cx} {k:Nat} {f:Addr} {fd:FuncData} {ps:List Str} {sp:Sp} {E:XK}
structure Aw (X:Cx) (pins:List (Addr×Obj)) (a:Addr):Prop where
 loc:a≠X.env.locals
 ab:X.s₀.heap.objs.size<=a
 cel:∀ x c,X.env.cells.lookup x=some c->c≠a
 pin:∀ p∈X.pn++pins,p.1≠a
 fs:a∉X.fs
theorem Inv.aw (I:Inv X pins σ H s) (h:s.heap.objs.size<=a):Aw X pins a:=by
 refine⟨hC9 (hAi I.lt h),hAs I.sz h,fun x c e=>?_,fun p hp=>?_,I.nofs h⟩
 ·obtain⟨v,o,ho,_⟩:=I.cell x c e;exact hAk (hAi (Heap.lt_size ho) h)
 ·exact hAk (hAi (Heap.lt_size (I.pin p hp).1) h)
theorem Inv.adoptL (I:Inv X pins σ H s) (w:Aw X pins a) (hn:H a=none) (hv:qBa ys its) (hz:ys.length<=sizeLine)
  (e:s.heap.get? a=some { cls:=.type "list",data:=.seq its.toArray n }):Inv X pins σ (upd H a (.lst ys)) s:=by
 refine⟨I.ok,I.os,I.bare,⟨I.base.keep,I.base.slot,fun b o q n' hx=>?_,I.base.there,fun b xs q=>?_,fun b o u q=>?_,fun b ps q=>?_⟩,I.loc,I.cell,?_,fun x c q=>?_,fun p hp=>?_,fun b u q=>?_,I.len⟩
 ·rw[qAe (hAk (hAi (Heap.lt_size q) w.ab))];exact I.base.free b o q n' hx
 ·have:=I.base.tups b xs q;rw[qAe (qAf this hn)];exact this
 ·have:=I.base.frzs b o u q;rw[qAe (qAf this hn)];exact this
 ·obtain⟨m,this⟩:=I.base.tbls b ps q;exact⟨m,by rw[qAe (qAf this hn)];exact this⟩
 ·rw[qAe (Ne.symm w.loc)];exact I.free
 ·rw[qAe (w.cel x c q)];exact I.freeC x c q
 ·obtain⟨h1,h2,h3⟩:=I.pin p hp;exact⟨h1,by rw[qAe (w.pin p hp)];exact h2,h3⟩
 ·by_cases hb:b=a
  ·subst hb;rw[upd_same]at q;cases q;exact⟨hz,its,n,hv,e⟩
  ·rw[qAe hb]at q;exact(I.hok b u q).stay (fun c v _ r=>r) (fun c r=>by rw[qAe (qAf r hn)];exact r) fun c xs r=>by rw[qAe (qAf r hn)];exact r
theorem Inv.repinL (f:Array Value->Array Value) (I:Inv X pins σ H s) (w:Aw X pins a) (hn:H a=none) (e:s.heap.get? a=some (seqObj "list" its n)) :
  ∃ n',Inv X pins σ H { s with heap:=s.heap.update a (Obj.mapSeq f) }/\(s.heap.update a (Obj.mapSeq f)).get? a=some (seqObj "list" (f its) n'):=by
 obtain⟨c,hc⟩:∃ c,(s.heap.update a (Obj.mapSeq f)).get? a=some (seqObj "list" (f its) c):=⟨_,get?_update_seq e f⟩;refine⟨c,?_,hc⟩;exact I.turned (t':=s.toks) (it:=a) (fun b o hb q=>(Heap.get?_update_other s.heap _ (Ne.symm hb)).trans q) hn w.loc (.inr w.ab) w.cel w.pin
theorem Inv.pinL (I:Inv X pins σ H s) (w:Aw X pins a) (hn:H a=none) (e:s.heap.get? a=some (seqObj "list" its n)) :
  Inv X ((a,seqObj "list" its n) :: pins) σ H s:=I.pins_of fun p hp=>by
 rcases hAa.mp hp with rfl | hp
 ·exact⟨e,hn,w.loc,w.fs,fun v q=>by cases q⟩
 ·exact I.pin p (hA6 _ hp)
theorem Inv.unpin (I:Inv X (q :: pins) σ H s):Inv X pins σ H s:=I.pins_of fun p hp=>I.pin p (hA6 _ (hA4 _ hp))
theorem Aw.cons {pins:List (Addr×Obj)} {a b:Addr} {o:Obj} (w:Aw X pins a) (h:b≠a):Aw X ((b,o) :: pins) a:=⟨w.loc,w.ab,w.cel,fun p hp=>by
 rcases hAe.mp hp with q | q
 ·exact w.pin p (hAn _ q)
 ·rcases hAa.mp q with rfl | q
  ·exact h
  ·exact w.pin p (hA6 _ q),w.fs⟩
end
end L2
namespace L2
open PySem PySem.Spec PyProof.Rows
end L2
namespace L2
open PySem PySem.Spec PyProof.Rows
theorem run_lam {P:Program} {w:World} {K:PySem.W.Frag} {mg:Str->Option Value} {base:Heap} {A:Around} {outer:List Env} {s:Shared} {H:Hp} {Q:VK} {f c':Addr} {scope:Scope} {name qual:Str} {params:Arguments} {body:Expr} {x:Str} {pm ctv:Value} {v:V} {u:Value} {t:TE} {k:Nat}
  (hr:Room k A) (e0:Env0 P w K mg base A outer s H) (ho:s.heap.get? f=some (PySem.W.kla_obj name qual params body scope [] pm c' ctv)) (hcd:s.heap.CodeRec (.ref c') qual) (S:FnScope [x] [x] scope)
  (hb:bindArgs (PySem.W.kla_fn name qual params body scope [] pm (.ref c') ctv) ⟨[u],[]⟩=pure [(x,u)]) (r:qBn v u)
  (ht:PE (qB5 CX0 P w K mg base [x] qual scope f (.ref c') A outer s H E0) body t) (hq:t (start [x] [v]) H Q) :
  codeAny (model P w) A (.call (.ref f) ⟨[u],[]⟩) (CR CX0 outer P w H s Q E0) s:=by
 have lim:s.heap.NoLimit:=e0.mod.nolimit.keeps fun b o e=>(e0.bs b o e).1
 refine PySem.W.kla_callFunE hr.depth ho rfl S.co S.gen rfl hcd ?_;rw[hb];have hkind:∀ y∈[(x,u)],scope.names.lookup y.1=some .local\/(scope.names.lookup y.1=some .cell/\((cellsFrom (s.heap.objs.size+1) scope.names []).lookup y.1).isSome=true):=fun y hy=>by
  rw[hA7]at hy;subst hy;rcases S.par x hA3 with q | q
  ·exact .inl q
  ·exact .inr ⟨q,hCs _ _ _ (.inl q)⟩
 refine wpAny_pure (wpAny_newFunctionEnv_cells S.kind hkind fun env he s1 y=>?_);subst he;refine⟨lim.keeps y.toInCall.keep,PySem.W.kla_codeExpr ?_⟩;have I:Inv (qB5 CX0 P w K mg base [x] qual scope f (.ref c') A outer s H E0) [] (start [x] [v]) H s1:=inv_start S hr.hd e0 rfl (.cons r .nil) y;refine wpAny_mono (ht [] s1 (start [x] [v]) H Q I hq) (fun u' s' ⟨v',H',J,rv,q⟩=>⟨v',H',J.os,J.bare,J.base,J.hok,rv,q⟩) fun e s' hs=>hs
end L2
namespace L2
open PySem PySem.Spec PyProof.Rows
def ExtB (P:Addr) (H H':Hp):Prop:=∀ b o,b≠P->H b=some o->H' b=some o
section
variable {X:Cx} {pins:List (Addr×Obj)} {σ:St} {H:Hp} {s:Shared}
theorem Inv.grown (I:Inv X pins σ H s) (hP:H P=some (.tbl ps)) (hx:Heap.ExtBut P s.heap h') (hg:h'.get? P=some { cls:=.none,data:=.fields (ps++more) }) :
  Inv X pins σ (upd H P (.tbl (ps++more))) { s with heap:=h',toks:=tk }:=by
 have ne:∀ b,H b=none->b≠P:=fun b n z=>by rw[z,hP]at n;cases n
 refine I.step (g':=s.gens) (d':=s.drawn) (ch:=[]) (fun _ z=>nomatch z) (fun b o _ _ _ e n=>hx b o (ne b n) e) (fun b o _ _ _ e n=>⟨o.slots,hx b o (ne b n) e⟩) (fun b o _ e n=>by rw[qAe (ne b n)];exact n) (fun b o _ e=>?_)
  (fun b xs q=>?_) (fun b o u q=>?_) (fun b qs q=>?_) (fun m hm=>hm.extBut hx (ne _ I.free)) (fun b u q=>?_) I.bare
 ·by_cases hb:b=P
  ·rw[hb];exact⟨_,hg⟩
  ·exact⟨o,hx b o hb e⟩
 ·have:b≠P:=fun z=>by rw[z,hP]at q;cases q
  rw[qAe this];exact q
 ·have:b≠P:=fun z=>by rw[z,hP]at q;cases q
  rw[qAe this];exact q
 ·by_cases hb:b=P
  ·subst hb;rw[hP]at q;cases q;exact⟨more,upd_same⟩
  ·exact⟨#[],by rw[qAe hb,q];simp⟩
 ·by_cases hb:b=P
  ·subst hb;rw[upd_same]at q;cases q;exact hg
  ·rw[qAe hb]at q;refine(I.hok b u q).stay (fun c v hc r=>hx c v ?_ r) (fun c r=>?_) fun c xs r=>?_
   ·rcases hc with rfl | hc
    ·exact hb
    ·intro z;rw[z,hP]at hc;cases hc
   ·have:c≠P:=fun z=>by rw[z,hP]at r;cases r
    rw[qAe this];exact r
   ·have:c≠P:=fun z=>by rw[z,hP]at r;cases r
    rw[qAe this];exact r
end
structure LamAt (X:Cx) (c P:Addr):Prop where
 code:X.env.code = .ref c
 hd:PySem.W.CodeHd X.base c P
 bl:X.base.BuiltinsAt X.mg P
end L2
namespace L2
open PySem PySem.Spec PyProof.Rows
def OnlyT (T:Addr) (H:Hp):Prop:=∀ b,b≠T->H b=none\/∃ o xs,H b=some (.frz o (.lst xs))
theorem mem_lk:∀ {l:List (Addr×β)} {a:Addr} {b:β},l.lookup a=some b->(a,b)∈l
 | [],_,_,h=>by cases h
 | (k,v) :: l,a,b,h=>by
  rw[hCi]at h;by_cases e:(a == k)=true
  ·rw[e]at h;cases h;rw[beq_iff_eq.mp e];exact hA3
  ·rw[Bool.not_eq_true]at e;rw[e]at h;exact hA4 _ (mem_lk h)
theorem noTab {K:PySem.W.Frag} {h:Heap} {T:Addr} {ps:Array Value} (X:K.In h) (n:PySem.W.noTabs K=true) (e:h.get? T=some (PySem.W.tabObj ps)):K.lookup T=none:=by
 cases q:K.lookup T with
 | none=>rfl
 | some o =>
  have e2:=X T o q;rw[e]at e2;cases e2;have m:=mem_lk q;have:=hCu.mp n _ m;cases this
theorem law_callT {P:Program} {w:World} {K:PySem.W.Frag} {mg mb:Str->Option Value} {CX:CXT} {k:Nat} {fa a c T:Addr} {fd:FuncData} {x:Str} {sp:Sp} {s₁:Shared} {vs:List Value} {ns:List Int}
  (KX:K.In s₁.heap) (hns:s₁.heap.Ns mainGlobals mg) (hb:s₁.heap.Ns builtinsNs mb) (hbb:∀ x:Str,x≠"__name__"->mb x=bootBuiltins x) (hlim:s₁.heap.NoLimit) (hg:s₁.gens=#[])
  (ha:s₁.heap.get? a=some { cls:=.type "list",data:=.seq vs.toArray }) (hi:IntsAre vs ns) (hl:ns.length<=sizeLine) (hr:Room k callerA)
  (hC:PySem.W.CodeHd s₁.heap c T) (hT:s₁.heap.get? T=some (PySem.W.tabObj #[])) (hnt:PySem.W.noTabs K=true) (hB:s₁.heap.BuiltinsAt mg T)
  (F:∀ base:Heap,K.In base->base.Ns mainGlobals mg->PySem.W.CodeHd base c T->base.BuiltinsAt mg T->FnOk P w K mg base CX k fa fd [x] sp) (hbind:∀ (s:Shared) (u:Value),BindsTo s fd ⟨[u],[]⟩ [(x,u)])
  (hsp:∀ H:Hp,H T=some (.tbl #[])->SqL K H a (ns.map V.int)->sp [.ref a] H (fun v _=>v = .bl true) fun _ _ _=>False)
  (hCX:∀ H e s',CX [] H s₁ (fun _ _ _=>False) e s'->False) :
  codeAny (model P w) callerA (.call (.ref fa) ⟨[.ref a],[]⟩) (fun r s'=>r = .ok (.ret (.bool true))/\OldK s₁.heap s'.heap/\s'.os=s₁.os/\AllBare s'.gens) s₁:=by
 have rv:=qFn hi;have lenV:=hi.length;have hKT:=noTab KX hnt hT;have aT:a≠T:=fun z=>by rw[z,hT]at ha;cases ha
 have core:∀ H:Hp,OnlyT T H->H T=some (.tbl #[])->SqL K H a (ns.map V.int)->HOk P w H s₁.heap->(∀ b,H b≠none->b=a\/b=T)->(H a≠none->K.lookup a=none) ->
   codeAny (model P w) callerA (.call (.ref fa) ⟨[.ref a],[]⟩) (fun r s'=>r = .ok (.ret (.bool true))/\OldK s₁.heap s'.heap/\s'.os=s₁.os/\AllBare s'.gens) s₁:=by
  intro H hO hHT hS hok hA hK;have base_of:∀ {b:Addr} {o:Obj},s₁.heap.get? b=some o->H b=none->(hidT s₁.heap H).get? b=some o:=fun e n=>hidT_get e n
  have noA:∀ {b:Addr} {o:Obj},s₁.heap.get? b=some o->(∀ vs n,o.data≠.seq vs n)->o≠PySem.W.tabObj #[]->H b=none:=fun {b o} e d1 d2=>by
   cases q:H b with
   | none=>rfl
   | some u =>
    rcases hA b (by rw[q];simp) with e' | e'
    ·subst e';rw[ha]at e;cases e;exact absurd rfl (d1 _ _)
    ·subst e';rw[hT]at e;exact absurd (hAv e).symm d2
  have nsK:∀ {b:Addr} {m:Str->Option Value},s₁.heap.Ns b m->(hidT s₁.heap H).Ns b m:=fun {b m} ⟨o,es,ep,e,d,r⟩=>⟨o,es,ep,base_of e (noA e (fun _ _ z=>by rw[d]at z;cases z) (fun z=>by rw[z]at d;cases d)),d,r⟩
  have hKb:K.In (hidT s₁.heap H):=fun b o e=>base_of (KX b o e) (by
   cases q:H b with
   | none=>rfl
   | some u =>
    rcases hA b (by rw[q];simp) with e' | e'
    ·subst e';rw[hK (by rw[q];simp)]at e;cases e
    ·subst e';rw[hKT]at e;cases e)
  have hM:Mod K mg (hidT s₁.heap H):=⟨hKb,nsK hns,⟨mb,nsK hb,hbb⟩,let ⟨mc,h1,h2⟩:=hlim;⟨mc,nsK h1,h2⟩⟩;have hC':PySem.W.CodeHd (hidT s₁.heap H) c T:=by
   obtain⟨o,vs',file,tf,flags,tg,inF,text,tt,e1,e2,e3,r⟩:=hC;refine⟨o,vs',file,tf,flags,tg,inF,text,tt,base_of e1 (noA e1 (fun _ _ z=>by rw[e3]at z;cases z) (fun z=>by rw[z]at e2;cases e2)),e2,e3,r⟩
  have hB':(hidT s₁.heap H).BuiltinsAt mg T:=by
   obtain⟨bm,ob,b1,b2,b3,b4,b5,b6,b7,b8⟩:=hB;exact⟨bm,ob,b1,b2,b3,b4,base_of b5 (noA b5 (fun _ _ z=>by rw[b8]at z;cases z) (fun z=>by rw[z]at b8;cases b8)),b6,b7,b8⟩
  have e0:Env0 P w K mg (hidT s₁.heap H) callerA [] s₁ H:=⟨rfl,hM,fun b o e=>of_hidT e,Nat.le_of_eq (hidT_size _ _),trivial,fun b hb=>absurd (show b∈([]:List Addr) from hb) (by simp),hok,.of_eq hg⟩;refine codeAny_mono ((F _ hKb (nsK hns) hC' hB').run callerA [] s₁ H ⟨[.ref a],[]⟩ [.ref a] [.ref a] _ _ hr e0 (hbind s₁ (.ref a)) (.cons rfl .nil) (hsp H hHT hS)) fun r s' h=>?_
  cases r with
  | error e=>exact(hCX H e s' h).elim
  | ok fl =>
   cases fl with
   | next=>exact False.elim h
   | brk=>exact False.elim h
   | cont=>exact False.elim h
   | ret u =>
    obtain⟨v,H',os,bare,un,hok',r',q⟩:=h;have q':v = .bl true:=q;subst q';obtain rfl:u=Value.bool true:=r';obtain⟨more,hmT⟩:=un.tbls T _ hHT;have hTs:s'.heap.get? T=some { cls:=.none,data:=.fields (#[]++more) }:=hok' T _ hmT;refine⟨rfl,⟨fun b o e=>?_,fun b o e=>?_⟩,os,bare⟩
    ·by_cases hbT:b=T
     ·subst hbT;rw[hT]at e;cases e;exact .inr (.inl ⟨(hC.tab hT).isCodeTable,rfl,#[],more,rfl,hTs⟩)
     ·refine .inl ?_;cases q:H b with
      | none=>exact un.keep b o e q (by intro z;exact absurd (show b∈([]:List Addr) from z) (by simp)) (by simp)
      | some u =>
       rcases hO b hbT with z | ⟨ob,xs,z⟩
       ·rw[q]at z;cases z
       ·have z2:=un.frzs b ob _ z;obtain⟨e1,_⟩:=hok b _ z;obtain⟨e2,_⟩:=hok' b _ z2;rw[e]at e1;cases e1;exact e2
    ·by_cases hbT:b=T
     ·rw[hbT];exact⟨_,hTs⟩
     ·cases q:H b with
      | none=>exact⟨o,un.keep b o e q (by intro z;exact absurd (show b∈([]:List Addr) from z) (by simp)) (by simp)⟩
      | some u =>
       rcases hO b hbT with z | ⟨ob,xs,z⟩
       ·rw[q]at z;cases z
       ·obtain⟨e2,_⟩:=hok' b _ (un.frzs b ob _ z);exact⟨_,e2⟩
 have tOk:∀ H:Hp,qBg P w H s₁.heap T (.tbl #[]):=fun _=>hT
 cases hk:K.lookup a with
 | some o =>
  have e:=KX a o hk;rw[ha]at e;cases e;refine core (fun b=>if b=T then some (.tbl #[]) else none) (fun b hb=>.inl (if_neg hb)) (if_pos rfl) (.inr ⟨_,vs.toArray,_,hk,rfl,rfl,rfl,by rw[hAc,lenV];exact hl,by simpa using rv⟩) (fun b u z=>?_) (fun b z=>?_) (fun z=>absurd (if_neg aT) z)
  ·by_cases hb:b=T
   ·have z':=(if_pos hb).symm.trans z;cases z';subst hb;exact tOk _
   ·have z':=(if_neg hb).symm.trans z;cases z'
  ·by_cases hb:b=T
   ·exact .inr hb
   ·exact absurd (if_neg hb) z
 | none =>
  refine core (fun b=>if b=T then some (.tbl #[]) else if b=a then some (.frz { cls:=.type "list",data:=.seq vs.toArray } (.lst (ns.map V.int))) else none) (fun b hbT=>?_) (if_pos rfl) (.inl (.inr ⟨{ cls:=.type "list",data:=.seq vs.toArray },(if_neg aT).trans (if_pos rfl)⟩)) (fun b u z=>?_) (fun b z=>?_) fun _=>hk
  ·by_cases hb:b=a
   ·exact .inr ⟨_,_,(if_neg hbT).trans (if_pos hb)⟩
   ·exact .inl ((if_neg hbT).trans (if_neg hb))
  ·by_cases hbT:b=T
   ·have z':=(if_pos hbT).symm.trans z;cases z';subst hbT;exact tOk _
   ·have z:=(if_neg hbT).symm.trans z;by_cases hb:b=a
    ·have z':=(if_pos hb).symm.trans z;cases z';subst hb;exact⟨ha,by rw[hA1];exact hl,vs,_,rv,ha⟩
    ·have z':=(if_neg hb).symm.trans z;cases z'
  ·by_cases hbT:b=T
   ·exact .inr hbT
   ·by_cases hb:b=a
    ·exact .inl hb
    ·exact absurd ((if_neg hbT).trans (if_neg hb)) z
theorem walk_ofT {l:PySem.W.OpenLaw} {n k:Nat} {q:Program} {loose:List Str} {XP:(Str->Option Value)->Heap->Prop} {YP:World->Heap->Prop} {d dr:DefRec} {K:Params->PySem.W.Frag} {CX:World->CXT} {sp:World->Addr->Sp} {x tx:Str}
  (hn:l.most=some n) (hn2:n<=sizeLine) (hdf:d.params.defaults=[]) (hr:Room k callerA)
  (hY:∀ (w:World) (h:Heap),YP w h->(K w.params).In h) (hrec:(recsOf q).find? (fun e=>e.name == tx)=some dr)
  (hK:∀ w:World,∃ c T,PySem.W.tabIn (K w.params) tx=some (c,T)/\PySem.W.noTabs (K w.params)=true)
  (F:∀ (w:World) (mg:Str->Option Value) (fa:Addr) (h:Heap) (c T:Addr),(K w.params).In h->h.Ns mainGlobals mg->mg d.name=some (.ref fa)->PySem.W.tabIn (K w.params) tx=some (c,T) ->
   ∃ fd:FuncData,(∀ (s:Shared) (u:Value),BindsTo s fd ⟨[u],[]⟩ [(x,u)]) /\
    ∀ base:Heap,(K w.params).In base->base.Ns mainGlobals mg->PySem.W.CodeHd base c T->base.BuiltinsAt mg T->FnOk l.prog w (K w.params) mg base (CX w) k fa fd [x] (sp w T))
  (hsp:∀ (w:World) (T:Addr) (H:Hp) (a:Addr) (ns:List Int),ns.length<=n->H T=some (.tbl #[])->SqL (K w.params) H a (ns.map V.int)->sp w T [.ref a] H (fun v _=>v = .bl true) fun _ _ _=>False)
  (hCX:∀ (w:World) (H:Hp) (s:Shared) (e:Value) (s':Shared),CX w [] H s (fun _ _ _=>False) e s'->False) :
  PySem.W.WalkO q loose XP YP l.row.toRowW d [] (fun f vs=>PySem.call f vs):=by
 refine Att.attach_call hn hdf fun w s₀ s₁ mg mb fa o pm cd doc a vs ns G Y ho hd hcd hmg hobj hints hlen hg=>?_
 have KX:=hY w _ Y;obtain⟨c,T,ht,hnt⟩:=hK w;obtain⟨hC,hT⟩:=PySem.W.tab_of G.T KX hrec ht;obtain⟨bm,ob,b1,b2,b3,b4,b5,b6⟩:=G.T.bmain;have hbT:bm≠T:=fun z=>by rw[z,hT]at b3;cases b3;cases b4
 have hbG:bm≠mainGlobals:=fun z=>by
  obtain⟨o',es,ep,e,hd',_⟩:=G.T.g;rw[z,e]at b3;cases b3;rw[hd']at b6;cases b6
 obtain⟨fd,hb,hF⟩:=F w mg fa _ c T KX G.T.g hmg ht;exact law_callT KX G.T.g G.T.b G.T.builtins G.T.nolimit hg hobj hints (hAs hlen hn2) hr hC hT hnt ⟨bm,ob,b1,b2,hbG,hbT,b3,b4,b5,b6⟩ hF hb (fun H hO hS=>hsp w T H a ns hlen hO hS) fun H e s'=>hCX w H s₁ e s'
section
variable {P:Program} {w:World} {K:PySem.W.Frag} {mg:Str->Option Value} {base:Heap}
theorem Fun.okC {x qual:Str} {st:Stmt} {f:Addr} {fd:FuncData} {N ps:List Str} {k:Nat} {sp:Sp} (F:Fun K x qual st f fd) (S:FnScope N ps (qAb st)) (len:∀ vs H Q E,sp vs H Q E->vs.length=ps.length)
  (hbody:∀ (A:Around) (outer:List Env) (s:Shared) (H:Hp) (vs:List V) (Q:VK) (E:XK),Room k (A.deeper (envOfC qual (qAb st) s.heap.objs.size f fd.code))->sp vs H Q E ->
   ∃ t,PSs (qB5 CX0 P w K mg base N qual (qAb st) f fd.code A outer s H E).nox (qAo st) t/\t { nx:=fun _ H'=>Q .non H',rt:=Q } (start N vs) H):FnOk P w K mg base CX0 (k+1) f fd ps sp:=by
 obtain⟨oc,od,kV,doc,pm,an,cdv,ct,osl,rfl,lk,hcd⟩:=F.ex;refine fn_of lk hcd S len fun A outer s H vs Q E hr hsp=>?_
 obtain⟨t,h,q⟩:=hbody A outer s H vs Q E hr hsp;exact⟨t,h.nox,q⟩
theorem code_of {x qual:Str} {st:Stmt} {f c T:Addr} {fd:FuncData} (F:Fun K x qual st f fd) (a:PySem.W.nsIn K mainGlobals x=some (some (.ref f))) (h:PySem.W.tabIn K x=some (c,T)):fd.code = .ref c:=by
 obtain⟨oc,od,kV,doc,pm,an,cdv,ct,osl,rfl,lk,hcd⟩:=F.ex;unfold PySem.W.tabIn at h;rw[a]at h;dsimp only at h;rw[lk]at h;dsimp only at h;show cdv=_;cases cdv with
 | ref c2 =>
  dsimp only at h;split at h
  ·split at h
   ·cases h;rfl
   ·cases h
  ·cases h
 | _=>cases h
end
end L2
namespace L2
open PySem PySem.Spec PyProof.Rows
end L2
namespace L2
open PySem PySem.Spec PyProof.Rows
end L2
namespace L2
open PySem PySem.Spec PyProof.Rows
section
variable {X:Cx} {pins:List (Addr×Obj)} {σ:St} {H:Hp} {s:Shared}
theorem Inv.adoptX (I:Inv X pins σ H s) (w:Aw X pins a) (hn:H a=none) (hφ:qBg X.prog X.w (upd H a (.ext φ)) s.heap a (.ext φ)):Inv X pins σ (upd H a (.ext φ)) s:=by
 refine⟨I.ok,I.os,I.bare,⟨I.base.keep,I.base.slot,fun b o q n' hx=>?_,I.base.there,fun b xs q=>?_,fun b o u q=>?_,fun b ps q=>?_⟩,I.loc,I.cell,?_,fun x c q=>?_,fun p hp=>?_,fun b u q=>?_,I.len⟩
 ·rw[qAe (hAk (hAi (Heap.lt_size q) w.ab))];exact I.base.free b o q n' hx
 ·have:=I.base.tups b xs q;rw[qAe (qAf this hn)];exact this
 ·have:=I.base.frzs b o u q;rw[qAe (qAf this hn)];exact this
 ·obtain⟨m,this⟩:=I.base.tbls b ps q;exact⟨m,by rw[qAe (qAf this hn)];exact this⟩
 ·rw[qAe (Ne.symm w.loc)];exact I.free
 ·rw[qAe (w.cel x c q)];exact I.freeC x c q
 ·obtain⟨h1,h2,h3⟩:=I.pin p hp;exact⟨h1,by rw[qAe (w.pin p hp)];exact h2,h3⟩
 ·by_cases hb:b=a
  ·subst hb;rw[upd_same]at q;cases q;exact hφ
  ·rw[qAe hb]at q;exact(I.hok b u q).stay (fun c v _ r=>r) (fun c r=>by rw[qAe (qAf r hn)];exact r) fun c xs r=>by rw[qAe (qAf r hn)];exact r
end
def codeO (c:Addr) (q:Str):HO:=.ext fun h=>h.CodeRec (.ref c) q
theorem codeO_ok (r:h.CodeRec (.ref c) q):qBg P w H h c (codeO c q):=by
 obtain⟨c2,oc,vs,t,e,ho,hd,hv⟩:=id r;cases e;refine⟨r,⟨oc,ho⟩,fun h1 h2 r1 k=>?_⟩;obtain⟨c3,oc',vs',t',e',ho',hd',hv'⟩:=r1;cases e';exact⟨c,oc',vs',t',rfl,k _ ho',hd',hv'⟩
def TabW (H:Hp) (P:Addr) (lpos:Pos) (q:Str):Prop:=H P=some (.tbl #[])\/∃ c',H P=some (.tbl #[rawInt lpos.line,rawInt lpos.col,.ref c'])/\H c'=some (codeO c' q)
theorem among3 (lpos:Pos) (v:Value):codeAmong lpos (#[rawInt lpos.line,rawInt lpos.col,v]:Array Value).toList=some v:=by
 show(if _ then _ else _)=_;simp
theorem TabW.ext (h:TabW H P lpos q) (e:∀ b o,H b=some o->H' b=some o):TabW H' P lpos q:=by
 rcases h with h | ⟨c,h1,h2⟩
 ·exact .inl (e _ _ h)
 ·exact .inr ⟨c,e _ _ h1,e _ _ h2⟩
section
variable {X:Cx} {k:Nat}
theorem sq_B {K:PySem.W.Frag} {H H':Hp} {P l:Addr} {xs:List V} {ps:Array Value} (hP:H P=some (.tbl ps)) (e:ExtB P H H') (hq:SqL K H l xs):SqL K H' l xs:=by
 rcases hq with (hq | ⟨o,hq⟩) | hq
 ·exact .inl (.inl (e _ _ (fun z=>by rw[z,hP]at hq;cases hq) hq))
 ·exact .inl (.inr ⟨o,e _ _ (fun z=>by rw[z,hP]at hq;cases hq) hq⟩)
 ·exact .inr hq
end
end L2
namespace L2
open PySem PySem.Spec PyProof.Rows
def gallop':Bool->Keyed->Array Keyed->Nat->Nat->Nat->StateT SortSt Sem (Option Nat):=sortPriv% PySem.Builtin.gallop
def beyond' (left:Bool) (key:Keyed) (arr:Array Keyed) (base:Nat) (i:Nat):StateT SortSt Sem (Option Bool):=do
 let x ← elem' arr (base+i)
 if left then lt' x key else return (← lt' key x).map (!·)
def g3 (left:Bool) (key:Keyed) (arr:Array Keyed) (base n lo0 hi0:Nat):StateT SortSt Sem (Option Nat):=do
 let mut lo:=lo0
 let mut hi:=hi0
 for _ in [0:n] do
  if lo >= hi then break
  let m:=lo+(hi - lo) / 2
  let some more ← beyond' left key arr base m | return none
  if more then lo:=m+1 else hi:=m
 return some hi
theorem gallop'_eq (left:Bool) (key:Keyed) (arr:Array Keyed) (base n hint:Nat):gallop' left key arr base n hint=(do
 let mut lastofs:=0
 let mut ofs:=1
 let some right ← beyond' left key arr base hint | return none
 if right then
  let maxofs:=n - hint
  for _ in [0:n] do
   if ofs >= maxofs then break
   let some more ← beyond' left key arr base (hint+ofs) | return none
   if !more then break
   lastofs:=ofs
   ofs:=2*ofs+1
  g3 left key arr base n (hint+lastofs+1) (hint+min ofs maxofs)
 else
  let maxofs:=hint+1
  for _ in [0:n] do
   if ofs >= maxofs then break
   let some found ← beyond' left key arr base (hint - ofs) | return none
   if found then break
   lastofs:=ofs
   ofs:=2*ofs+1
  g3 left key arr base n (hint+1 - min ofs maxofs) (hint - lastofs)):=rfl
section
variable {prog:Program} {w:World} {A:Around} {E:Value->Shared->Prop} {s:Shared}
theorem wpS_gallop {left:Bool} {key:Keyed} {arr:Array Keyed} {base n hint:Nat} {Bd:Nat->Bool} {G:SortSt->Prop} {st:SortSt} {Q:Option Nat->SortSt->Prop}
  (hb:∀ i,i<n->∀ (st:SortSt) (Q:Option Bool->SortSt->Prop),G st->Q (some (Bd i)) st->wpS (model prog w) A E s (beyond' left key arr base i) Q st) (g:G st) (hh:hint<n) (mono:∀ i j,i<=j->j<n->Bd j=true->Bd i=true)
  (h:∀ k,k<=n->(∀ i,i<k->Bd i=true)->(∀ i,k<=i->i<n->Bd i=false)->Q (some k) st):wpS (model prog w) A E s (gallop' left key arr base n hint) Q st:=by
 rw[gallop'_eq];have third:∀ lo hi,lo<=hi->hi<=n->(∀ i,i<lo->Bd i=true)->(∀ i,hi<=i->i<n->Bd i=false)->wpS (model prog w) A E s (g3 left key arr base n lo hi) Q st:=fun lo hi h1 h2 h3 h4=>by
  unfold g3;refine wpS_bind (wpS_mono (wpS_forRange (I:=fun x c st'=>∃ lo hi,c=(none,lo,hi)/\st'=st/\lo<=hi/\hi<=n/\hi - lo+x<=n/\(∀ i,i<lo->Bd i=true)/\∀ i,hi<=i->i<n->Bd i=false)
   (Q:=fun c st'=>∃ k,c=(none,k,k)/\st'=st/\k<=n/\(∀ i,i<k->Bd i=true)/\∀ i,k<=i->i<n->Bd i=false) ?_ ?_ ⟨lo,hi,rfl,rfl,h1,h2,by omega,h3,h4⟩) ?_)
  ·rintro x c st' _ hx ⟨lo,hi,rfl,rfl,h1,h2,h5,h3,h4⟩;dsimp only;split
   ·rename_i c;have:lo=hi:=by omega
    subst this;exact wpS_pure ⟨lo,rfl,rfl,h2,h3,h4⟩
   ·rename_i c;refine wpS_bind (hb _ (by omega) st' _ g ?_);dsimp only;split
    ·rename_i d;exact wpS_pure ⟨_,hi,rfl,rfl,by omega,h2,by omega,fun i hi'=>mono i _ (by omega) (by omega) d,h4⟩
    ·rename_i d;have d':Bd (lo+(hi - lo) / 2)=false:=by simpa using d
     refine wpS_pure ⟨lo,_,rfl,rfl,by omega,by omega,by omega,h3,fun i hi' hin=>?_⟩;cases z:Bd i with
     | false=>rfl
     | true=>rw[mono _ i hi' hin z]at d';cases d'
  ·rintro c st' ⟨lo,hi,rfl,rfl,h1,h2,h5,h3,h4⟩;have:lo=hi:=by omega
   subst this;exact⟨lo,rfl,rfl,h2,h3,h4⟩
  ·rintro c st' ⟨k,rfl,rfl,h1,h2,h3⟩;exact wpS_pure (h k h1 h2 h3)
 refine wpS_bind (hb hint hh st _ g ?_);dsimp only;split
 ·rename_i c0;refine wpS_bind (wpS_mono (wpS_forRange (I:=fun x c st'=>∃ la of,c=(none,la,of)/\st'=st/\la<of/\hint+la<n/\Bd (hint+la)=true/\x<of)
   (Q:=fun c st'=>∃ la of,c=(none,la,of)/\st'=st/\la<of/\hint+la<n/\Bd (hint+la)=true/\(n - hint<=of\/(hint+of<n/\Bd (hint+of)=false))) ?_ ?_ ⟨0,1,rfl,rfl,by omega,by omega,c0,by omega⟩) ?_)
  ·rintro x c st' _ hx ⟨la,of,rfl,rfl,h1,h2,h3,h4⟩;dsimp only;split
   ·rename_i c;exact wpS_pure ⟨la,of,rfl,rfl,h1,h2,h3,.inl c⟩
   ·rename_i c;refine wpS_bind (hb _ (by omega) st' _ g ?_);dsimp only;split
    ·rename_i d;exact wpS_pure ⟨la,of,rfl,rfl,h1,h2,h3,.inr ⟨by omega,by simpa using d⟩⟩
    ·rename_i d;exact wpS_pure ⟨of,2*of+1,rfl,rfl,by omega,by omega,by simpa using d,by omega⟩
  ·rintro c st' ⟨la,of,rfl,rfl,h1,h2,h3,h4⟩;exact⟨la,of,rfl,rfl,h1,h2,h3,.inl (by omega)⟩
  ·rintro c st' ⟨la,of,rfl,rfl,h1,h2,h3,h4⟩;dsimp only;refine third (hint+la+1) (hint+min of (n - hint)) ?_ (by omega) (fun i hi=>mono i _ (by omega) h2 h3) fun i hi hin=>?_
   ·rcases h4 with z | ⟨z,_⟩ <;> omega
   ·rcases h4 with z | ⟨z1,z2⟩
    ·omega
    ·cases z:Bd i with
     | false=>rfl
     | true=>rw[mono _ i (by omega) hin z]at z2;cases z2
 ·rename_i c0;have c0':Bd hint=false:=by simpa using c0
  refine wpS_bind (wpS_mono (wpS_forRange (I:=fun x c st'=>∃ la of,c=(none,la,of)/\st'=st/\la<of/\la<=hint/\Bd (hint - la)=false/\x<of)
   (Q:=fun c st'=>∃ la of,c=(none,la,of)/\st'=st/\la<of/\la<=hint/\Bd (hint - la)=false/\(hint+1<=of\/(of<=hint/\Bd (hint - of)=true))) ?_ ?_ ⟨0,1,rfl,rfl,by omega,by omega,c0',by omega⟩) ?_)
  ·rintro x c st' _ hx ⟨la,of,rfl,rfl,h1,h2,h3,h4⟩;dsimp only;split
   ·rename_i c;exact wpS_pure ⟨la,of,rfl,rfl,h1,h2,h3,.inl c⟩
   ·rename_i c;refine wpS_bind (hb _ (by omega) st' _ g ?_);dsimp only;split
    ·rename_i d;exact wpS_pure ⟨la,of,rfl,rfl,h1,h2,h3,.inr ⟨by omega,by simpa using d⟩⟩
    ·rename_i d;exact wpS_pure ⟨of,2*of+1,rfl,rfl,by omega,by omega,by simpa using d,by omega⟩
  ·rintro c st' ⟨la,of,rfl,rfl,h1,h2,h3,h4⟩;exact⟨la,of,rfl,rfl,h1,h2,h3,.inl (by omega)⟩
  ·rintro c st' ⟨la,of,rfl,rfl,h1,h2,h3,h4⟩;dsimp only;refine third (hint+1 - min of (hint+1)) (hint - la) ?_ (by omega) (fun i hi=>?_) fun i hi hin=>?_
   ·rcases h4 with z | ⟨z,_⟩ <;> omega
   ·rcases h4 with z | ⟨z1,z2⟩
    ·omega
    ·exact mono i _ (by omega) (by omega) z2
   ·cases z:Bd i with
    | false=>rfl
    | true=>rw[mono _ i hi hin z]at h3;cases h3
end
end L2
namespace L2
open PySem PySem.Spec PyProof.Rows
def qA5:Nat->StateT SortSt Sem Unit:=sortPriv% PySem.Builtin.setMinGallop
def mergeLo':Array Keyed->Array Keyed->StateT SortSt Sem (Array Keyed):=sortPriv% PySem.Builtin.mergeLo
def dnA (a b out:Array Keyed) (ia ib:Nat):Array Keyed:=out++a.extract ia a.size++b.extract ib b.size
def lsA (a b out:Array Keyed) (ia ib:Nat):Array Keyed:=out++b.extract ib b.size++a.extract ia a.size
theorem mergeLo'_eq (a b:Array Keyed):mergeLo' a b=(do
 rule "list.sort.merge-lo"
 let total:=a.size+b.size
 let mut out:Array Keyed:=#[<-elem' b 0]
 let mut ia:=0
 let mut ib:=1
 if ib == b.size then return dnA a b out ia ib
 if ia+1 == a.size then return lsA a b out ia ib
 let mut minGallop:=gallopOf (← get)
 for _ in [0:total] do
  let mut acount:=0
  let mut bcount:=0
  for _ in [0:total] do
   let some bWins ← lt' (← elem' b ib) (← elem' a ia) | return dnA a b out ia ib
   if bWins then
    out:=out.push (← elem' b ib);ib:=ib+1;bcount:=bcount+1;acount:=0
    if ib == b.size then return dnA a b out ia ib
    if bcount >= minGallop then break
   else
    out:=out.push (← elem' a ia);ia:=ia+1;acount:=acount+1;bcount:=0
    if ia+1 == a.size then return lsA a b out ia ib
    if acount >= minGallop then break
  rule "list.sort.gallop"
  minGallop:=minGallop+1
  for _ in [0:total] do
   if minGallop > 1 then minGallop:=minGallop - 1
   qA5 minGallop
   let some k ← gallop' false (← elem' b ib) a ia (a.size - ia) 0 | return dnA a b out ia ib
   acount:=k
   if k > 0 then
    out:=out++a.extract ia (ia+k);ia:=ia+k
    if ia+1 == a.size then return lsA a b out ia ib
    if ia == a.size then return dnA a b out ia ib
   out:=out.push (← elem' b ib);ib:=ib+1
   if ib == b.size then return dnA a b out ia ib
   let some k ← gallop' true (← elem' a ia) b ib (b.size - ib) 0 | return dnA a b out ia ib
   bcount:=k
   if k > 0 then
    out:=out++b.extract ib (ib+k);ib:=ib+k
    if ib == b.size then return dnA a b out ia ib
   out:=out.push (← elem' a ia);ia:=ia+1
   if ia+1 == a.size then return lsA a b out ia ib
   if acount<7 && bcount<7 then break
  minGallop:=minGallop+1
  qA5 minGallop
 unsupported "internal:list.sort.merge-bound"):=rfl
def Srd (rk:Keyed->Int) (l:List Keyed):Prop:=l.Pairwise fun x y=>rk x<=rk y
def Dn (rk:Keyed->Int) (all l:List Keyed):Prop:=l.Perm all/\Srd rk l
structure MI (rk:Keyed->Int) (all ra rb o:List Keyed):Prop where
 perm:(o++(ra++rb)).Perm all
 so:Srd rk o
 sa:Srd rk ra
 sb:Srd rk rb
 la:∀ x∈o,∀ y∈ra,rk x<=rk y
 lb:∀ x∈o,∀ y∈rb,rk x<=rk y
section
variable {rk:Keyed->Int} {all ra rb o xs:List Keyed}
theorem MI.symm (h:MI rk all ra rb o):MI rk all rb ra o:=⟨(List.perm_append_comm.append_left o).trans h.perm,h.so,h.sb,h.sa,h.lb,h.la⟩
theorem MI.as (h:MI rk all (xs++ra) rb o) (c:∀ x∈xs,∀ y∈rb,rk x<=rk y):MI rk all ra rb (o++xs):=by
 have p:=hAz.mp h.sa;refine⟨by simpa [hBd] using h.perm,hAz.mpr ⟨h.so,p.1,fun x hx y hy=>h.la x hx y (hAn _ hy)⟩,p.2.1,h.sb,fun x hx y hy=>?_,fun x hx y hy=>?_⟩
 ·rcases hAe.mp hx with z | z
  ·exact h.la x z y (hA6 _ hy)
  ·exact p.2.2 x z y hy
 ·rcases hAe.mp hx with z | z
  ·exact h.lb x z y hy
  ·exact c x z y hy
theorem MI.bs (h:MI rk all ra (xs++rb) o) (c:∀ x∈xs,∀ y∈ra,rk x<=rk y):MI rk all ra rb (o++xs):=(h.symm.as c).symm
theorem MI.fin (h:MI rk all ra rb o) (c:∀ x∈ra,∀ y∈rb,rk x<=rk y):Dn rk all (o++(ra++rb)):=by
 refine⟨h.perm,hAz.mpr ⟨h.so,hAz.mpr ⟨h.sa,h.sb,c⟩,fun x hx y hy=>?_⟩⟩;rcases hAe.mp hy with z | z
 ·exact h.la x hx y z
 ·exact h.lb x hx y z
theorem MI.len (h:MI rk all ra rb o):o.length+(ra.length+rb.length)=all.length:=by
 have:=h.perm.length_eq
 simpa using this
theorem qB0 (h:Srd rk (x :: l)):∀ y∈x :: l,rk x<=rk y:=fun y hy=>by
 rcases hAa.mp hy with z | z
 ·rw[z];exact hD5 _
 ·exact(hC0.mp h).1 y z
end
def Gal (st st':SortSt):Prop:=kindOf st'=kindOf st/\arrOf st'=arrOf st/\pendingOf st'=pendingOf st/\failedOf st'=failedOf st
theorem Gal.refl (st:SortSt):Gal st st:=⟨rfl,rfl,rfl,rfl⟩
theorem Gal.trans (h:Gal a b) (k:Gal b c):Gal a c:=⟨k.1.trans h.1,k.2.1.trans h.2.1,k.2.2.1.trans h.2.2.1,k.2.2.2.trans h.2.2.2⟩
theorem qC7 (a:Array Keyed) (i j:Nat):(a.extract i j).toList=(a.toList.drop i).take (j - i):=by
 rw[Array.toList_extract]
theorem ext_end (a:Array Keyed) (i:Nat):(a.extract i a.size).toList=a.toList.drop i:=by
 rw[qC7,hA8 (by simp)]
theorem dnA_list (a b out:Array Keyed) (ia ib:Nat):(dnA a b out ia ib).toList=out.toList++(a.toList.drop ia++b.toList.drop ib):=by
 unfold dnA;rw[hBh,hBh,ext_end,ext_end,hBd]
theorem lsA_list (a b out:Array Keyed) (ia ib:Nat):(lsA a b out ia ib).toList=out.toList++(b.toList.drop ib++a.toList.drop ia):=by
 unfold lsA;rw[hBh,hBh,ext_end,ext_end,hBd]
section
variable {prog:Program} {w:World} {A:Around} {E:Value->Shared->Prop} {s:Shared} {rk:Keyed->Int} {kd:SortKind} {D:Keyed->Prop}
def qGl (prog:Program) (w:World) (A:Around) (E:Value->Shared->Prop) (s:Shared) (rk:Keyed->Int) (kd:SortKind) (D:Keyed->Prop):Prop :=
 ∀ x y,D x->D y->∀ (st:SortSt) (Q:Option Bool->SortSt->Prop),kindOf st=kd->Q (some (decide (rk x<rk y))) st->wpS (model prog w) A E s (lt' x y) Q st
theorem qAx {arr:Array Keyed} {i:Nat} {p:Keyed} {Q:Keyed->SortSt->Prop} {st:SortSt} (e:arr[i]?=some p) (h:Q p st):wpS (model prog w) A E s (elem' arr i) Q st:=by
 rw[elem'_eq,e];exact wpS_pure h
def gP (rk:Keyed->Int) (left:Bool) (key x:Keyed):Bool:=if left then decide (rk x<rk key) else !decide (rk key<rk x)
theorem wpS_beyond (ak:qGl prog w A E s rk kd D) {left:Bool} {key x:Keyed} {arr:Array Keyed} {base i:Nat} {Q:Option Bool->SortSt->Prop} {st:SortSt} (hk:kindOf st=kd) (dk:D key) (dx:D x) (e:arr[base+i]?=some x)
  (h:Q (some (gP rk left key x)) st):wpS (model prog w) A E s (beyond' left key arr base i) Q st:=by
 unfold beyond';refine wpS_bind (qAx e ?_);cases left with
 | true=>exact ak x key dx dk st Q hk h
 | false=>exact wpS_bind (ak key x dk dx st _ hk (wpS_pure h))
theorem qEb (ak:qGl prog w A E s rk kd D) {left:Bool} {key:Keyed} {arr:Array Keyed} {base n hint:Nat} {l:List Keyed} {Q:Option Nat->SortSt->Prop} {st:SortSt} (hk:kindOf st=kd) (dk:D key) (hl:(arr.toList.drop base).take n=l) (hn:l.length=n)
  (dl:∀ x∈l,D x) (sl:Srd rk l) (hh:hint<n) (h:∀ l1 l2,l=l1++l2->(∀ x∈l1,gP rk left key x=true)->(∀ x∈l2,gP rk left key x=false)->Q (some l1.length) st) :
  wpS (model prog w) A E s (gallop' left key arr base n hint) Q st:=by
 have at_:∀ i,(hi:i<n)->arr[base+i]?=some (l[i]'(by omega)):=fun i hi=>by
  subst hl;rw[<-hAp];rw[List.getElem_take,List.getElem_drop,hA2]
 refine wpS_gallop (Bd:=fun i=>if c:i<l.length then gP rk left key (l[i]'c) else false) (G:=fun st=>kindOf st=kd) (fun i hi st Q g q=>?_) hk hh (fun i j hij hj q=>?_) fun k hk1 h1 h2=>?_
 ·refine wpS_beyond ak g dk (dl _ (hBw (by omega))) (at_ i hi) ?_;rw[dif_pos (by omega)]at q;exact q
 ·rw[dif_pos (by omega)]at q ⊢;by_cases e:i=j
  ·subst e;exact q
  ·have:=List.pairwise_iff_getElem.mp sl i j (by omega) (by omega) (by omega);unfold gP at q ⊢;cases left
   ·simp at q ⊢;omega
   ·simp at q ⊢;omega
 ·have e:=h (l.take k) (l.drop k) (hDh k l).symm (fun x hx=>?_) fun x hx=>?_
  ·rw[hAj,Nat.min_eq_left (by omega)]at e;exact e
  ·obtain⟨i,hi,rfl⟩:=List.mem_iff_getElem.mp hx;rw[hAj]at hi;have:=h1 i (by omega);rw[dif_pos (by omega)]at this;rw[List.getElem_take];exact this
  ·obtain⟨i,hi,rfl⟩:=List.mem_iff_getElem.mp hx;rw[hC1]at hi;have:=h2 (k+i) (by omega) (by omega);rw[dif_pos (by omega)]at this;rw[List.getElem_drop];exact this
theorem qE4 (g:Nat):qA5 g=modify fun st=>SortSt.mk' (kindOf st) (arrOf st) (pendingOf st) g (failedOf st):=rfl
theorem qE9 {g:Nat} {st:SortSt} {Q:Unit->SortSt->Prop} (h:∀ st',Gal st st'->Q () st'):wpS (model prog w) A E s (qA5 g) Q st:=by
 rw[qE4];exact wpS_modify (h _ ⟨rfl,rfl,rfl,rfl⟩)
abbrev G7:=ForInStep (Option (Array Keyed)×Array Keyed×Nat×Nat×Nat×Nat×Nat)
def gl4 (a b:Array Keyed) (ac bc mg:Nat) (out:Array Keyed) (ia ib:Nat):StateT SortSt Sem G7:=do
 let x ← elem' a ia
 if (ia+1+1 == a.size)=true then pure (.done (some (lsA a b (out.push x) (ia+1) ib),out.push x,ia+1,ib,mg,ac,bc))
 else if (decide (ac<7) && decide (bc<7))=true then pure (.done (none,out.push x,ia+1,ib,mg,ac,bc))
 else pure (.yield (none,out.push x,ia+1,ib,mg,ac,bc))
def gl3 (a b:Array Keyed) (ac mg:Nat) (out:Array Keyed) (ia ib bc0:Nat):StateT SortSt Sem G7:=do
 let y ← elem' b ib
 if (ib+1 == b.size)=true then pure (.done (some (dnA a b (out.push y) ia (ib+1)),out.push y,ia,ib+1,mg,ac,bc0))
 else
  let x ← elem' a ia
  let some k ← gallop' true x b (ib+1) (b.size - (ib+1)) 0 | pure (.done (some (dnA a b (out.push y) ia (ib+1)),out.push y,ia,ib+1,mg,ac,bc0))
  if k > 0 then
    if (ib+1+k == b.size)=true then pure (.done (some (dnA a b (out.push y++b.extract (ib+1) (ib+1+k)) ia (ib+1+k)),out.push y++b.extract (ib+1) (ib+1+k),ia,ib+1+k,mg,ac,k))
    else gl4 a b ac k mg (out.push y++b.extract (ib+1) (ib+1+k)) ia (ib+1+k)
  else gl4 a b ac k mg (out.push y) ia (ib+1)
def gl2 (a b:Array Keyed) (mg:Nat) (out:Array Keyed) (ia ib ac0 bc0:Nat):StateT SortSt Sem G7:=do
 qA5 mg
 let y ← elem' b ib
 let some k ← gallop' false y a ia (a.size - ia) 0 | pure (.done (some (dnA a b out ia ib),out,ia,ib,mg,ac0,bc0))
 if k > 0 then
   if (ia+k+1 == a.size)=true then pure (.done (some (lsA a b (out++a.extract ia (ia+k)) (ia+k) ib),out++a.extract ia (ia+k),ia+k,ib,mg,k,bc0))
   else if (ia+k == a.size)=true then pure (.done (some (dnA a b (out++a.extract ia (ia+k)) (ia+k) ib),out++a.extract ia (ia+k),ia+k,ib,mg,k,bc0))
   else gl3 a b k mg (out++a.extract ia (ia+k)) (ia+k) ib bc0
 else gl3 a b k mg out ia ib bc0
def glT (a b:Array Keyed) (c:Option (Array Keyed)×Array Keyed×Nat×Nat×Nat×Nat×Nat):StateT SortSt Sem G7 :=
 if c.2.2.2.2.1 > 1 then gl2 a b (c.2.2.2.2.1 - 1) c.2.1 c.2.2.1 c.2.2.2.1 c.2.2.2.2.2.1 c.2.2.2.2.2.2 else gl2 a b c.2.2.2.2.1 c.2.1 c.2.2.1 c.2.2.2.1 c.2.2.2.2.2.1 c.2.2.2.2.2.2
theorem qE1 (a:Array Keyed) (h:i<a.size):∃ x,a[i]?=some x/\x∈a.toList/\a.toList.drop i=x :: a.toList.drop (i+1):=by
 refine⟨a[i],by simp[h],by simp,?_⟩;rw[hCw (by simpa using h)];simp
structure Lo (rk:Keyed->Int) (a b out:Array Keyed) (ia ib:Nat):Prop where
 mi:MI rk (a.toList++b.toList) (a.toList.drop ia) (b.toList.drop ib) out.toList
 ha:ia+1<a.size
 hb:ib<b.size
def LoT (rk:Keyed->Int) (a b:Array Keyed) (st:SortSt) (r:Array Keyed) (st':SortSt):Prop:=Gal st st'/\Dn rk (a.toList++b.toList) r.toList
theorem Lo.dn (m:MI rk (a.toList++b.toList) (a.toList.drop ia) (b.toList.drop ib) out.toList) (h:a.size<=ia\/b.size<=ib):Dn rk (a.toList++b.toList) (dnA a b out ia ib).toList:=by
 rw[dnA_list];refine m.fin fun x hx y hy=>?_
 rcases h with h | h
 ·rw[List.drop_eq_nil_of_le (by simpa using h)]at hx;cases hx
 ·rw[List.drop_eq_nil_of_le (by simpa using h)]at hy;cases hy
theorem Lo.ls (m:MI rk (a.toList++b.toList) (a.toList.drop ia) (b.toList.drop ib) out.toList) (h:ia+1=a.size) (hi:∀ x∈a.toList.drop (a.size - 1),∀ y∈b.toList,rk y<=rk x):Dn rk (a.toList++b.toList) (lsA a b out ia ib).toList:=by
 rw[lsA_list];refine m.symm.fin fun y hy x hx=>hi x ?_ y (hDj hy)
 rw[show a.size - 1=ia by omega];exact hx
theorem wp_gl4 {a b out:Array Keyed} {ac bc mg ia ib:Nat} {st st0:SortSt} {Q:G7->SortSt->Prop} (L:Lo rk a b out ia ib) (lt:∀ x,a[ia]?=some x->∀ y∈b.toList.drop ib,rk x<=rk y) (hi:∀ x∈a.toList.drop (a.size - 1),∀ y∈b.toList,rk y<=rk x) (g:Gal st0 st)
  (hd:∀ r c,LoT rk a b st0 r st->Q (.done (some r,c)) st) (hn:∀ out' ia' mg ac bc,Lo rk a b out' ia' ib->out.size<out'.size->Q (.done (none,out',ia',ib,mg,ac,bc)) st/\Q (.yield (none,out',ia',ib,mg,ac,bc)) st) :
  wpS (model prog w) A E s (gl4 a b ac bc mg out ia ib) Q st:=by
 obtain⟨x,e,ex,ed⟩:=qE1 a (i:=ia) (by have:=L.ha;omega);have m:MI rk (a.toList++b.toList) (a.toList.drop (ia+1)) (b.toList.drop ib) (out.push x).toList:=by
  have m:=L.mi;rw[ed]at m;rw[hBl];exact MI.as (xs:=[x]) m fun z hz y hy=>by
   rw[hA7.mp hz];exact lt x e y hy
 unfold gl4;refine wpS_bind (qAx e ?_);have h1:=L.ha;by_cases c:(ia+1+1 == a.size)=true
 ·rw[if_pos c];exact wpS_pure (hd _ _ ⟨g,Lo.ls m (by simpa using c) hi⟩)
 ·rw[if_neg c];have c':ia+1+1≠a.size:=by simpa using c
  have:=hn (out.push x) (ia+1) mg ac bc ⟨m,by omega,L.hb⟩ (by simp);split
  ·exact wpS_pure this.1
  ·exact wpS_pure this.2
theorem beq_ge {i n:Nat} (h:(i == n)=true):n<=i:=Nat.le_of_eq (eq_of_beq h).symm
theorem ext_app {b:Array Keyed} {i:Nat} {l1 l2:List Keyed} (e:b.toList.drop i=l1++l2):(b.extract i (i+l1.length)).toList=l1/\b.toList.drop (i+l1.length)=l2:=by
 refine⟨?_,?_⟩
 ·rw[qC7,e,show i+l1.length - i=l1.length by omega,hCz];rfl
 ·rw[<-List.drop_drop,e,hD0];rfl
theorem wp_gl3 (ak:qGl prog w A E s rk kd D) {a b out:Array Keyed} {ac mg bc0 ia ib:Nat} {st st0:SortSt} {Q:G7->SortSt->Prop} (hk:kindOf st=kd) (da:∀ x∈a.toList,D x) (db:∀ x∈b.toList,D x) (L:Lo rk a b out ia ib) (lt:∀ y,b[ib]?=some y->∀ x∈a.toList.drop ia,rk y<=rk x) (hi:∀ x∈a.toList.drop (a.size - 1),∀ y∈b.toList,rk y<=rk x) (g:Gal st0 st)
  (hd:∀ r c,LoT rk a b st0 r st->Q (.done (some r,c)) st) (hn:∀ out' ia' ib' mg ac bc,Lo rk a b out' ia' ib'->out.size<out'.size->Q (.done (none,out',ia',ib',mg,ac,bc)) st/\Q (.yield (none,out',ia',ib',mg,ac,bc)) st) :
  wpS (model prog w) A E s (gl3 a b ac mg out ia ib bc0) Q st:=by
 have h1:=L.ha;have h2:=L.hb;obtain⟨y,e,ey,ed⟩:=qE1 b (i:=ib) h2;obtain⟨x,f,fx,fd⟩:=qE1 a (i:=ia) (by omega);have m:MI rk (a.toList++b.toList) (a.toList.drop ia) (b.toList.drop (ib+1)) (out.push y).toList:=by
  have m:=L.mi;rw[ed]at m;rw[hBl];exact MI.bs (xs:=[y]) m fun z hz x hx=>by
   rw[hA7.mp hz];exact lt y e x hx
 have sh:=qB0 (fd▸m.sa);unfold gl3;refine wpS_bind (qAx e ?_);by_cases c:(ib+1 == b.size)=true
 ·rw[if_pos c];exact wpS_pure (hd _ _ ⟨g,Lo.dn m (.inr (beq_ge c))⟩)
 ·rw[if_neg c];have c':ib+1≠b.size:=by simpa using c
  refine wpS_bind (qAx f ?_);refine wpS_bind (qEb ak (l:=b.toList.drop (ib+1)) hk (da x fx) (hA8 (by simp)) (by simp) (fun z hz=>db z (hDj hz)) m.sb (by omega) fun l1 l2 el p1 p2=>?_);have q1:∀ z∈l1,rk z<rk x:=fun z hz=>by simpa [gP] using p1 z hz
  have q2:∀ z∈l2,rk x<=rk z:=fun z hz=>by
   have:=p2 z hz;simp[gP]at this;exact this
  have X:=ext_app el;dsimp only;by_cases k0:l1.length > 0
  ·rw[if_pos k0];have m2:MI rk (a.toList++b.toList) (a.toList.drop ia) (b.toList.drop (ib+1+l1.length)) (out.push y++b.extract (ib+1) (ib+1+l1.length)).toList:=by
    rw[hBh,X.1,X.2];rw[el]at m;exact m.bs fun z hz x' hx'=>by
     have a1:=q1 z hz;have a2:=sh x' (fd▸hx');omega
   by_cases d:(ib+1+l1.length == b.size)=true
   ·rw[if_pos d];exact wpS_pure (hd _ _ ⟨g,Lo.dn m2 (.inr (beq_ge d))⟩)
   ·rw[if_neg d];have d':ib+1+l1.length≠b.size:=by simpa using d
    have ll:(b.toList.drop (ib+1)).length=l1.length+l2.length:=by rw[el];simp
    rw[hC1]at ll;have ll':b.size - (ib+1)=l1.length+l2.length:=by simpa using ll
    refine wp_gl4 ⟨m2,h1,by omega⟩ (fun z hz y hy=>?_) hi g hd fun o i mg ac bc L' hs=>hn o i _ mg ac bc L' ?_
    ·rw[X.2]at hy;rw[f]at hz;cases hz;exact q2 y hy
    ·simp at hs;omega
  ·rw[if_neg k0];have n1:l1=[]:=hAy.mp (by omega);subst n1;refine wp_gl4 ⟨m,h1,by omega⟩ (fun z hz y hy=>?_) hi g hd fun o i mg ac bc L' hs=>hn o i _ mg ac bc L' ?_
   ·rw[el]at hy;rw[f]at hz;cases hz;exact q2 y hy
   ·simp at hs;omega
theorem wp_gl2 (ak:qGl prog w A E s rk kd D) {a b out:Array Keyed} {mg ac0 bc0 ia ib:Nat} {st st0:SortSt} {Q:G7->SortSt->Prop} (hk:kindOf st0=kd) (da:∀ x∈a.toList,D x) (db:∀ x∈b.toList,D x) (L:Lo rk a b out ia ib) (hi:∀ x∈a.toList.drop (a.size - 1),∀ y∈b.toList,rk y<=rk x) (g:Gal st0 st)
  (hd:∀ r c st,LoT rk a b st0 r st->Q (.done (some r,c)) st) (hn:∀ out' ia' ib' mg ac bc st,Gal st0 st->Lo rk a b out' ia' ib'->out.size<out'.size->Q (.done (none,out',ia',ib',mg,ac,bc)) st/\Q (.yield (none,out',ia',ib',mg,ac,bc)) st) :
  wpS (model prog w) A E s (gl2 a b mg out ia ib ac0 bc0) Q st:=by
 have h1:=L.ha;have h2:=L.hb;have m:=L.mi;obtain⟨y,e,ey,ed⟩:=qE1 b (i:=ib) h2;have sh:=qB0 (ed▸m.sb);unfold gl2;refine wpS_bind (qE9 fun st1 g1=>?_);have g':=g.trans g1;refine wpS_bind (qAx e ?_);refine wpS_bind (qEb ak (l:=a.toList.drop ia) (g'.1.trans hk) (db y ey) (hA8 (by simp)) (by simp) (fun z hz=>da z (hDj hz)) m.sa (by omega) fun l1 l2 el p1 p2=>?_);have q1:∀ z∈l1,rk z<=rk y:=fun z hz=>by simpa [gP] using p1 z hz
 have q2:∀ z∈l2,rk y<rk z:=fun z hz=>by simpa [gP] using p2 z hz
 have X:=ext_app el;dsimp only;by_cases k0:l1.length > 0
 ·rw[if_pos k0];have m2:MI rk (a.toList++b.toList) (a.toList.drop (ia+l1.length)) (b.toList.drop ib) (out++a.extract ia (ia+l1.length)).toList:=by
   rw[hBh,X.1,X.2];rw[el]at m;exact m.as fun z hz x' hx'=>by
    have a1:=q1 z hz;have a2:=sh x' (ed▸hx');omega
  by_cases d:(ia+l1.length+1 == a.size)=true
  ·rw[if_pos d];exact wpS_pure (hd _ _ _ ⟨g',Lo.ls m2 (by simpa using d) hi⟩)
  ·rw[if_neg d];by_cases d2:(ia+l1.length == a.size)=true
   ·rw[if_pos d2];exact wpS_pure (hd _ _ _ ⟨g',Lo.dn m2 (.inl (beq_ge d2))⟩)
   ·rw[if_neg d2];have d':ia+l1.length+1≠a.size:=by simpa using d
    have d2':ia+l1.length≠a.size:=by simpa using d2
    have ll:(a.toList.drop ia).length=l1.length+l2.length:=by rw[el];simp
    rw[hC1]at ll;have ll':a.size - ia=l1.length+l2.length:=by simpa using ll
    refine wp_gl3 ak (g'.1.trans hk) da db ⟨m2,by omega,h2⟩ (fun z hz x hx=>?_) hi g' (fun r c=>hd r c _) fun o i j mg ac bc L' hs=>hn o i j mg ac bc _ g' L' ?_
    ·rw[X.2]at hx;rw[e]at hz;cases hz;exact hDi (q2 x hx)
    ·simp at hs;omega
 ·rw[if_neg k0];have n1:l1=[]:=hAy.mp (by omega);subst n1;refine wp_gl3 ak (g'.1.trans hk) da db L (fun z hz x hx=>?_) hi g' (fun r c=>hd r c _) fun o i j mg ac bc L' hs=>hn o i j mg ac bc _ g' L' hs
  rw[el]at hx;rw[e]at hz;cases hz;exact hDi (q2 x hx)
theorem wpS_mergeLo (ak:qGl prog w A E s rk kd D) {a b:Array Keyed} {st:SortSt} {Q:Array Keyed->SortSt->Prop} (hk:kindOf st=kd) (da:∀ x∈a.toList,D x) (db:∀ x∈b.toList,D x) (sa:Srd rk a.toList) (sb:Srd rk b.toList) (h1:1<=a.size) (h2:1<=b.size)
  (lo:∀ y∈b.toList.take 1,∀ x∈a.toList,rk y<=rk x) (hi:∀ x∈a.toList.drop (a.size - 1),∀ y∈b.toList,rk y<=rk x) (h:∀ r st',Gal st st'->Dn rk (a.toList++b.toList) r.toList->Q r st'):wpS (model prog w) A E s (mergeLo' a b) Q st:=by
 rw[mergeLo'_eq];refine wpS_bind (wpS_lift (wpAny_rule ⟨rfl,?_⟩));obtain⟨y,e,ey,ed⟩:=qE1 b (i:=0) h2;refine wpS_bind (qAx e ?_);have m:MI rk (a.toList++b.toList) (a.toList.drop 0) (b.toList.drop (0+1)) (#[y]:Array Keyed).toList:=by
  have m0:MI rk (a.toList++b.toList) (a.toList.drop 0) (b.toList.drop 0) []:=⟨by simp,List.Pairwise.nil,by simpa using sa,by simpa using sb,fun x hx=>(by cases hx),fun x hx=>(by cases hx)⟩;rw[ed]at m0;refine MI.bs (xs:=[y]) m0 fun z hz x hx=>?_
  rw[hA7.mp hz];refine lo y ?_ x (hDj hx);rw[List.drop_zero]at ed;rw[ed];exact hA3 ..
 by_cases e1:(1 == b.size)=true
 ·rw[if_pos e1];exact wpS_pure (h _ _ (Gal.refl _) (Lo.dn m (.inr (beq_ge e1))))
 rw[if_neg e1];by_cases e2:(0+1 == a.size)=true
 ·rw[if_pos e2];exact wpS_pure (h _ _ (Gal.refl _) (Lo.ls m (by simpa using e2) hi))
 rw[if_neg e2];have e1':1≠b.size:=by simpa using e1
 have e2':0+1≠a.size:=by simpa using e2
 refine wpS_bind (wpS_get ?_);have tot:∀ {o:Array Keyed} {i j:Nat},Lo rk a b o i j->o.size+3<=a.size+b.size:=fun {o i j} L=>by
  have:=L.mi.len;have:=L.ha;have:=L.hb;simp at *;omega
 refine wpS_bind (wpS_mono (wpS_forRange (I:=fun x c st'=>∃ out ia ib mg,c=(none,out,ia,ib,mg)/\Lo rk a b out ia ib/\x+1<=out.size/\Gal st st')
  (Q:=fun c st'=>∃ r c',c=(some r,c')/\LoT rk a b st r st') ?_ ?_ ⟨_,_,_,_,rfl,⟨m,by omega,by omega⟩,by simp,Gal.refl _⟩) ?_)
 ·rintro x c st1 _ hx ⟨out,ia,ib,mg,rfl,L,hs,g⟩;refine wpS_bind (wpS_mono (wpS_forRange (I:=fun y c st'=>∃ o ia ib ac bc,c=(none,o,ia,ib,ac,bc)/\Lo rk a b o ia ib/\out.size+y<=o.size/\Gal st st')
   (Q:=fun c st'=>(∃ r c',c=(some r,c')/\LoT rk a b st r st')\/∃ o ia ib ac bc,c=(none,o,ia,ib,ac,bc)/\Lo rk a b o ia ib/\out.size<o.size/\Gal st st') ?_ ?_ ⟨_,_,_,_,_,rfl,L,hA5 _,g⟩) ?_)
  ·rintro y c st2 _ hy ⟨o,ja,jb,ac,bc,rfl,L2,hs2,g2⟩;have h1:=L2.ha;have h2:=L2.hb;have m:=L2.mi;obtain⟨v,f,fv,fd⟩:=qE1 b (i:=jb) h2;obtain⟨u,p,pu,pd⟩:=qE1 a (i:=ja) (by omega);refine wpS_bind (qAx f ?_);refine wpS_bind (qAx p ?_);refine wpS_bind (ak v u (db v fv) (da u pu) _ _ (g2.1.trans hk) ?_);have sv:=qB0 (fd▸m.sb);have su:=qB0 (pd▸m.sa);by_cases c:rk v<rk u
   ·rw[decide_eq_true c];have m2:MI rk (a.toList++b.toList) (a.toList.drop ja) (b.toList.drop (jb+1)) (o.push v).toList:=by
     rw[fd]at m;rw[hBl];refine MI.bs (xs:=[v]) m fun z hz x hx=>?_
     rw[hA7.mp hz];have:=su x (pd▸hx);omega
    dsimp only;rw[if_pos rfl];refine wpS_bind (qAx f ?_);by_cases q:(jb+1 == b.size)=true
    ·rw[if_pos q];exact wpS_pure (.inl ⟨_,_,rfl,g2,Lo.dn m2 (.inr (beq_ge q))⟩)
    ·rw[if_neg q];have q':jb+1≠b.size:=by simpa using q
     split
     ·exact wpS_pure (.inr ⟨_,_,_,_,_,rfl,⟨m2,h1,by omega⟩,by simp;omega,g2⟩)
     ·exact wpS_pure ⟨_,_,_,_,_,rfl,⟨m2,h1,by omega⟩,by simp;omega,g2⟩
   ·rw[decide_eq_false c];have m2:MI rk (a.toList++b.toList) (a.toList.drop (ja+1)) (b.toList.drop jb) (o.push u).toList:=by
     rw[pd]at m;rw[hBl];refine MI.as (xs:=[u]) m fun z hz x hx=>?_
     rw[hA7.mp hz];have:=sv x (fd▸hx);omega
    dsimp only;rw[if_neg (by decide)];refine wpS_bind (qAx p ?_);by_cases q:(ja+1+1 == a.size)=true
    ·rw[if_pos q];exact wpS_pure (.inl ⟨_,_,rfl,g2,Lo.ls m2 (eq_of_beq q) hi⟩)
    ·rw[if_neg q];have q':ja+1+1≠a.size:=by simpa using q
     split
     ·exact wpS_pure (.inr ⟨_,_,_,_,_,rfl,⟨m2,by omega,h2⟩,by simp;omega,g2⟩)
     ·exact wpS_pure ⟨_,_,_,_,_,rfl,⟨m2,by omega,h2⟩,by simp;omega,g2⟩
  ·rintro c st2 ⟨o,ja,jb,ac,bc,rfl,L2,hs2,g2⟩;have:=tot L2;omega
  ·rintro c st2 (⟨r,c',rfl,hr⟩ | ⟨o,ja,jb,ac,bc,rfl,L2,hs2,g2⟩)
   ·exact wpS_pure ⟨r,_,rfl,hr⟩
   ·refine wpS_bind (wpS_lift (wpAny_rule ⟨rfl,?_⟩));refine wpS_bind (wpS_mono (wpS_forRange (I:=fun y c st'=>∃ o' ia ib mg ac bc,c=(none,o',ia,ib,mg,ac,bc)/\Lo rk a b o' ia ib/\o.size+y<=o'.size/\Gal st st')
     (Q:=fun c st'=>(∃ r c',c=(some r,c')/\LoT rk a b st r st')\/∃ o' ia ib mg ac bc,c=(none,o',ia,ib,mg,ac,bc)/\Lo rk a b o' ia ib/\o.size<=o'.size/\Gal st st') ?_ ?_ ⟨_,_,_,_,_,_,rfl,L2,hA5 _,g2⟩) ?_)
    ·rintro y c st3 _ hy ⟨o',ka,kb,mg',ac',bc',rfl,L3,hs3,g3⟩;have one:∀ mg,wpS (model prog w) A E s (gl2 a b mg o' ka kb ac' bc') (fun r st'=>match r with | .done c'=>(∃ r c'',c'=(some r,c'')/\LoT rk a b st r st')\/∃ o' ia ib mg ac bc,c'=(none,o',ia,ib,mg,ac,bc)/\Lo rk a b o' ia ib/\o.size<=o'.size/\Gal st st' | .yield c'=>∃ o' ia ib mg ac bc,c'=(none,o',ia,ib,mg,ac,bc)/\Lo rk a b o' ia ib/\o.size+(y+1)<=o'.size/\Gal st st') st3:=fun mg =>
      wp_gl2 ak hk da db L3 hi g3 (fun r c st5 hr=>.inl ⟨r,c,rfl,hr⟩) fun o6 i j mg6 ac6 bc6 st6 g6 L6 hs6=>⟨.inr ⟨_,_,_,_,_,_,rfl,L6,by omega,g6⟩,⟨_,_,_,_,_,_,rfl,L6,by omega,g6⟩⟩
     refine wpS_mono (m:=glT a b (none,o',ka,kb,mg',ac',bc')) ?_ (fun r st' hr=>?_) (Q:=fun r st'=>match r with | .done c'=>(∃ r c'',c'=(some r,c'')/\LoT rk a b st r st')\/∃ o' ia ib mg ac bc,c'=(none,o',ia,ib,mg,ac,bc)/\Lo rk a b o' ia ib/\o.size<=o'.size/\Gal st st' | .yield c'=>∃ o' ia ib mg ac bc,c'=(none,o',ia,ib,mg,ac,bc)/\Lo rk a b o' ia ib/\o.size+(y+1)<=o'.size/\Gal st st')
     ·unfold glT;split
      ·exact one _
      ·exact one _
     ·cases r with
      | done c'=>exact hr
      | yield c'=>exact hr
    ·rintro c st3 ⟨o',ka,kb,mg',ac',bc',rfl,L3,hs3,g3⟩;have:=tot L3;omega
    ·rintro c st3 (⟨r,c',rfl,hr⟩ | ⟨o',ka,kb,mg',ac',bc',rfl,L3,hs3,g3⟩)
     ·exact wpS_pure ⟨r,_,rfl,hr⟩
     ·refine wpS_bind (qE9 fun st4 g4=>?_);exact wpS_pure ⟨_,_,_,_,rfl,L3,by show _<=o'.size;omega,g3.trans g4⟩
 ·rintro c st1 ⟨out,ia,ib,mg,rfl,L,hs,g⟩;have:=tot L;omega
 ·rintro c st1 ⟨r,c',rfl,hr⟩;exact wpS_pure (h _ _ hr.1 hr.2)
end
end L2
namespace L2
open PySem PySem.Spec PyProof.Rows
def mergeHi':Array Keyed->Array Keyed->StateT SortSt Sem (Array Keyed):=sortPriv% PySem.Builtin.mergeHi
def dnH (a b out:Array Keyed) (na nb:Nat):Array Keyed:=a.extract 0 na++b.extract 0 nb++out.reverse
def fsH (a b out:Array Keyed) (na nb:Nat):Array Keyed:=b.extract 0 nb++a.extract 0 na++out.reverse
theorem mergeHi'_eq (a b:Array Keyed):mergeHi' a b=(do
 rule "list.sort.merge-hi"
 let total:=a.size+b.size
 let mut na:=a.size - 1
 let mut nb:=b.size
 let mut out:Array Keyed:=#[<-elem' a na]
 if na == 0 then return dnH a b out na nb
 if nb == 1 then return fsH a b out na nb
 let mut minGallop:=gallopOf (← get)
 for _ in [0:total] do
  let mut acount:=0
  let mut bcount:=0
  for _ in [0:total] do
   let some aWins ← lt' (← elem' b (nb - 1)) (← elem' a (na - 1)) | return dnH a b out na nb
   if aWins then
    na:=na - 1;out:=out.push (← elem' a na);acount:=acount+1;bcount:=0
    if na == 0 then return dnH a b out na nb
    if acount >= minGallop then break
   else
    nb:=nb - 1;out:=out.push (← elem' b nb);bcount:=bcount+1;acount:=0
    if nb == 1 then return fsH a b out na nb
    if bcount >= minGallop then break
  rule "list.sort.gallop"
  minGallop:=minGallop+1
  for _ in [0:total] do
   if minGallop > 1 then minGallop:=minGallop - 1
   qA5 minGallop
   let some at_ ← gallop' false (← elem' b (nb - 1)) a 0 na (na - 1) | return dnH a b out na nb
   let k:=na - at_
   acount:=k
   if k > 0 then
    out:=out++(a.extract at_ na).reverse;na:=at_
    if na == 0 then return dnH a b out na nb
   nb:=nb - 1;out:=out.push (← elem' b nb)
   if nb == 1 then return fsH a b out na nb
   let some at_ ← gallop' true (← elem' a (na - 1)) b 0 nb (nb - 1) | return dnH a b out na nb
   let k:=nb - at_
   bcount:=k
   if k > 0 then
    out:=out++(b.extract at_ nb).reverse;nb:=at_
    if nb == 1 then return fsH a b out na nb
    if nb == 0 then return dnH a b out na nb
   na:=na - 1;out:=out.push (← elem' a na)
   if na == 0 then return dnH a b out na nb
   if acount<7 && bcount<7 then break
  minGallop:=minGallop+1
  qA5 minGallop
 unsupported "internal:list.sort.merge-bound"):=rfl
def ng (rk:Keyed->Int) (x:Keyed):Int:=-rk x
theorem Dn.turn (h:Dn (ng rk) all l):Dn rk all l.reverse:=by
 refine⟨(List.reverse_perm l).trans h.1,List.pairwise_reverse.mpr (h.2.imp fun {x y} q=>?_)⟩;unfold ng at q;omega
theorem Srd.turn (h:Srd rk l):Srd (ng rk) l.reverse:=by
 refine List.pairwise_reverse.mpr (h.imp fun {x y} q=>?_);unfold ng;omega
theorem ext_from (a:Array Keyed) (n:Nat):(a.extract 0 n).toList=a.toList.take n:=by
 rw[qC7,List.drop_zero,Nat.sub_zero]
theorem dnH_list (a b out:Array Keyed) (na nb:Nat):(dnH a b out na nb).toList=(out.toList++((b.toList.take nb).reverse++(a.toList.take na).reverse)).reverse:=by
 unfold dnH;simp[ext_from]
theorem fsH_list (a b out:Array Keyed) (na nb:Nat):(fsH a b out na nb).toList=(out.toList++((a.toList.take na).reverse++(b.toList.take nb).reverse)).reverse:=by
 unfold fsH;simp[ext_from]
theorem qDg (a:Array Keyed) (h:n<a.size):∃ x,a[n]?=some x/\x∈a.toList/\(a.toList.take (n+1)).reverse=x :: (a.toList.take n).reverse:=by
 refine⟨a[n],by simp[h],by simp,?_⟩;rw[List.take_succ_eq_append_getElem (by simpa using h)];simp
theorem ext_hi {a:Array Keyed} {n:Nat} {l1 l2:List Keyed} (hn:n<=a.size) (e:a.toList.take n=l1++l2):(a.extract l1.length n).toList=l2/\a.toList.take l1.length=l1/\l1.length+l2.length=n:=by
 have ln:l1.length+l2.length=n:=by
  have:(a.toList.take n).length=l1.length+l2.length:=by rw[e];simp
  rw[hAj]at this;simp at this;omega
 refine⟨?_,?_,ln⟩
 ·rw[qC7,<-List.drop_take,e,hD0];rfl
 ·have:(a.toList.take n).take l1.length=l1:=by rw[e,hCz];rfl
  rw[List.take_take,Nat.min_eq_left (by omega)]at this;exact this
section
variable {prog:Program} {w:World} {A:Around} {E:Value->Shared->Prop} {s:Shared} {rk:Keyed->Int} {kd:SortKind} {D:Keyed->Prop}
abbrev H7:=ForInStep (Option (Array Keyed)×Nat×Nat×Array Keyed×Nat×Nat×Nat)
def gh4 (a b:Array Keyed) (ac bc mg:Nat) (out:Array Keyed) (na nb:Nat):StateT SortSt Sem H7:=do
 let x ← elem' a (na - 1)
 if (na - 1 == 0)=true then pure (.done (some (dnH a b (out.push x) (na - 1) nb),na - 1,nb,out.push x,mg,ac,bc))
 else if (decide (ac<7) && decide (bc<7))=true then pure (.done (none,na - 1,nb,out.push x,mg,ac,bc))
 else pure (.yield (none,na - 1,nb,out.push x,mg,ac,bc))
def gh3 (a b:Array Keyed) (ac mg:Nat) (out:Array Keyed) (na nb bc0:Nat):StateT SortSt Sem H7:=do
 let y ← elem' b (nb - 1)
 if (nb - 1 == 1)=true then pure (.done (some (fsH a b (out.push y) na (nb - 1)),na,nb - 1,out.push y,mg,ac,bc0))
 else
  let x ← elem' a (na - 1)
  let some k ← gallop' true x b 0 (nb - 1) (nb - 1 - 1) | pure (.done (some (dnH a b (out.push y) na (nb - 1)),na,nb - 1,out.push y,mg,ac,bc0))
  if nb - 1 - k > 0 then
    if (k == 1)=true then pure (.done (some (fsH a b (out.push y++(b.extract k (nb - 1)).reverse) na k),na,k,out.push y++(b.extract k (nb - 1)).reverse,mg,ac,nb - 1 - k))
    else if (k == 0)=true then pure (.done (some (dnH a b (out.push y++(b.extract k (nb - 1)).reverse) na k),na,k,out.push y++(b.extract k (nb - 1)).reverse,mg,ac,nb - 1 - k))
    else gh4 a b ac (nb - 1 - k) mg (out.push y++(b.extract k (nb - 1)).reverse) na k
  else gh4 a b ac (nb - 1 - k) mg (out.push y) na (nb - 1)
def gh2 (a b:Array Keyed) (mg:Nat) (out:Array Keyed) (na nb ac0 bc0:Nat):StateT SortSt Sem H7:=do
 qA5 mg
 let y ← elem' b (nb - 1)
 let some k ← gallop' false y a 0 na (na - 1) | pure (.done (some (dnH a b out na nb),na,nb,out,mg,ac0,bc0))
 if na - k > 0 then
   if (k == 0)=true then pure (.done (some (dnH a b (out++(a.extract k na).reverse) k nb),k,nb,out++(a.extract k na).reverse,mg,na - k,bc0))
   else gh3 a b (na - k) mg (out++(a.extract k na).reverse) k nb bc0
 else gh3 a b (na - k) mg out na nb bc0
def ghT (a b:Array Keyed) (c:Option (Array Keyed)×Nat×Nat×Array Keyed×Nat×Nat×Nat):StateT SortSt Sem H7 :=
 if c.2.2.2.2.1 > 1 then gh2 a b (c.2.2.2.2.1 - 1) c.2.2.2.1 c.2.1 c.2.2.1 c.2.2.2.2.2.1 c.2.2.2.2.2.2 else gh2 a b c.2.2.2.2.1 c.2.2.2.1 c.2.1 c.2.2.1 c.2.2.2.2.2.1 c.2.2.2.2.2.2
abbrev HM (rk:Keyed->Int) (a b out:Array Keyed) (na nb:Nat):Prop:=MI (ng rk) (a.toList++b.toList) (a.toList.take na).reverse (b.toList.take nb).reverse out.toList
structure Hi (rk:Keyed->Int) (a b out:Array Keyed) (na nb:Nat):Prop where
 mi:HM rk a b out na nb
 ha:0<na
 hb:1<nb
 za:na<=a.size
 zb:nb<=b.size
theorem Hi.dn (m:HM rk a b out na nb) (h:na=0\/nb=0):Dn rk (a.toList++b.toList) (dnH a b out na nb).toList:=by
 rw[dnH_list];refine Dn.turn (m.symm.fin fun x hx y hy=>?_);rcases h with h | h
 ·subst h;cases hy
 ·subst h;cases hx
theorem Hi.fs (m:HM rk a b out na nb) (h:nb=1) (lo:∀ y∈b.toList.take 1,∀ x∈a.toList,rk y<=rk x):Dn rk (a.toList++b.toList) (fsH a b out na nb).toList:=by
 rw[fsH_list];refine Dn.turn (m.fin fun x hx y hy=>?_);subst h;have:=lo y (hCv.mp hy) x (hDk (hCv.mp hx));unfold ng;omega
theorem wp_gh4 {a b out:Array Keyed} {ac bc mg na nb:Nat} {st st0:SortSt} {Q:H7->SortSt->Prop} (L:Hi rk a b out na nb) (lt:∀ x,a[na - 1]?=some x->∀ y∈b.toList.take nb,rk y<=rk x) (g:Gal st0 st)
  (hd:∀ r c,LoT rk a b st0 r st->Q (.done (some r,c)) st) (hn:∀ out' na' mg ac bc,Hi rk a b out' na' nb->out.size<out'.size->Q (.done (none,na',nb,out',mg,ac,bc)) st/\Q (.yield (none,na',nb,out',mg,ac,bc)) st) :
  wpS (model prog w) A E s (gh4 a b ac bc mg out na nb) Q st:=by
 have h1:=L.ha;have h3:=L.za;obtain⟨x,e,ex,ed⟩:=qDg a (n:=na - 1) (by omega);rw[show na - 1+1=na by omega]at ed;have m:HM rk a b (out.push x) (na - 1) nb:=by
  have m:=L.mi;unfold HM at m ⊢;rw[ed]at m;rw[hBl];exact MI.as (xs:=[x]) m fun z hz y hy=>by
   rw[hA7.mp hz];have:=lt x e y (hCv.mp hy);unfold ng;omega
 unfold gh4;refine wpS_bind (qAx e ?_);by_cases c:(na - 1 == 0)=true
 ·rw[if_pos c];exact wpS_pure (hd _ _ ⟨g,Hi.dn m (.inl (eq_of_beq c))⟩)
 ·rw[if_neg c];have c':na - 1≠0:=by simpa using c
  have:=hn (out.push x) (na - 1) mg ac bc ⟨m,by omega,L.hb,by omega,L.zb⟩ (by simp);split
  ·exact wpS_pure this.1
  ·exact wpS_pure this.2
theorem wp_gh3 (ak:qGl prog w A E s rk kd D) {a b out:Array Keyed} {ac mg bc0 na nb:Nat} {st st0:SortSt} {Q:H7->SortSt->Prop} (hk:kindOf st=kd) (da:∀ x∈a.toList,D x) (db:∀ x∈b.toList,D x) (sb:Srd rk b.toList) (L:Hi rk a b out na nb) (lt:∀ y,b[nb - 1]?=some y->∀ x∈a.toList.take na,rk x<=rk y) (lo:∀ y∈b.toList.take 1,∀ x∈a.toList,rk y<=rk x) (g:Gal st0 st)
  (hd:∀ r c,LoT rk a b st0 r st->Q (.done (some r,c)) st) (hn:∀ out' na' nb' mg ac bc,Hi rk a b out' na' nb'->out.size<out'.size->Q (.done (none,na',nb',out',mg,ac,bc)) st/\Q (.yield (none,na',nb',out',mg,ac,bc)) st) :
  wpS (model prog w) A E s (gh3 a b ac mg out na nb bc0) Q st:=by
 have h1:=L.ha;have h2:=L.hb;have h3:=L.za;have h4:=L.zb;obtain⟨y,e,ey,ed⟩:=qDg b (n:=nb - 1) (by omega);rw[show nb - 1+1=nb by omega]at ed;obtain⟨x,f,fx,fd⟩:=qDg a (n:=na - 1) (by omega);rw[show na - 1+1=na by omega]at fd;have m:HM rk a b (out.push y) na (nb - 1):=by
  have m:=L.mi;unfold HM at m ⊢;rw[ed]at m;rw[hBl];exact MI.bs (xs:=[y]) m fun z hz x hx=>by
   rw[hA7.mp hz];have:=lt y e x (hCv.mp hx);unfold ng;omega
 have sh:=qB0 (fd▸m.sa);unfold gh3;refine wpS_bind (qAx e ?_);by_cases c:(nb - 1 == 1)=true
 ·rw[if_pos c];exact wpS_pure (hd _ _ ⟨g,Hi.fs m (eq_of_beq c) lo⟩)
 ·rw[if_neg c];have c':nb - 1≠1:=by simpa using c
  refine wpS_bind (qAx f ?_);refine wpS_bind (qEb ak (l:=b.toList.take (nb - 1)) hk (da x fx) (by rw[List.drop_zero]) (by simp;omega) (fun z hz=>db z (hDk hz)) (List.Pairwise.sublist (List.take_sublist _ _) sb) (by omega) fun l1 l2 el p1 p2=>?_);have q1:∀ z∈l1,rk z<rk x:=fun z hz=>by simpa [gP] using p1 z hz
  have q2:∀ z∈l2,rk x<=rk z:=fun z hz=>by
   have:=p2 z hz;simp[gP]at this;exact this
  obtain⟨X1,X2,X3⟩:=ext_hi (by omega) el;dsimp only;by_cases k0:nb - 1 - l1.length > 0
  ·rw[if_pos k0];have m2:HM rk a b (out.push y++(b.extract l1.length (nb - 1)).reverse) na l1.length:=by
    unfold HM at m ⊢;rw[hBh,Array.toList_reverse,X1,X2];rw[el,List.reverse_append]at m;exact m.bs fun z hz x' hx'=>by
     have a1:=q2 z (hCv.mp hz);have a2:=sh x' (fd▸hx');unfold ng at a2 ⊢;omega
   by_cases d:(l1.length == 1)=true
   ·rw[if_pos d];exact wpS_pure (hd _ _ ⟨g,Hi.fs m2 (eq_of_beq d) lo⟩)
   ·rw[if_neg d];by_cases d2:(l1.length == 0)=true
    ·rw[if_pos d2];exact wpS_pure (hd _ _ ⟨g,Hi.dn m2 (.inr (eq_of_beq d2))⟩)
    ·rw[if_neg d2];have d':l1.length≠1:=by simpa using d
     have d2':l1.length≠0:=fun z=>d2 (by rw[z];rfl)
     refine wp_gh4 ⟨m2,h1,by omega,h3,by omega⟩ (fun z hz y hy=>?_) g hd fun o i mg ac bc L' hs=>hn o i _ mg ac bc L' ?_
     ·rw[X2]at hy;rw[f]at hz;cases hz;exact hDi (q1 y hy)
     ·simp at hs;omega
  ·rw[if_neg k0];have n1:l2=[]:=hAy.mp (by omega);subst n1;refine wp_gh4 ⟨m,h1,by omega,h3,by omega⟩ (fun z hz y hy=>?_) g hd fun o i mg ac bc L' hs=>hn o i _ mg ac bc L' ?_
   ·rw[el,hBi]at hy;rw[f]at hz;cases hz;exact hDi (q1 y hy)
   ·simp at hs;omega
theorem wp_gh2 (ak:qGl prog w A E s rk kd D) {a b out:Array Keyed} {mg ac0 bc0 na nb:Nat} {st st0:SortSt} {Q:H7->SortSt->Prop} (hk:kindOf st0=kd) (da:∀ x∈a.toList,D x) (db:∀ x∈b.toList,D x) (sa:Srd rk a.toList) (sb:Srd rk b.toList) (L:Hi rk a b out na nb) (lo:∀ y∈b.toList.take 1,∀ x∈a.toList,rk y<=rk x) (g:Gal st0 st)
  (hd:∀ r c st,LoT rk a b st0 r st->Q (.done (some r,c)) st) (hn:∀ out' na' nb' mg ac bc st,Gal st0 st->Hi rk a b out' na' nb'->out.size<out'.size->Q (.done (none,na',nb',out',mg,ac,bc)) st/\Q (.yield (none,na',nb',out',mg,ac,bc)) st) :
  wpS (model prog w) A E s (gh2 a b mg out na nb ac0 bc0) Q st:=by
 have h1:=L.ha;have h2:=L.hb;have h3:=L.za;have h4:=L.zb;have m:=L.mi;obtain⟨y,e,ey,ed⟩:=qDg b (n:=nb - 1) (by omega);rw[show nb - 1+1=nb by omega]at ed;have sh:=qB0 (ed▸m.sb);unfold gh2;refine wpS_bind (qE9 fun st1 g1=>?_);have g':=g.trans g1;refine wpS_bind (qAx e ?_);refine wpS_bind (qEb ak (l:=a.toList.take na) (g'.1.trans hk) (db y ey) (by rw[List.drop_zero]) (by simp;omega) (fun z hz=>da z (hDk hz)) (List.Pairwise.sublist (List.take_sublist _ _) sa) (by omega) fun l1 l2 el p1 p2=>?_);have q1:∀ z∈l1,rk z<=rk y:=fun z hz=>by simpa [gP] using p1 z hz
 have q2:∀ z∈l2,rk y<rk z:=fun z hz=>by simpa [gP] using p2 z hz
 obtain⟨X1,X2,X3⟩:=ext_hi (by omega) el;dsimp only;by_cases k0:na - l1.length > 0
 ·rw[if_pos k0];have m2:HM rk a b (out++(a.extract l1.length na).reverse) l1.length nb:=by
   unfold HM at m ⊢;rw[hBh,Array.toList_reverse,X1,X2];rw[el,List.reverse_append]at m;exact m.as fun z hz x' hx'=>by
    have a1:=q2 z (hCv.mp hz);have a2:=sh x' (ed▸hx');unfold ng at a2 ⊢;omega
  by_cases d2:(l1.length == 0)=true
  ·rw[if_pos d2];exact wpS_pure (hd _ _ _ ⟨g',Hi.dn m2 (.inl (eq_of_beq d2))⟩)
  ·rw[if_neg d2];have d2':l1.length≠0:=fun z=>d2 (by rw[z];rfl)
   refine wp_gh3 ak (g'.1.trans hk) da db sb ⟨m2,by omega,h2,by omega,h4⟩ (fun z hz x hx=>?_) lo g' (fun r c=>hd r c _) fun o i j mg ac bc L' hs=>hn o i j mg ac bc _ g' L' ?_
   ·rw[X2]at hx;rw[e]at hz;cases hz;exact q1 x hx
   ·simp at hs;omega
 ·rw[if_neg k0];have n1:l2=[]:=hAy.mp (by omega);subst n1;refine wp_gh3 ak (g'.1.trans hk) da db sb L (fun z hz x hx=>?_) lo g' (fun r c=>hd r c _) fun o i j mg ac bc L' hs=>hn o i j mg ac bc _ g' L' hs
  rw[el,hBi]at hx;rw[e]at hz;cases hz;exact q1 x hx
theorem wpS_mergeHi (ak:qGl prog w A E s rk kd D) {a b:Array Keyed} {st:SortSt} {Q:Array Keyed->SortSt->Prop} (hk:kindOf st=kd) (da:∀ x∈a.toList,D x) (db:∀ x∈b.toList,D x) (sa:Srd rk a.toList) (sb:Srd rk b.toList) (h1:1<=a.size) (h2:1<=b.size)
  (lo:∀ y∈b.toList.take 1,∀ x∈a.toList,rk y<=rk x) (hi:∀ x∈a.toList.drop (a.size - 1),∀ y∈b.toList,rk y<=rk x) (h:∀ r st',Gal st st'->Dn rk (a.toList++b.toList) r.toList->Q r st'):wpS (model prog w) A E s (mergeHi' a b) Q st:=by
 rw[mergeHi'_eq];refine wpS_bind (wpS_lift (wpAny_rule ⟨rfl,?_⟩));obtain⟨x,e,ex,ed⟩:=qDg a (n:=a.size - 1) (by omega);rw[show a.size - 1+1=a.size by omega]at ed;refine wpS_bind (qAx e ?_);have m:HM rk a b #[x] (a.size - 1) b.size:=by
  have m0:MI (ng rk) (a.toList++b.toList) (a.toList.take a.size).reverse (b.toList.take b.size).reverse []:=by
   have ea:a.toList.take a.size=a.toList:=hA8 (by simp);have eb:b.toList.take b.size=b.toList:=hA8 (by simp);rw[ea,eb];refine⟨?_,List.Pairwise.nil,sa.turn,sb.turn,fun x hx=>(by cases hx),fun x hx=>(by cases hx)⟩;exact((List.reverse_perm _).append (List.reverse_perm _))
  rw[ed]at m0;refine MI.as (xs:=[x]) m0 fun z hz y hy=>?_
  rw[hA7.mp hz];have:=hi x ?_ y (hDk (hCv.mp hy))
  ·unfold ng;omega
  ·obtain⟨x',e',_,ed'⟩:=qE1 a (i:=a.size - 1) (by omega);rw[e]at e';cases e';rw[ed'];exact hA3 ..
 by_cases e1:(a.size - 1 == 0)=true
 ·rw[if_pos e1];exact wpS_pure (h _ _ (Gal.refl _) (Hi.dn m (.inl (eq_of_beq e1))))
 rw[if_neg e1];by_cases e2:(b.size == 1)=true
 ·rw[if_pos e2];exact wpS_pure (h _ _ (Gal.refl _) (Hi.fs m (eq_of_beq e2) lo))
 rw[if_neg e2];have e1':a.size - 1≠0:=fun z=>e1 (by rw[z];rfl)
 have e2':b.size≠1:=fun z=>e2 (by rw[z];rfl)
 refine wpS_bind (wpS_get ?_);have tot:∀ {o:Array Keyed} {i j:Nat},Hi rk a b o i j->o.size+3<=a.size+b.size:=fun {o i j} L=>by
  have:=L.mi.len;have:=L.ha;have:=L.hb;have:=L.za;have:=L.zb;simp at *;omega
 refine wpS_bind (wpS_mono (wpS_forRange (I:=fun x c st'=>∃ out na nb mg,c=(none,na,nb,out,mg)/\Hi rk a b out na nb/\x+1<=out.size/\Gal st st')
  (Q:=fun c st'=>∃ r c',c=(some r,c')/\LoT rk a b st r st') ?_ ?_ ⟨_,_,_,_,rfl,⟨m,by omega,by omega,by omega,hA5 _⟩,by simp,Gal.refl _⟩) ?_)
 ·rintro x c st1 _ hx ⟨out,ia,ib,mg,rfl,L,hs,g⟩;refine wpS_bind (wpS_mono (wpS_forRange (I:=fun y c st'=>∃ o ia ib ac bc,c=(none,ia,ib,o,ac,bc)/\Hi rk a b o ia ib/\out.size+y<=o.size/\Gal st st')
   (Q:=fun c st'=>(∃ r c',c=(some r,c')/\LoT rk a b st r st')\/∃ o ia ib ac bc,c=(none,ia,ib,o,ac,bc)/\Hi rk a b o ia ib/\out.size<o.size/\Gal st st') ?_ ?_ ⟨_,_,_,_,_,rfl,L,hA5 _,g⟩) ?_)
  ·rintro y c st2 _ hy ⟨o,ja,jb,ac,bc,rfl,L2,hs2,g2⟩;have h1:=L2.ha;have h2:=L2.hb;have h3:=L2.za;have h4:=L2.zb;have m:=L2.mi;obtain⟨v,f,fv,fd⟩:=qDg b (n:=jb - 1) (by omega);rw[show jb - 1+1=jb by omega]at fd;obtain⟨u,p,pu,pd⟩:=qDg a (n:=ja - 1) (by omega);rw[show ja - 1+1=ja by omega]at pd;refine wpS_bind (qAx f ?_);refine wpS_bind (qAx p ?_);refine wpS_bind (ak v u (db v fv) (da u pu) _ _ (g2.1.trans hk) ?_);have sv:=qB0 (fd▸m.sb);have su:=qB0 (pd▸m.sa);unfold ng at sv su;by_cases c:rk v<rk u
   ·rw[decide_eq_true c];have m2:HM rk a b (o.push u) (ja - 1) jb:=by
     unfold HM at m ⊢;rw[pd]at m;rw[hBl];refine MI.as (xs:=[u]) m fun z hz x hx=>?_
     rw[hA7.mp hz];have:=sv x (fd▸hx);unfold ng;omega
    dsimp only;rw[if_pos rfl];refine wpS_bind (qAx p ?_);by_cases q:(ja - 1 == 0)=true
    ·rw[if_pos q];exact wpS_pure (.inl ⟨_,_,rfl,g2,Hi.dn m2 (.inl (eq_of_beq q))⟩)
    ·rw[if_neg q];have q':ja - 1≠0:=fun z=>q (by rw[z];rfl)
     split
     ·exact wpS_pure (.inr ⟨_,_,_,_,_,rfl,⟨m2,by omega,h2,by omega,h4⟩,by simp;omega,g2⟩)
     ·exact wpS_pure ⟨_,_,_,_,_,rfl,⟨m2,by omega,h2,by omega,h4⟩,by simp;omega,g2⟩
   ·rw[decide_eq_false c];have m2:HM rk a b (o.push v) ja (jb - 1):=by
     unfold HM at m ⊢;rw[fd]at m;rw[hBl];refine MI.bs (xs:=[v]) m fun z hz x hx=>?_
     rw[hA7.mp hz];have:=su x (pd▸hx);unfold ng;omega
    dsimp only;rw[if_neg (by decide)];refine wpS_bind (qAx f ?_);by_cases q:(jb - 1 == 1)=true
    ·rw[if_pos q];exact wpS_pure (.inl ⟨_,_,rfl,g2,Hi.fs m2 (eq_of_beq q) lo⟩)
    ·rw[if_neg q];have q':jb - 1≠1:=fun z=>q (by rw[z];rfl)
     split
     ·exact wpS_pure (.inr ⟨_,_,_,_,_,rfl,⟨m2,h1,by omega,h3,by omega⟩,by simp;omega,g2⟩)
     ·exact wpS_pure ⟨_,_,_,_,_,rfl,⟨m2,h1,by omega,h3,by omega⟩,by simp;omega,g2⟩
  ·rintro c st2 ⟨o,ja,jb,ac,bc,rfl,L2,hs2,g2⟩;have:=tot L2;omega
  ·rintro c st2 (⟨r,c',rfl,hr⟩ | ⟨o,ja,jb,ac,bc,rfl,L2,hs2,g2⟩)
   ·exact wpS_pure ⟨r,_,rfl,hr⟩
   ·refine wpS_bind (wpS_lift (wpAny_rule ⟨rfl,?_⟩));refine wpS_bind (wpS_mono (wpS_forRange (I:=fun y c st'=>∃ o' ia ib mg ac bc,c=(none,ia,ib,o',mg,ac,bc)/\Hi rk a b o' ia ib/\o.size+y<=o'.size/\Gal st st')
     (Q:=fun c st'=>(∃ r c',c=(some r,c')/\LoT rk a b st r st')\/∃ o' ia ib mg ac bc,c=(none,ia,ib,o',mg,ac,bc)/\Hi rk a b o' ia ib/\o.size<=o'.size/\Gal st st') ?_ ?_ ⟨_,_,_,_,_,_,rfl,L2,hA5 _,g2⟩) ?_)
    ·rintro y c st3 _ hy ⟨o',ka,kb,mg',ac',bc',rfl,L3,hs3,g3⟩;have one:∀ mg,wpS (model prog w) A E s (gh2 a b mg o' ka kb ac' bc') (fun r st'=>match r with | .done c'=>(∃ r c'',c'=(some r,c'')/\LoT rk a b st r st')\/∃ o' ia ib mg ac bc,c'=(none,ia,ib,o',mg,ac,bc)/\Hi rk a b o' ia ib/\o.size<=o'.size/\Gal st st' | .yield c'=>∃ o' ia ib mg ac bc,c'=(none,ia,ib,o',mg,ac,bc)/\Hi rk a b o' ia ib/\o.size+(y+1)<=o'.size/\Gal st st') st3:=fun mg =>
      wp_gh2 ak hk da db sa sb L3 lo g3 (fun r c st5 hr=>.inl ⟨r,c,rfl,hr⟩) fun o6 i j mg6 ac6 bc6 st6 g6 L6 hs6=>⟨.inr ⟨_,_,_,_,_,_,rfl,L6,by omega,g6⟩,⟨_,_,_,_,_,_,rfl,L6,by omega,g6⟩⟩
     refine wpS_mono (m:=ghT a b (none,ka,kb,o',mg',ac',bc')) ?_ (fun r st' hr=>?_) (Q:=fun r st'=>match r with | .done c'=>(∃ r c'',c'=(some r,c'')/\LoT rk a b st r st')\/∃ o' ia ib mg ac bc,c'=(none,ia,ib,o',mg,ac,bc)/\Hi rk a b o' ia ib/\o.size<=o'.size/\Gal st st' | .yield c'=>∃ o' ia ib mg ac bc,c'=(none,ia,ib,o',mg,ac,bc)/\Hi rk a b o' ia ib/\o.size+(y+1)<=o'.size/\Gal st st')
     ·unfold ghT;split
      ·exact one _
      ·exact one _
     ·cases r with
      | done c'=>exact hr
      | yield c'=>exact hr
    ·rintro c st3 ⟨o',ka,kb,mg',ac',bc',rfl,L3,hs3,g3⟩;have:=tot L3;omega
    ·rintro c st3 (⟨r,c',rfl,hr⟩ | ⟨o',ka,kb,mg',ac',bc',rfl,L3,hs3,g3⟩)
     ·exact wpS_pure ⟨r,_,rfl,hr⟩
     ·refine wpS_bind (qE9 fun st4 g4=>?_);exact wpS_pure ⟨_,_,_,_,rfl,L3,by show _<=o'.size;omega,g3.trans g4⟩
 ·rintro c st1 ⟨out,ia,ib,mg,rfl,L,hs,g⟩;have:=tot L;omega
 ·rintro c st1 ⟨r,c',rfl,hr⟩;exact wpS_pure (h _ _ hr.1 hr.2)
end
end L2
namespace L2
open PySem PySem.Spec PyProof.Rows
def wrA (m:Array Keyed) (s:Nat) (a:Array Keyed):Array Keyed:=m.toList.zipIdx.foldl (fun a (p,j)=>a.setIfInBounds (s+j) p) a
theorem mergeAt'_eq (i:Nat):mergeAt' i=(do
 let s ← get
 let (some (sa,na,power),some (sb,nb,_)):=((pendingOf s)[i]?,(pendingOf s)[i+1]?) | unsupported "internal:list.sort.pending"
 set (setPending s (((pendingOf s).setIfInBounds i (sa,na+nb,power)).eraseIdxIfInBounds (i+1)))
 let some k ← gallop' false (← elem' (arrOf s) sb) (arrOf s) sa na 0 | return false
 let (sa,na):=(sa+k,na - k)
 if na == 0 then return true
 let some nb ← gallop' true (← elem' (arrOf s) (sa+na - 1)) (arrOf s) sb nb (nb - 1) | return false
 if nb == 0 then return true
 let x:=(arrOf s).extract sa sb
 let y:=(arrOf s).extract sb (sb+nb)
 let merged ← if na<=nb then mergeLo' x y else mergeHi' x y
 modify fun s=>setArr s (wrA merged sa (arrOf s))
 return (failedOf (← get)).isNone):=rfl
theorem wr_list (s:Nat):∀ (l:List Keyed) (k:Nat) (a:Array Keyed),s+k+l.length<=a.size->((l.zipIdx k).foldl (fun a (p,j)=>a.setIfInBounds (s+j) p) a).toList=a.toList.take (s+k)++(l++a.toList.drop (s+k+l.length))
 | [],k,a,h=>by simp
 | p :: l,k,a,h=>by
  rw[List.zipIdx_cons,List.foldl_cons];have hl:s+k+(l.length+1)<=a.size:=h;rw[wr_list s l (k+1) _ (by simp;omega)];have e:(a.setIfInBounds (s+k) p).toList=a.toList.set (s+k) p:=Array.toList_setIfInBounds ..;rw[e];have hs:s+k<a.toList.length:=by simp;omega
  have e1:(a.toList.set (s+k) p).take (s+(k+1))=a.toList.take (s+k)++[p]:=by
   rw[show s+(k+1)=s+k+1 by omega,List.take_succ_eq_append_getElem (by simpa using hs),List.take_set_of_le (hA5 _)];simp
  have e2:(a.toList.set (s+k) p).drop (s+(k+1)+l.length)=a.toList.drop (s+k+(p :: l).length):=by
   rw[List.drop_set_of_lt (by omega)];congr 1;simp;omega
  rw[e1,e2];simp
theorem wr_app (e:a.toList=P++(X++S)) (hm:m.toList=M) (hl:M.length=X.length):(wrA m P.length a).toList=P++(M++S):=by
 subst hm;have sz:a.size=P.length+(X.length+S.length):=by
  rw[<-hB0,e];simp
 unfold wrA;rw[wr_list P.length m.toList 0 a (by omega),e,Nat.add_zero,hCz,hl]
 ·congr 2;rw[<-hBd,hD0];simp
 ·rfl
section
variable {prog:Program} {w:World} {A:Around} {E:Value->Shared->Prop} {s:Shared} {rk:Keyed->Int} {kd:SortKind} {D:Keyed->Prop}
theorem wpS_set {σ:Type} {M:Model} {st st':σ} {Q:PUnit->σ->Prop} (h:Q ⟨⟩ st'):wpS M A E s (set st':StateT σ Sem PUnit) Q st:=by
 unfold wpS;rw[StateT.run_set];exact wpAny_pure ⟨rfl,h⟩
theorem at_app {a:Array Keyed} {P S:List Keyed} {x:Keyed} (e:a.toList=P++x :: S):a[P.length]?=some x:=by
 rw[<-hAp,e,hBy (hA5 _)];simp
theorem wpS_mergeAt (ak:qGl prog w A E s rk kd D) {i:Nat} {st:SortSt} {Q:Bool->SortSt->Prop} {P X Y S:List Keyed} {pw q:Nat} (hk:kindOf st=kd) (hf:failedOf st=none) (e:(arrOf st).toList=P++(X++(Y++S))) (d:∀ x∈(arrOf st).toList,D x)
  (p1:(pendingOf st)[i]?=some (P.length,X.length,pw)) (p2:(pendingOf st)[i+1]?=some (P.length+X.length,Y.length,q)) (sX:Srd rk X) (sY:Srd rk Y) (nX:X≠[]) (nY:Y≠[])
  (h:∀ st' M,kindOf st'=kd->failedOf st'=none->pendingOf st'=((pendingOf st).setIfInBounds i (P.length,X.length+Y.length,pw)).eraseIdxIfInBounds (i+1)->(arrOf st').toList=P++(M++S)->Dn rk (X++Y) M->Q true st'):wpS (model prog w) A E s (mergeAt' i) Q st:=by
 rw[mergeAt'_eq];refine wpS_bind (wpS_get ?_);rw[p1,p2];dsimp only;refine wpS_bind (wpS_set ?_);obtain⟨b0,Y',eY⟩:=List.exists_cons_of_ne_nil nY;have sb0:=qB0 (eY▸sY);rw[<-eY]at sb0;have eb:(arrOf st)[P.length+X.length]?=some b0:=by
  have:=at_app (a:=arrOf st) (P:=P++X) (x:=b0) (S:=Y'++S) (by rw[e,eY];simp)
  simpa using this
 have dX:∀ x∈X,D x:=fun x hx=>d x (by rw[e];simp[hx])
 have dY:∀ x∈Y,D x:=fun x hx=>d x (by rw[e];simp[hx])
 have mb:b0∈Y:=by rw[eY];exact hA3 ..
 refine wpS_bind (qAx eb ?_);refine wpS_bind (qEb ak (l:=X) hk (dY _ mb) (by rw[e,hD0 rfl,hCz rfl]) rfl dX sX (hCr.mpr nX) fun l1 l2 el q1 q2=>?_);have r1:∀ z∈l1,rk z<=rk b0:=fun z hz=>by simpa [gP] using q1 z hz
 have r2:∀ z∈l2,rk b0<rk z:=fun z hz=>by simpa [gP] using q2 z hz
 have lX:X.length=l1.length+l2.length:=by rw[el];simp
 have plain:(∀ x∈X,∀ y∈Y,rk x<=rk y)->Dn rk (X++Y) (X++Y):=fun c=>⟨hCm _,hAz.mpr ⟨sX,sY,c⟩⟩
 dsimp only;by_cases c:(X.length - l1.length == 0)=true
 ·rw[if_pos c];have c':X.length - l1.length=0:=eq_of_beq c;have n2:l2=[]:=hAy.mp (by omega);rw[n2,hBi]at el;exact wpS_pure (h _ (X++Y) hk hf rfl (by rw[hBd];exact e) (plain fun x hx y hy=>Int.le_trans (r1 x (el▸hx)) (sb0 y hy)))
 ·rw[if_neg c];have c':X.length - l1.length≠0:=fun z=>c (by rw[z];rfl)
  obtain⟨l3,z,e3⟩:∃ l3 z,l2=l3++[z]:=by
   rcases List.eq_nil_or_concat l2 with z | ⟨l3,z,hz⟩
   ·rw[z]at lX;simp at lX;omega
   ·exact⟨l3,z,by simpa using hz⟩
  have ez:(arrOf st)[P.length+l1.length+(X.length - l1.length) - 1]?=some z:=by
   have:=at_app (a:=arrOf st) (P:=P++l1++l3) (x:=z) (S:=Y++S) (by rw[e,el,e3];simp);rw[<-this];congr 1;have:l2.length=l3.length+1:=by rw[e3];simp
   simp;omega
  have mz:z∈X:=by rw[el,e3];simp
  have topz:∀ x∈X,rk x<=rk z:=fun x hx=>by
   have e4:X=(l1++l3)++[z]:=by rw[el,e3];simp
   rw[e4]at hx sX;rcases hAe.mp hx with hx | hx
   ·exact(hAz.mp sX).2.2 x hx z (hA7.mpr rfl)
   ·rw[hA7.mp hx];exact hD5 _
  refine wpS_bind (qAx ez ?_);refine wpS_bind (qEb ak (l:=Y) hk (dX _ mz) (by rw[e,<-hBd,hD0 (by simp),hCz rfl]) rfl dY sY (by have:=hCr.mpr nY;omega) fun m1 m2 em t1 t2=>?_);have u1:∀ y∈m1,rk y<rk z:=fun y hy=>by simpa [gP] using t1 y hy
  have u2:∀ y∈m2,rk z<=rk y:=fun y hy=>by
   have:=t2 y hy;simp[gP]at this;exact this
  dsimp only;by_cases f:(m1.length == 0)=true
  ·rw[if_pos f];have n1:m1=[]:=hAy.mp (eq_of_beq f);rw[n1,List.nil_append]at em;exact wpS_pure (h _ (X++Y) hk hf rfl (by rw[hBd];exact e) (plain fun x hx y hy=>Int.le_trans (topz x hx) (u2 y (em▸hy))))
  ·rw[if_neg f];have f':m1.length≠0:=fun z=>f (by rw[z];rfl)
   have ex:((arrOf st).extract (P.length+l1.length) (P.length+X.length)).toList=l2:=by
    rw[qC7,e,el,show P++((l1++l2)++(Y++S))=(P++l1)++(l2++(Y++S)) by simp,hD0 (by simp),hCz (by simp;omega)]
   have ey:((arrOf st).extract (P.length+X.length) (P.length+X.length+m1.length)).toList=m1:=by
    rw[qC7,e,em,show P++(X++((m1++m2)++S))=(P++X)++(m1++(m2++S)) by simp,hD0 (by simp),hCz (by omega)]
   have sx:((arrOf st).extract (P.length+l1.length) (P.length+X.length)).size=l2.length:=by rw[<-hB0,ex]
   have sy:((arrOf st).extract (P.length+X.length) (P.length+X.length+m1.length)).size=m1.length:=by rw[<-hB0,ey]
   have s2:Srd rk l2:=(hAz.mp (el▸sX)).2.1;have t2':Srd rk m1:=(hAz.mp (em▸sY)).1;have i1:∀ x∈l2,x∈X:=fun x hx=>by rw[el];exact hA6 _ hx
   have i2:∀ x∈m1,x∈Y:=fun x hx=>by rw[em];exact hAn _ hx
   have lo:∀ y∈m1.take 1,∀ x∈l2,rk y<=rk x:=fun y hy x hx=>by
    have:y=b0:=by
     cases m1 with
     | nil=>cases hy
     | cons v m1 =>
      rw[eY]at em;injection em with e5 _
      rw[e5]
      simpa using hy
    rw[this];exact hDi (r2 x hx)
   have hi:∀ x∈l2.drop (l2.length - 1),∀ y∈m1,rk y<=rk x:=fun x hx y hy=>by
    have:x=z:=by
     rw[e3]at hx
     simpa using hx
    rw[this];exact hDi (u1 y hy)
   have post:∀ (r:Array Keyed) (st':SortSt),Gal (setPending st (((pendingOf st).setIfInBounds i (P.length,X.length+Y.length,pw)).eraseIdxIfInBounds (i+1))) st'->Dn rk (l2++m1) r.toList->wpS (model prog w) A E s (do modify fun s=>setArr s (wrA r (P.length+l1.length) (arrOf s));return (failedOf (← get)).isNone) Q st':=fun r st' g dn=>by
    refine wpS_bind (wpS_modify ?_);refine wpS_bind (wpS_get ?_);have ef:failedOf st'=none:=g.2.2.2.trans hf;have ea:(arrOf st').toList=(P++l1)++((l2++m1)++(m2++S)):=by
     rw[g.2.1];show(arrOf st).toList=_;rw[e,el,em];simp
    have ew:=wr_app (m:=r) ea rfl dn.1.length_eq;rw[hAd]at ew;have fin:=h (setArr st' (wrA r (P.length+l1.length) (arrOf st'))) (l1++(r.toList++m2)) (g.1.trans hk) ef g.2.2.1 (by
     show(wrA r (P.length+l1.length) (arrOf st')).toList=_;rw[ew];simp) ?_
    ·have et:(failedOf (setArr st' (wrA r (P.length+l1.length) (arrOf st')))).isNone=true:=by
      show(failedOf st').isNone=true;rw[ef];rfl
     rw[et];exact wpS_pure fin
    ·refine⟨?_,?_⟩
     ·rw[el,em,hBd];refine List.Perm.append_left l1 ?_;rw[<-hBd];exact List.Perm.append_right m2 dn.1
     ·have mem:∀ x∈r.toList,x∈l2\/x∈m1:=fun x hx=>hAe.mp (dn.1.mem_iff.mp hx)
      have sp:=hAz.mp (el▸sX);have sq:=hAz.mp (em▸sY);have am:∀ y∈m2,y∈Y:=fun y hy=>by rw[em];exact hA6 _ hy
      refine hAz.mpr ⟨sp.1,hAz.mpr ⟨dn.2,sq.2.1,fun x hx y hy=>?_⟩,fun x hx y hy=>?_⟩
      ·rcases mem x hx with k | k
       ·exact Int.le_trans (topz x (i1 x k)) (u2 y hy)
       ·exact sq.2.2 x k y hy
      ·rcases hAe.mp hy with k | k
       ·rcases mem y k with k | k
        ·exact sp.2.2 x hx y k
        ·exact Int.le_trans (r1 x hx) (sb0 y (i2 y k))
       ·exact Int.le_trans (r1 x hx) (sb0 y (am y k))
   by_cases sm:X.length - l1.length<=m1.length
   ·rw[if_pos sm];refine wpS_bind (wpS_mergeLo ak hk (fun x hx=>dX x (i1 x (ex▸hx))) (fun x hx=>dY x (i2 x (ey▸hx))) (ex.symm▸s2) (ey.symm▸t2') (by omega) (by omega) (by rw[ex,ey];exact lo) (by rw[ex,ey,sx];exact hi) fun r st' g dn=>?_);rw[ex,ey]at dn;exact post r st' g dn
   ·rw[if_neg sm];refine wpS_bind (wpS_mergeHi ak hk (fun x hx=>dX x (i1 x (ex▸hx))) (fun x hx=>dY x (i2 x (ey▸hx))) (ex.symm▸s2) (ey.symm▸t2') (by omega) (by omega) (by rw[ex,ey];exact lo) (by rw[ex,ey,sx];exact hi) fun r st' g dn=>?_);rw[ex,ey]at dn;exact post r st' g dn
end
end L2
namespace L2
open PySem PySem.Spec PyProof.Rows
def kr (rk:Keyed->Int) (xs:Array Keyed) (i:Nat):Int:=match xs[i]? with
 | some p=>rk p
 | none=>0
theorem kr_congr (h:xs[i]?=ys[j]?):kr rk xs i=kr rk ys j:=by unfold kr;rw[h]
theorem kr_rev (hj:j<=xs.size) (k:Nat):kr rk (mirror xs i j ((j - i) / 2)) k=if i<=k/\k<j then kr rk xs (i+j - 1 - k) else kr rk xs k:=by
 have e:=getElem?_mirror_all (i:=i) hj k;split
 ·rename_i h;rw[if_pos h]at e;exact kr_congr e
 ·rename_i h;rw[if_neg h]at e;exact kr_congr e
theorem kr_bub (hs:src<xs.size) (hd:d<=src) (k:Nat):kr rk (bubble xs src d) k=if k=src - d then kr rk xs src else if src - d<k/\k<=src then kr rk xs (k - 1) else kr rk xs k:=by
 have e:=getElem?_bubble hs d hd k;split
 ·rename_i h;rw[if_pos h]at e;exact kr_congr e
 ·rename_i h;rw[if_neg h]at e;split
  ·rename_i h;rw[if_pos h]at e;exact kr_congr e
  ·rename_i h;rw[if_neg h]at e;exact kr_congr e
def Up (rk:Keyed->Int) (xs:Array Keyed) (lo n:Nat):Prop:=∀ i j,i<=j->j<n->kr rk xs (lo+i)<=kr rk xs (lo+j)
def Dw (rk:Keyed->Int) (xs:Array Keyed) (lo n:Nat):Prop:=∀ i j,i<=j->j<n->kr rk xs (lo+j)<=kr rk xs (lo+i)
structure Sf (a₀:Array Keyed) (lo:Nat) (kd:SortKind) (pd:Array (Nat×Nat×Nat)) (st:SortSt):Prop where
 perm:(arrOf st).Perm a₀
 kind:kindOf st=kd
 failed:failedOf st=none
 pend:pendingOf st=pd
 low:∀ i,i<lo->(arrOf st)[i]?=a₀[i]?
section
variable {prog:Program} {w:World} {A:Around} {E:Value->Shared->Prop} {s:Shared} {rk:Keyed->Int} {kd:SortKind} {D:Keyed->Prop} {a₀:Array Keyed} {lo:Nat} {pd:Array (Nat×Nat×Nat)}
theorem Sf.size {st:SortSt} (h:Sf a₀ lo kd pd st):(arrOf st).size=a₀.size:=h.perm.size_eq
theorem Sf.arr {st:SortSt} (h:Sf a₀ lo kd pd st) {xs:Array Keyed} (p:xs.Perm (arrOf st)) (l:∀ i,i<lo->xs[i]?=(arrOf st)[i]?):Sf a₀ lo kd pd (setArr st xs):=⟨p.trans h.perm,h.kind,h.failed,h.pend,fun i hi=>(l i hi).trans (h.low i hi)⟩
theorem Sf.rev {st:SortSt} (h:Sf a₀ lo kd pd st) {i j:Nat} (hi:lo<=i) (hj:j<=a₀.size):Sf a₀ lo kd pd (setArr st (mirror (arrOf st) i j ((j - i) / 2))):=h.arr (mirror_perm _ _ _ _) fun k hk=>by
 rw[getElem?_mirror_all (by rw[h.size];exact hj),if_neg (by omega)]
theorem qFm (ak:qGl prog w A E s rk kd D) (d:∀ x∈a₀.toList,D x) {st:SortSt} {i j:Nat} {Q:Option Bool->SortSt->Prop} (F:Sf a₀ lo kd pd st) (hi:i<a₀.size) (hj:j<a₀.size)
  (h:Q (some (decide (kr rk (arrOf st) i<kr rk (arrOf st) j))) st):wpS (model prog w) A E s (ltAt' i j) Q st:=by
 have get:∀ k,k<a₀.size->∃ p,(arrOf st)[k]?=some p/\D p:=fun k hk=>by
  have hk':k<(arrOf st).size:=by rw[F.size];exact hk
  exact⟨(arrOf st)[k],getElem?_pos _ k hk',d _ ((hBc.mp F.perm).mem_iff.mp (by simp))⟩
 obtain⟨p,e1,d1⟩:=get i hi;obtain⟨q,e2,d2⟩:=get j hj;rw[ltAt'_eq];refine wpS_bind (wpS_get ?_);refine wpS_bind (qAx e1 ?_);refine wpS_bind (qAx e2 ?_);refine ak p q d1 d2 st Q F.kind ?_;unfold kr at h;rw[e1,e2]at h;exact h
def ascO (lo a nrem:Nat):StateT SortSt Sem AscSt :=
 forIn [a:nrem] ((none,a):AscSt) fun _ c=>do
  let some smaller ← ltAt' (lo+c.2) (lo+c.2 - 1) | pure (ForInStep.done (some none,c.2))
  if smaller then pure (ForInStep.done (none,c.2)) else pure (ForInStep.yield (none,c.2+1))
def tailO (lo n0 nrem:Nat):StateT SortSt Sem (Option Nat):=do
 reverseSlice' lo (lo+n0)
 let mut n:=n0
 for _ in [n:nrem] do
  let some smaller ← ltAt' (lo+n) (lo+n - 1) | return none
  if smaller then break
  n:=n+1
 return some n
def descO (lo n0 nrem:Nat):StateT SortSt Sem (Option Nat):=do
 rule "list.sort.descending-run"
 let mut n:=n0+1
 let mut neq:=0
 for _ in [n:nrem] do
  let some smaller ← ltAt' (lo+n) (lo+n - 1) | return none
  if smaller then
   if neq > 0 then reverseSlice' (lo+n - (neq+1)) (lo+n)
   neq:=0
  else
   let some larger ← ltAt' (lo+n - 1) (lo+n) | return none
   if larger then break
   neq:=neq+1
  n:=n+1
 if neq > 0 then reverseSlice' (lo+n - (neq+1)) (lo+n)
 reverseSlice' lo (lo+n)
 for _ in [n:nrem] do
  let some smaller ← ltAt' (lo+n) (lo+n - 1) | return none
  if smaller then break
  n:=n+1
 return some n
theorem wp_ascO (ak:qGl prog w A E s rk kd D) (d:∀ x∈a₀.toList,D x) {st:SortSt} {a nrem:Nat} {Q:AscSt->SortSt->Prop} (hn:lo+nrem<=a₀.size) (ha:1<=a) (han:a<=nrem) (F:Sf a₀ lo kd pd st) (u:Up rk (arrOf st) lo a)
  (h:∀ n,a<=n->n<=nrem->Up rk (arrOf st) lo n->(n=nrem\/kr rk (arrOf st) (lo+n)<kr rk (arrOf st) (lo+(n - 1)))->Q (none,n) st):wpS (model prog w) A E s (ascO lo a nrem) Q st:=by
 unfold ascO;refine wpS_forRange (I:=fun x c st'=>st'=st/\c=(none,x)/\Up rk (arrOf st) lo x) ?step ?fin ⟨rfl,rfl,u⟩
 case fin =>
  rintro c st' ⟨rfl,rfl,u'⟩;rw[show max a nrem=nrem by omega]at u' ⊢;exact h nrem han (hA5 _) u' (.inl rfl)
 case step =>
  rintro x c st' hax hxn ⟨rfl,rfl,u'⟩;refine wpS_bind (qFm ak d F (by show lo+x<_;omega) (by show lo+x - 1<_;omega) ?_);dsimp only;rw[show lo+x - 1=lo+(x - 1) by omega];by_cases c:kr rk (arrOf st') (lo+x)<kr rk (arrOf st') (lo+(x - 1))
  ·rw[decide_eq_true c];exact wpS_pure (h x hax (by omega) u' (.inr c))
  ·rw[decide_eq_false c];refine wpS_pure ⟨rfl,rfl,fun i j hij hj=>?_⟩;by_cases e:j<x
   ·exact u' i j hij e
   ·have e':j=x:=by omega
    subst e';by_cases e2:i=j
    ·subst e2;exact hD5 _
    ·have:=u' i (j - 1) (by omega) (by omega);omega
theorem wp_tailO (ak:qGl prog w A E s rk kd D) (d:∀ x∈a₀.toList,D x) {st:SortSt} {n nrem:Nat} {Q:Option Nat->SortSt->Prop} (hn:lo+nrem<=a₀.size) (h1:1<=n) (hnn:n<=nrem) (F:Sf a₀ lo kd pd st) (u:Dw rk (arrOf st) lo n)
  (h:∀ m st',Sf a₀ lo kd pd st'->1<=m->m<=nrem->Up rk (arrOf st') lo m->Q (some m) st'):wpS (model prog w) A E s (tailO lo n nrem) Q st:=by
 unfold tailO;have sz:=F.size;refine wpS_bind (wpS_reverse ?_);have F':=F.rev (i:=lo) (j:=lo+n) (hA5 _) (by omega);refine wpS_bind (wpS_mono (m:=ascO lo n nrem) (wp_ascO ak d (Q:=fun c st'=>∃ m,c=(none,m)/\Sf a₀ lo kd pd st'/\1<=m/\m<=nrem/\Up rk (arrOf st') lo m) hn h1 hnn F' (fun i j hij hj=>?_) fun m hm1 hm2 hu _=>⟨m,rfl,F',by omega,hm2,hu⟩) ?_)
 ·show kr rk (mirror (arrOf st) lo (lo+n) ((lo+n - lo) / 2)) _<=kr rk (mirror (arrOf st) lo (lo+n) ((lo+n - lo) / 2)) _;rw[kr_rev (by omega),kr_rev (by omega),if_pos (by omega),if_pos (by omega)];have:=u (n - 1 - j) (n - 1 - i) (by omega) (by omega);rw[show lo+(lo+n) - 1 - (lo+i)=lo+(n - 1 - i) by omega,show lo+(lo+n) - 1 - (lo+j)=lo+(n - 1 - j) by omega];exact this
 ·rintro c st' ⟨m,rfl,F2,a1,a2,a3⟩;exact wpS_pure (h m st' F2 a1 a2 a3)
theorem dw_snoc (u:Dw rk xs lo n) (h1:1<=n) (h:kr rk xs (lo+n)<=kr rk xs (lo+(n - 1))):Dw rk xs lo (n+1):=fun i j hij hj=>by
 by_cases e:j<n
 ·exact u i j hij e
 ·have e':j=n:=by omega
  subst e';by_cases e2:i=j
  ·subst e2;exact hD5 _
  ·have:=u i (j - 1) (by omega) (by omega);omega
theorem qF7 (hj:j<=xs.size) (h:∀ k,i<=k->k<j->kr rk xs k=kr rk xs (j - 1)) (k:Nat):kr rk (mirror xs i j ((j - i) / 2)) k=kr rk xs k:=by
 rw[kr_rev hj];split
 ·rw[h _ (by omega) (by omega),h k (by omega) (by omega)]
 ·rfl
theorem wp_descO (ak:qGl prog w A E s rk kd D) (d:∀ x∈a₀.toList,D x) {st:SortSt} {n nrem:Nat} {Q:Option Nat->SortSt->Prop} (hn:lo+nrem<=a₀.size) (hnn:n+1<=nrem) (F:Sf a₀ lo kd pd st) (u:Dw rk (arrOf st) lo (n+1))
  (h:∀ m st',Sf a₀ lo kd pd st'->1<=m->m<=nrem->Up rk (arrOf st') lo m->Q (some m) st'):wpS (model prog w) A E s (descO lo n nrem) Q st:=by
 unfold descO;refine wpS_bind (wpS_lift (wpAny_rule ⟨rfl,?_⟩));refine wpS_bind (wpS_mono (wpS_forRange (I:=fun x c st'=>∃ neq,c=(none,x,neq)/\Sf a₀ lo kd pd st'/\1<=x/\x<=nrem/\Dw rk (arrOf st') lo x/\neq+1<=x/\∀ k,lo+x - (neq+1)<=k->k<lo+x->kr rk (arrOf st') k=kr rk (arrOf st') (lo+x - 1))
  (Q:=fun c st'=>∃ x neq,c=(none,x,neq)/\Sf a₀ lo kd pd st'/\1<=x/\x<=nrem/\Dw rk (arrOf st') lo x/\neq+1<=x/\∀ k,lo+x - (neq+1)<=k->k<lo+x->kr rk (arrOf st') k=kr rk (arrOf st') (lo+x - 1)) ?_ ?_ ⟨0,rfl,F,by omega,hnn,u,by omega,fun k k1 k2=>by congr 1;omega⟩) ?_)
 ·rintro x c st' hx1 hx2 ⟨neq,rfl,F',x1,xn,u',q1,q2⟩;have sz:=F'.size;refine wpS_bind (qFm ak d F' (by show lo+x<_;omega) (by show lo+x - 1<_;omega) ?_);dsimp only;have ex:lo+x - 1=lo+(x - 1):=by omega
  by_cases c:kr rk (arrOf st') (lo+x)<kr rk (arrOf st') (lo+x - 1)
  ·rw[decide_eq_true c];have u2:∀ ys:Array Keyed,(∀ k,kr rk ys k=kr rk (arrOf st') k)->Dw rk ys lo (x+1):=fun ys hy i j hij hj=>by
    rw[hy,hy];exact dw_snoc u' x1 (by rw[<-ex];omega) i j hij hj
   show wpS _ _ _ _ (if neq > 0 then _ else _) _ _;by_cases n0:neq > 0
   ·rw[if_pos n0];refine wpS_bind (wpS_reverse (wpS_pure ⟨0,rfl,F'.rev (by omega) (by omega),by omega,by omega,u2 _ (qF7 (by omega) q2),by omega,fun k k1 k2=>by congr 1;omega⟩))
   ·rw[if_neg n0];exact wpS_pure ⟨0,rfl,F',by omega,by omega,u2 _ (fun _=>rfl),by omega,fun k k1 k2=>by congr 1;omega⟩
  ·rw[decide_eq_false c];refine wpS_bind (qFm ak d F' (by show lo+x - 1<_;omega) (by show lo+x<_;omega) ?_);dsimp only;by_cases c2:kr rk (arrOf st') (lo+x - 1)<kr rk (arrOf st') (lo+x)
   ·rw[decide_eq_true c2];exact wpS_pure ⟨x,neq,rfl,F',x1,xn,u',q1,q2⟩
   ·rw[decide_eq_false c2];have e:kr rk (arrOf st') (lo+x)=kr rk (arrOf st') (lo+x - 1):=by omega
    refine wpS_pure ⟨neq+1,rfl,F',by omega,by omega,dw_snoc u' x1 (by rw[<-ex];omega),by omega,fun k k1 k2=>?_⟩;rw[show lo+(x+1) - 1=lo+x by omega];by_cases ek:k=lo+x
    ·subst ek;rfl
    ·rw[e];exact q2 k (by omega) (by omega)
 ·rintro c st' ⟨neq,rfl,F',x1,xn,u',q1,q2⟩;exact⟨_,neq,rfl,F',x1,xn,u',q1,q2⟩
 ·rintro c st' ⟨x,neq,rfl,F',x1,xn,u',q1,q2⟩;have sz:=F'.size;show wpS _ _ _ _ (if neq > 0 then _ else _) _ _;by_cases n0:neq > 0
  ·rw[if_pos n0];refine wpS_bind (wpS_reverse ?_);refine wpS_mono (m:=tailO lo x nrem) (wp_tailO ak d hn x1 xn (F'.rev (i:=lo+x - (neq+1)) (j:=lo+x) (by omega) (by omega)) (fun i j hij hj=>?_) h) fun _ _ q=>q
   show kr rk (mirror (arrOf st') _ _ _) _<=kr rk (mirror (arrOf st') _ _ _) _;rw[qF7 (i:=lo+x - (neq+1)) (j:=lo+x) (by omega) q2,qF7 (i:=lo+x - (neq+1)) (j:=lo+x) (by omega) q2];exact u' i j hij hj
  ·rw[if_neg n0];exact wpS_mono (m:=tailO lo x nrem) (wp_tailO ak d hn x1 xn F' u' h) fun _ _ q=>q
theorem wp_count (ak:qGl prog w A E s rk kd D) (d:∀ x∈a₀.toList,D x) {st:SortSt} {nrem:Nat} {Q:Option Nat->SortSt->Prop} (hn:lo+nrem<=a₀.size) (h1:1<=nrem) (F:Sf a₀ lo kd pd st)
  (h:∀ m st',Sf a₀ lo kd pd st'->1<=m->m<=nrem->Up rk (arrOf st') lo m->Q (some m) st'):wpS (model prog w) A E s (countRun' lo nrem) Q st:=by
 rw[countRun'_eq];have sz:=F.size;refine wpS_bind (wpS_mono (m:=ascO lo 1 nrem) (wp_ascO ak d (Q:=fun c st'=>st'=st/\∃ n,c=(none,n)/\1<=n/\n<=nrem/\Up rk (arrOf st) lo n/\(n=nrem\/kr rk (arrOf st) (lo+n)<kr rk (arrOf st) (lo+(n - 1)))) hn (hA5 _) h1 F (fun i j hij hj=>?_) fun n a1 a2 a3 a4=>⟨rfl,n,rfl,a1,a2,a3,a4⟩) ?_)
 ·have:i=j:=by omega
  subst this;exact hD5 _
 rintro c st' ⟨rfl,n,rfl,n1,n2,u,hor⟩;show wpS _ _ _ _ (if (n == nrem)=true then _ else _) _ _;by_cases e:(n == nrem)=true
 ·rw[if_pos e];exact wpS_pure (h n _ F n1 n2 u)
 ·rw[if_neg e];have e':n≠nrem:=by simpa using e
  have lt:=hor.resolve_left e';by_cases g:n > 1
  ·show wpS _ _ _ _ (if n > 1 then _ else _) _ _;rw[if_pos g];refine wpS_bind (qFm ak d F (by omega) (by omega) ?_);have ex:lo+n - 1=lo+(n - 1):=by omega
   by_cases c:kr rk (arrOf st') lo<kr rk (arrOf st') (lo+n - 1)
   ·rw[decide_eq_true c];exact wpS_pure (h n _ F n1 n2 u)
   ·rw[decide_eq_false c];have all:∀ k,lo<=k->k<lo+n->kr rk (arrOf st') k=kr rk (arrOf st') (lo+n - 1):=fun k k1 k2=>by
     have a1:=u 0 (k - lo) (by omega) (by omega);have a2:=u (k - lo) (n - 1) (by omega) (by omega);rw[show lo+(k - lo)=k by omega]at a1 a2;rw[Nat.add_zero]at a1;rw[ex]at c ⊢;omega
    refine wpS_bind (wpS_reverse ?_);refine wpS_mono (m:=descO lo n nrem) (wp_descO ak d hn (by omega) (F.rev (hA5 _) (by omega)) (fun i j hij hj=>?_) h) fun _ _ q=>q
    show kr rk (mirror (arrOf st') _ _ _) _<=kr rk (mirror (arrOf st') _ _ _) _;rw[qF7 (i:=lo) (j:=lo+n) (by omega) all,qF7 (i:=lo) (j:=lo+n) (by omega) all];by_cases ej:j<n
    ·rw[all (lo+i) (by omega) (by omega),all (lo+j) (by omega) (by omega)];exact hD5 _
    ·have ej':j=n:=by omega
     subst ej';by_cases ei:i=j
     ·subst ei;exact hD5 _
     ·rw[all (lo+i) (by omega) (by omega),ex];omega
  ·show wpS _ _ _ _ (if n > 1 then _ else _) _ _;rw[if_neg g];have e1:n=1:=by omega
   subst e1;refine wpS_mono (m:=descO lo 1 nrem) (wp_descO ak d hn (by omega) F (fun i j hij hj=>?_) h) fun _ _ q=>q
   by_cases ei:i=j
   ·subst ei;exact hD5 _
   ·have ei':i=0:=by omega
    have ej':j=1:=by omega
    subst ei' ej';exact hDi lt
theorem wp_bins (ak:qGl prog w A E s rk kd D) (d:∀ x∈a₀.toList,D x) {st:SortSt} {n ok:Nat} {Q:Bool->SortSt->Prop} (hn:lo+n<=a₀.size) (hok:ok<=n) (F:Sf a₀ lo kd pd st) (u:Up rk (arrOf st) lo ok)
  (h:∀ st',Sf a₀ lo kd pd st'->Up rk (arrOf st') lo n->Q true st'):wpS (model prog w) A E s (binarySort' lo n ok) Q st:=by
 rw[binarySort'_eq];refine wpS_bind (wpS_mono (wpS_forRange (I:=fun k c st'=>c=(none,())/\Sf a₀ lo kd pd st'/\Up rk (arrOf st') lo (min k n))
  (Q:=fun c st'=>c=(none,())/\Sf a₀ lo kd pd st'/\Up rk (arrOf st') lo n) ?_ ?_ ⟨rfl,F,fun i j hij hj=>?_⟩) ?_)
 ·rintro k c st' hak hkn ⟨rfl,F',u'⟩;rw[show min k n=k by omega]at u';have sz:=F'.size;refine wpS_bind (wpS_mono (wpS_forRange (I:=fun x c st''=>st''=st'/\∃ l r,c=(none,l,r)/\l<=r/\r<=k/\r - l<=k - x/\(∀ i,i<l->kr rk (arrOf st') (lo+i)<=kr rk (arrOf st') (lo+k))/\(∀ i,r<=i->i<k->kr rk (arrOf st') (lo+k)<kr rk (arrOf st') (lo+i)))
   (Q:=fun c st''=>st''=st'/\∃ l r,c=(none,l,r)/\l<=k/\(∀ i,i<l->kr rk (arrOf st') (lo+i)<=kr rk (arrOf st') (lo+k))/\(∀ i,l<=i->i<k->kr rk (arrOf st') (lo+k)<kr rk (arrOf st') (lo+i))) ?_ ?_ ⟨rfl,0,k,rfl,by omega,by omega,by omega,fun i hi=>by omega,fun i h1 h2=>by omega⟩) ?_)
  ·rintro x c st2 _ hx ⟨rfl,l,r,rfl,lr,rk',m,a1,a2⟩;show wpS _ _ _ _ (if l >= r then _ else _) _ _;by_cases g:l >= r
   ·rw[if_pos g];have:l=r:=by omega
    subst this;exact wpS_pure ⟨rfl,l,l,rfl,rk',a1,a2⟩
   ·rw[if_neg g];refine wpS_bind (qFm ak d F' (by omega) (by show lo+(l+r) / 2<_;omega) ?_);dsimp only;by_cases c:kr rk (arrOf st2) (lo+k)<kr rk (arrOf st2) (lo+(l+r) / 2)
    ·rw[decide_eq_true c];refine wpS_pure ⟨rfl,l,(l+r) / 2,rfl,by omega,by omega,by omega,a1,fun i h1 h2=>?_⟩;exact Int.lt_of_lt_of_le c (u' _ _ h1 h2)
    ·rw[decide_eq_false c];refine wpS_pure ⟨rfl,(l+r) / 2+1,r,rfl,by omega,by omega,by omega,fun i h1=>?_,a2⟩;exact Int.le_trans (u' i ((l+r) / 2) (by omega) (by omega)) (Int.not_lt.mp c)
  ·rintro c st2 ⟨rfl,l,r,rfl,lr,rk',m,a1,a2⟩;have:l=r:=by omega
   subst this;exact⟨rfl,l,l,rfl,rk',a1,a2⟩
  ·rintro c st2 ⟨rfl,l,r,rfl,lk,a1,a2⟩;show wpS _ _ _ _ (do moveDown' (lo+k) (lo+l);pure (ForInStep.yield (none,()))) _ _;rw[moveDown'_eq];have ed:lo+k - (lo+l)=k - l:=by omega
   refine wpS_bind (wpS_modify (wpS_pure ⟨rfl,F'.arr (bubble_perm _ _ _) fun i hi=>?_,fun i j hij hj=>?_⟩))
   ·rw[getElem?_bubble (by omega) _ (by omega),if_neg (by omega),if_neg (by omega)]
   ·rw[show min (k+1) n=k+1 by omega]at hj;show kr rk (bubble (arrOf st2) (lo+k) (lo+k - (lo+l))) _<=kr rk (bubble (arrOf st2) (lo+k) (lo+k - (lo+l))) _;rw[kr_bub (by omega) (by omega),kr_bub (by omega) (by omega),ed,show lo+k - (k - l)=lo+l by omega];have p1:∀ z,z<k+1->lo+z - 1=lo+(z - 1)\/z=0:=fun z hz=>by omega
    by_cases ej:j=l
    ·subst ej;rw[if_pos rfl];by_cases ei:i=j
     ·subst ei;rw[if_pos rfl];exact hD5 _
     ·rw[if_neg (by omega),if_neg (by omega)];exact a1 i (by omega)
    ·rw[if_neg (c:=lo+j=lo+l) (by omega)];by_cases ej2:l<j
     ·rw[if_pos (c:=lo+l<lo+j/\lo+j<=lo+k) (by omega),show lo+j - 1=lo+(j - 1) by omega];by_cases ei:i=l
      ·subst ei;rw[if_pos rfl];exact hDi (a2 _ (by omega) (by omega))
      ·rw[if_neg (c:=lo+i=lo+l) (by omega)];by_cases ei2:l<i
       ·rw[if_pos (by omega),show lo+i - 1=lo+(i - 1) by omega];exact u' _ _ (by omega) (by omega)
       ·rw[if_neg (by omega)];exact u' _ _ (by omega) (by omega)
     ·rw[if_neg (c:=lo+l<lo+j/\lo+j<=lo+k) (by omega),if_neg (by omega),if_neg (by omega)];exact u' _ _ (by omega) (by omega)
 ·rintro c st' ⟨hc,F',u'⟩;refine⟨hc,F',?_⟩
  rwa [show min (max (max ok 1) n) n=n by omega]at u'
 ·by_cases o0:ok=0
  ·have:i=j:=by omega
   subst this;exact hD5 _
  ·exact u i j hij (by omega)
 ·rintro c st' ⟨rfl,F',u'⟩;exact wpS_pure (h st' F' u')
end
end L2
namespace L2
open PySem PySem.Spec PyProof.Rows
def offs:Nat->List (List Keyed)->List (Nat×Nat)
 | _,[]=>[]
 | k,R :: Rs=>(k,R.length) :: offs (k+R.length) Rs
theorem qFi:∀ (k:Nat) (U V:List (List Keyed)),offs k (U++V)=offs k U++offs (k+U.flatten.length) V
 | k,[],V=>by simp[offs]
 | k,R :: U,V=>by
  show(k,R.length) :: offs (k+R.length) (U++V)=(k,R.length) :: (offs (k+R.length) U++_);rw[qFi (k+R.length) U V];congr 3;simp;omega
theorem offs_len:∀ (k:Nat) (U:List (List Keyed)),(offs k U).length=U.length
 | _,[]=>rfl
 | k,R :: U=>by simp[offs,offs_len]
def pr2 (t:Nat×Nat×Nat):Nat×Nat:=(t.1,t.2.1)
def RI (rk:Keyed->Int) (kd:SortKind) (a₀:Array Keyed) (rest:List Keyed) (m:Nat) (st:SortSt):Prop:=∃ Rs:List (List Keyed),(arrOf st).toList=Rs.flatten++rest/\(pendingOf st).toList.map pr2=offs 0 Rs/\(∀ R∈Rs,R≠[]/\Srd rk R)/\Rs.length=m/\kindOf st=kd/\failedOf st=none/\(arrOf st).toList.Perm a₀.toList
section
variable {prog:Program} {w:World} {A:Around} {E:Value->Shared->Prop} {s:Shared} {rk:Keyed->Int} {kd:SortKind} {D:Keyed->Prop} {a₀:Array Keyed} {rest:List Keyed}
theorem RI.psize {m:Nat} {st:SortSt} (h:RI rk kd a₀ rest m st):(pendingOf st).size=m:=by
 obtain⟨Rs,_,e,_,rfl,_⟩:=h;have:=congrArg List.length e;rw[offs_len]at this
 simpa using this
theorem qEa (ak:qGl prog w A E s rk kd D) (d:∀ x∈a₀.toList,D x) {i m:Nat} {st:SortSt} {Q:Bool->SortSt->Prop} (h:RI rk kd a₀ rest m st) (hi:i+1<m) (hq:∀ st',RI rk kd a₀ rest (m - 1) st'->Q true st'):wpS (model prog w) A E s (mergeAt' i) Q st:=by
 obtain⟨Rs,e,ep,hR,rfl,hk,hf,hp⟩:=h;obtain⟨U,X,Y,V,rfl,hU⟩:∃ U X Y V,Rs=U++X :: Y :: V/\U.length=i:=by
  refine⟨Rs.take i,Rs[i],Rs[i+1],Rs.drop (i+2),?_,by simp;omega⟩;rw[<-hCw,<-hCw,hDh]
 rw[qFi]at ep;obtain⟨pu,pt,ept,epu,e2⟩:=List.map_eq_append_iff.mp ep;obtain⟨p,pt2,rfl,ep1,e3⟩:=List.map_eq_cons_iff.mp e2;obtain⟨q,pv,rfl,eq1,e4⟩:=List.map_eq_cons_iff.mp e3;obtain⟨a,b,c⟩:=p;obtain⟨a',b',c'⟩:=q;injection ep1 with ea eb
 injection eq1 with ea' eb'
 have eb:b=X.length:=eb;have ea:a=0+U.flatten.length:=ea;have ea':a'=0+U.flatten.length+X.length:=ea';have eb':b'=Y.length:=eb';rw[Nat.zero_add]at ea ea';subst ea eb ea' eb';have lu:pu.length=i:=by
  have:=congrArg List.length epu;rw[offs_len]at this
  simpa [hU] using this
 have g1:(pendingOf st)[i]?=some (U.flatten.length,X.length,c):=by
  rw[<-hAp,ept,hBy (by omega),lu,Nat.sub_self];rfl
 have g2:(pendingOf st)[i+1]?=some (U.flatten.length+X.length,Y.length,c'):=by
  rw[<-hAp,ept,hBy (by omega),lu,show i+1 - i=1 by omega];rfl
 have hX:=hR X (by simp);have hY:=hR Y (by simp);refine wpS_mergeAt ak (P:=U.flatten) (X:=X) (Y:=Y) (S:=V.flatten++rest) hk hf (by rw[e];simp) (fun x hx=>d x (hp.mem_iff.mp hx)) g1 g2 hX.2 hY.2 hX.1 hY.1 fun st' M hk' hf' hp' ea' dn=>?_
 refine hq st' ⟨U++M :: V,by rw[ea'];simp,?_,fun R hR'=>?_,by simp,hk',hf',?_⟩
 ·rw[hp',Array.toList_eraseIdxIfInBounds,Array.toList_setIfInBounds,ept,qFi,List.set_append_right _ _ (by omega),lu,Nat.sub_self,List.eraseIdx_append_of_length_le (by omega),lu,show i+1 - i=1 by omega];rw[hA9,epu];congr 1;show(pr2 (U.flatten.length,X.length+Y.length,c)) :: pv.map pr2=(0+U.flatten.length,M.length) :: offs (0+U.flatten.length+M.length) V;have lm:M.length=X.length+Y.length:=by rw[dn.1.length_eq];simp
  rw[e4,lm];unfold pr2;rw[Nat.zero_add,Nat.add_assoc]
 ·rcases hAe.mp hR' with z | z
  ·exact hR R (by simp[z])
  ·rcases hAa.mp z with z | z
   ·subst z;refine⟨fun z=>hX.1 ?_,dn.2⟩;have:=dn.1.length_eq;rw[z]at this;simp at this;exact hAy.mp (by omega)
   ·exact hR R (by simp[z])
 ·rw[ea'];refine List.Perm.trans ?_ hp;rw[e];have:(U++X :: Y :: V).flatten++rest=U.flatten++((X++Y)++(V.flatten++rest)):=by simp
  rw[this];exact List.Perm.append_left _ (List.Perm.append_right _ dn.1)
theorem up_srd (e:xs.toList=P++T) (u:Up rk xs P.length n) (hn:n<=T.length):Srd rk (T.take n):=by
 refine List.pairwise_iff_getElem.mpr fun i j hi hj hij=>?_
 rw[hAj]at hi hj;have g:∀ k,(h:k<T.length)->kr rk xs (P.length+k)=rk T[k]:=fun k h=>by
  unfold kr;rw[<-hAp,e,hBy (by omega),show P.length+k - P.length=k by omega,hA2 h]
 have:=u i j (by omega) (by omega);rw[g i (by omega),g j (by omega)]at this;rw[List.getElem_take,List.getElem_take];exact this
theorem RI.found {m n:Nat} {st st':SortSt} {pd:Array (Nat×Nat×Nat)} {lo:Nat} (h:RI rk kd a₀ rest m st) (hl:lo+rest.length=a₀.size) (F:Sf (arrOf st) lo kd (pendingOf st) st') (u:Up rk (arrOf st') lo n) (hn:n<=rest.length) :
  ∃ rest',RI rk kd a₀ rest' m st'/\rest'.length=rest.length/\Srd rk (rest'.take n):=by
 obtain⟨Rs,e,ep,hR,rfl,hk,hf,hp⟩:=h;have sz:(arrOf st).toList.length=a₀.size:=by rw[hp.length_eq];simp
 have lf:Rs.flatten.length=lo:=by rw[e]at sz;simp at sz ⊢;omega
 have et:(arrOf st').toList.take lo=Rs.flatten:=by
  refine hCn fun k=>?_
  by_cases c:k<lo
  ·rw[List.getElem?_take_of_lt c,hAp,F.low k c,<-hAp,e,hCd (by omega)]
  ·rw[List.getElem?_take_eq_none (by omega),hBe (by omega)]
 have ed:(arrOf st').toList=Rs.flatten++(arrOf st').toList.drop lo:=by rw[<-et,hDh]
 have pt:(arrOf st').toList.Perm (arrOf st).toList:=hBc.mp F.perm;have ld:((arrOf st').toList.drop lo).length=rest.length:=by
  have:=pt.length_eq;rw[hC1,this,sz];omega
 refine⟨(arrOf st').toList.drop lo,⟨Rs,ed,by rw[F.pend];exact ep,hR,rfl,F.kind,F.failed,pt.trans hp⟩,ld,?_⟩;exact up_srd (P:=Rs.flatten) ed (by rw[lf];exact u) (by rw[ld];exact hn)
theorem RI.pushed {m n:Nat} {st:SortSt} {lo:Nat} (h:RI rk kd a₀ rest m st) (hl:lo+rest.length=a₀.size) (sr:Srd rk (rest.take n)) (h1:1<=n) (hn:n<=rest.length):RI rk kd a₀ (rest.drop n) (m+1) (setPending st ((pendingOf st).push (lo,n,0))):=by
 obtain⟨Rs,e,ep,hR,rfl,hk,hf,hp⟩:=h;have sz:(arrOf st).toList.length=a₀.size:=by rw[hp.length_eq];simp
 have lf:Rs.flatten.length=lo:=by rw[e]at sz;simp at sz ⊢;omega
 refine⟨Rs++[rest.take n],?_,?_,fun R hR'=>?_,by simp,hk,hf,hp⟩
 ·show(arrOf st).toList=_;rw[e];simp
 ·show((pendingOf st).push (lo,n,0)).toList.map pr2=_;rw[hBl,hA9,ep,qFi,lf];simp[offs,pr2];try omega
 ·rcases hAe.mp hR' with z | z
  ·exact hR R z
  ·rw[hA7.mp z];refine⟨fun z=>?_,sr⟩;have:=congrArg List.length z;rw[hAj,List.length_nil]at this;omega
theorem RI.power {m pw:Nat} {st:SortSt} (h:RI rk kd a₀ rest m st):RI rk kd a₀ rest m (setPending st ((pendingOf st).modify ((pendingOf st).size - 1) fun (st,len,_)=>(st,len,pw))):=by
 obtain⟨Rs,e,ep,hR,rfl,hk,hf,hp⟩:=h;refine⟨Rs,e,?_,hR,rfl,hk,hf,hp⟩;rw[<-ep];show((pendingOf st).modify ((pendingOf st).size - 1) fun (st,len,_)=>(st,len,pw)).toList.map pr2=_;refine hCn fun k=>?_
 rw[hAh,hAh,hAp,hAp,Array.getElem?_modify];split
 ·rename_i z;cases(pendingOf st)[k]? with
  | none=>rfl
  | some t=>rfl
 ·rfl
theorem qG2:∀ (f n r:Nat),1<=n->1<=minRun' f n r
 | 0,n,r,h=>by show 1<=n+r;omega
 | f+1,n,r,h=>by
  rw[minRun'_succ];split
  ·omega
  ·exact qG2 f _ _ (by omega)
theorem wp_sortRuns (ak:qGl prog w A E s rk kd D) (d:∀ x∈a₀.toList,D x) {st:SortSt} {Q:Unit->SortSt->Prop} (h0:arrOf st=a₀) (hk:kindOf st=kd) (hf:failedOf st=none) (hp:pendingOf st=#[])
  (h:∀ st',failedOf st'=none->Dn rk a₀.toList (arrOf st').toList->Q () st'):wpS (model prog w) A E s sortRuns' Q st:=by
 rw[sortRuns'_eq];refine wpS_bind (wpS_get ?_);rw[h0];have I0:RI rk kd a₀ a₀.toList 0 st:=⟨[],by rw[h0];rfl,by rw[hp];rfl,fun R hR=>(by cases hR),rfl,hk,hf,by rw[h0]⟩;refine wpS_bind (wpS_mono (wpS_forRange (I:=fun x c st'=>∃ rest m lo,c=(none,lo)/\RI rk kd a₀ rest m st'/\lo+rest.length=a₀.size/\x<=lo)
  (Q:=fun c st'=>∃ m lo,c=(none,lo)/\RI rk kd a₀ [] m st') ?_ ?_ ⟨_,0,0,rfl,I0,by simp,hA5 _⟩) ?_)
 ·rintro x c st' _ hx ⟨rest,m,lo,rfl,R,hl,hxl⟩;by_cases g:lo >= a₀.size
  ·show wpS _ _ _ _ (if lo >= a₀.size then _ else _) _ _;rw[if_pos g];have:rest=[]:=hAy.mp (by omega);subst this;exact wpS_pure ⟨m,lo,rfl,R⟩
  ·show wpS _ _ _ _ (if lo >= a₀.size then _ else _) _ _;rw[if_neg g];obtain⟨Rs,eR,ep,hR,eM,hk',hf',hp'⟩:=R;have R:RI rk kd a₀ rest m st':=⟨Rs,eR,ep,hR,eM,hk',hf',hp'⟩;have sz:(arrOf st').size=a₀.size:=by
    have:=hp'.length_eq
    simpa using this
   have F:Sf (arrOf st') lo kd (pendingOf st') st':=⟨Array.Perm.refl _,hk',hf',rfl,fun _ _=>rfl⟩;refine wpS_bind (wp_count ak (fun x hx=>d x (hp'.mem_iff.mp hx)) (lo:=lo) (nrem:=a₀.size - lo) (by omega) (by omega) F fun n st2 F2 n1 n2 u2=>?_);have mp:=qG2 a₀.size a₀.size 0 (by omega);have key:∀ (n:Nat) (st2:SortSt),Sf (arrOf st') lo kd (pendingOf st') st2->Up rk (arrOf st2) lo n->1<=n->n<=rest.length->∃ rest',RI rk kd a₀ rest' m st2/\rest'.length=rest.length/\Srd rk (rest'.take n)/\1<=n/\n<=rest'.length:=fun n st2 F2 u2 h1 hn=>by
    obtain⟨rest',R2,l2,s2⟩:=R.found (pd:=#[]) hl F2 u2 hn;exact⟨rest',R2,l2,s2,h1,by omega⟩
   by_cases c:n<minRun' a₀.size a₀.size 0
   ·show wpS _ _ _ _ (if n<minRun' a₀.size a₀.size 0 then _ else _) _ _;rw[if_pos c];refine wpS_bind (wpS_lift (wpAny_rule ⟨rfl,?_⟩));refine wpS_bind (wp_bins ak (fun x hx=>d x (hp'.mem_iff.mp hx)) (lo:=lo) (n:=min (a₀.size - lo) (minRun' a₀.size a₀.size 0)) (by omega) (by omega) F2 u2 fun st3 F3 u3=>?_);rw[if_neg (by decide)];obtain⟨rest',R2,l2,s2,b1,b2⟩:=key _ st3 F3 u3 (by omega) (by omega);dsimp only;generalize min (a₀.size - lo) (minRun' a₀.size a₀.size 0)=nn at s2 b1 b2 ⊢;refine wpS_bind (wpS_get ?_);have fin:∀ (m':Nat) (st4:SortSt),RI rk kd a₀ rest' m' st4->∃ rest m lo',((none,lo+nn):Option Unit×Nat)=(none,lo')/\RI rk kd a₀ rest m (setPending st4 ((pendingOf st4).push (lo,nn,0)))/\lo'+rest.length=a₀.size/\x+1<=lo':=fun m' st4 R4=>⟨_,_,_,rfl,RI.pushed R4 (by omega) s2 b1 b2,by rw[hC1];omega,by omega⟩
    generalize (pendingOf st3).back?=bk;rcases bk with _ | ⟨s1,n1,p3⟩
    ·refine wpS_bind (wpS_modify ?_);exact wpS_pure (fin _ _ R2)
    ·dsimp only;refine wpS_bind (wpS_mono (wpS_forRange (I:=fun _ c st'=>c=(none,())/\∃ m,RI rk kd a₀ rest' m st') (Q:=fun c st'=>c=(none,())/\∃ m,RI rk kd a₀ rest' m st') ?_ (fun _ _ z=>z) ⟨rfl,m,R2⟩) ?_)
     ·rintro x c st5 _ hx ⟨rfl,m',R'⟩;refine wpS_bind (wpS_get ?_);have sz:=R'.psize;have m2:∀ t,(if (pendingOf st5).size > 1 then (pendingOf st5)[(pendingOf st5).size - 2]? else none)=some t->2<=m':=fun t eo=>by
       rcases hDp 1 (pendingOf st5).size with z | z
       ·omega
       ·rw[if_neg (by omega)]at eo;cases eo
      revert m2;generalize (if (pendingOf st5).size > 1 then (pendingOf st5)[(pendingOf st5).size - 2]? else none)=bo;intro m2;rcases bo with _ | ⟨q1,q2,older⟩
      ·exact wpS_pure ⟨rfl,m',R'⟩
      ·dsimp only;split
       ·exact wpS_pure ⟨rfl,m',R'⟩
       ·have:=m2 _ rfl;refine wpS_bind (qEa ak d R' (by omega) fun st2 R2=>?_);rw[if_neg (by decide)];exact wpS_pure ⟨rfl,m' - 1,R2⟩
     ·rintro c st5 ⟨rfl,m',R'⟩;refine wpS_bind (wpS_modify ?_);refine wpS_bind (wpS_modify ?_);exact wpS_pure (fin _ _ R'.power)
   ·show wpS _ _ _ _ (if n<minRun' a₀.size a₀.size 0 then _ else _) _ _;rw[if_neg c];obtain⟨rest',R2,l2,s2,b1,b2⟩:=key _ st2 F2 u2 (by omega) (by omega);dsimp only;refine wpS_bind (wpS_get ?_);have fin:∀ (m':Nat) (st4:SortSt),RI rk kd a₀ rest' m' st4->∃ rest m lo',((none,lo+n):Option Unit×Nat)=(none,lo')/\RI rk kd a₀ rest m (setPending st4 ((pendingOf st4).push (lo,n,0)))/\lo'+rest.length=a₀.size/\x+1<=lo':=fun m' st4 R4=>⟨_,_,_,rfl,RI.pushed R4 (by omega) s2 b1 b2,by rw[hC1];omega,by omega⟩
    generalize (pendingOf st2).back?=bk;rcases bk with _ | ⟨s1,n1,p3⟩
    ·refine wpS_bind (wpS_modify ?_);exact wpS_pure (fin _ _ R2)
    ·dsimp only;refine wpS_bind (wpS_mono (wpS_forRange (I:=fun _ c st'=>c=(none,())/\∃ m,RI rk kd a₀ rest' m st') (Q:=fun c st'=>c=(none,())/\∃ m,RI rk kd a₀ rest' m st') ?_ (fun _ _ z=>z) ⟨rfl,m,R2⟩) ?_)
     ·rintro x c st3 _ hx ⟨rfl,m',R'⟩;refine wpS_bind (wpS_get ?_);have sz:=R'.psize;have m2:∀ t,(if (pendingOf st3).size > 1 then (pendingOf st3)[(pendingOf st3).size - 2]? else none)=some t->2<=m':=fun t eo=>by
       rcases hDp 1 (pendingOf st3).size with z | z
       ·omega
       ·rw[if_neg (by omega)]at eo;cases eo
      revert m2;generalize (if (pendingOf st3).size > 1 then (pendingOf st3)[(pendingOf st3).size - 2]? else none)=bo;intro m2;rcases bo with _ | ⟨q1,q2,older⟩
      ·exact wpS_pure ⟨rfl,m',R'⟩
      ·dsimp only;split
       ·exact wpS_pure ⟨rfl,m',R'⟩
       ·have:=m2 _ rfl;refine wpS_bind (qEa ak d R' (by omega) fun st2 R2=>?_);rw[if_neg (by decide)];exact wpS_pure ⟨rfl,m' - 1,R2⟩
     ·rintro c st3 ⟨rfl,m',R'⟩;refine wpS_bind (wpS_modify ?_);refine wpS_bind (wpS_modify ?_);exact wpS_pure (fin _ _ R'.power)
 ·rintro c st' ⟨rest,m,lo,rfl,R,hl,hxl⟩;have:rest=[]:=hAy.mp (by omega);subst this;exact⟨m,lo,rfl,R⟩
 ·rintro c st' ⟨m,lo,rfl,R⟩;have mle:m<=a₀.size:=by
   obtain⟨Rs,eR,ep,hR,rfl,hk',hf',hp'⟩:=R;have:∀ (L:List (List Keyed)),(∀ R∈L,R≠[])->L.length<=L.flatten.length:=fun L=>by
    induction L with
    | nil=>intro _;simp
    | cons a L ih =>
     intro h;have:=ih fun R hR=>h R (hA4 _ hR)
     have:=hCr.mpr (h a (hA3 ..));simp at *;omega
   have h1:=this Rs fun R hR'=>(hR R hR').1
   have h2:=hp'.length_eq;rw[eR]at h2;simp at h1 h2;omega
  refine wpS_bind (wpS_mono (wpS_forRange (I:=fun x c st'=>c=(none,())/\∃ m,RI rk kd a₀ [] m st'/\(m+x<=a₀.size\/m<=1)) (Q:=fun c st'=>c=(none,())/\∃ m,RI rk kd a₀ [] m st'/\m<=1) ?_ ?_ ⟨rfl,m,R,.inl (by omega)⟩) ?_)
  ·rintro x c st2 _ hx ⟨rfl,m',R',hm⟩;have sz:=R'.psize;refine wpS_bind (wpS_get ?_);show wpS _ _ _ _ (if (pendingOf st2).size<=1 then _ else _) _ _;by_cases g:(pendingOf st2).size<=1
   ·rw[if_pos g];exact wpS_pure ⟨rfl,m',R',by omega⟩
   ·rw[if_neg g];refine wpS_bind (qEa ak d R' ?_ fun st3 R3=>?_)
    ·have le:∀ (c:Prop) [Decidable c] (i:Nat),(if c then i - 1 else i)<=i:=fun c _ i=>by split <;> omega
     exact hD9 (Nat.succ_le_succ (le _ _)) (by omega)
    ·exact wpS_pure ⟨rfl,m' - 1,R3,by omega⟩
  ·rintro c st2 ⟨rfl,m',R',hm⟩;exact⟨rfl,m',R',by omega⟩
  ·rintro c st2 ⟨rfl,m',R',hm⟩;refine wpS_pure (h _ ?_ ?_)
   ·obtain⟨Rs,eR,ep,hR,eM,hk',hf',hp'⟩:=R';exact hf'
   ·obtain⟨Rs,eR,ep,hR,rfl,hk',hf',hp'⟩:=R';refine⟨hp',?_⟩;rw[eR]
    match Rs,hm,hR with
    | [],_,_=>exact List.Pairwise.nil
    | [X],_,hR=>simpa using (hR X (by simp)).2
    | _ :: _ :: _,hm,_=>simp at hm
end
end L2
namespace L2
open PySem PySem.Spec PyProof.Rows PySem.W
section
variable {P:Program} {w:World} {A:Around} {E:Value->Shared->Prop} {s:Shared} {rk:Keyed->Int} {kd:SortKind} {D:Keyed->Prop}
theorem asks_of (h:∀ x y:Keyed,D x->D y->∀ Q:Bool->Shared->Prop,Q (decide (rk x<rk y)) s->wpAny (model P w) A (keyLt' kd x.1 y.1) Q (fun _ _=>False) s):qGl P w A E s rk kd D:=fun x y dx dy st Q hk hq=>by
 rw[lt'_eq];refine wpS_bind (wpS_get ?_);rw[hk];refine wpS_bind (wpS_lift (wpAny_attempt (wpAny_mono (h x y dx dy (fun b s'=>s'=s/\b=decide (rk x<rk y)) ⟨rfl,rfl⟩) (fun b s' z=>?_) fun _ _ (z:False)=>z.elim)));obtain⟨rfl,rfl⟩:=z;exact⟨rfl,wpS_pure hq⟩
theorem run_sort (ak:qGl P w A E s rk kd D) (d:∀ x∈pz.toList,D x) (h:∀ st',failedOf st'=none->Dn rk pz.toList (arrOf st').toList->Q ((),st') s) :
  wpAny (model P w) A (sortRuns'.run (SortSt.mk' kd pz #[] 7 none)) Q E s:=by
 have:=wp_sortRuns (a₀:=pz) (st:=SortSt.mk' kd pz #[] 7 none) (Q:=fun _ st'=>Q ((),st') s) ak d rfl rfl rfl rfl h;unfold wpS at this;exact wpAny_mono this (fun r s' ⟨e,q⟩=>by subst e;exact q) fun _ _ e=>e
end
def kLt (x y:List Str):Bool:=decide (x.length<y.length) || (decide (x.length=y.length) && ltL x y)
theorem kLt_irr (x:List Str):kLt x x=false:=by simp[kLt,ltL_irr]
theorem kLt_trans (h:kLt x y=true) (h':kLt y z=true):kLt x z=true:=by
 simp only[kLt,Bool.or_eq_true,hB7,decide_eq_true_eq]at *;rcases h with h | ⟨h,q⟩
 ·rcases h' with h' | ⟨h',q'⟩
  ·exact .inl (by omega)
  ·exact .inl (by omega)
 ·rcases h' with h' | ⟨h',q'⟩
  ·exact .inl (by omega)
  ·exact .inr ⟨by omega,qD0 _ _ _ q q'⟩
theorem kLt_tri (x y:List Str):kLt x y=true\/x=y\/kLt y x=true:=by
 simp only[kLt,Bool.or_eq_true,hB7,decide_eq_true_eq];rcases Nat.lt_trichotomy x.length y.length with h | h | h
 ·exact .inl (.inl h)
 ·rcases ltL_tri x y with q | q | q
  ·exact .inl (.inr ⟨h,q⟩)
  ·exact .inr (.inl q)
  ·exact .inr (.inr (.inr ⟨h.symm,q⟩))
 ·exact .inr (.inr (.inl h))
theorem cnt_le:∀ (l:List α),(∀ x∈l,p x=true->q x=true)->l.countP p<=l.countP q
 | [],_=>hA5 _
 | a :: l,h=>by
  rw[List.countP_cons,List.countP_cons];have:=cnt_le l fun x hx=>h x (hA4 _ hx)
  have:=h a (hA3 ..);cases hp:p a <;> cases hq:q a <;> simp_all <;> omega
theorem cnt_lt:∀ (l:List α),(∀ x∈l,p x=true->q x=true)->(∃ x∈l,q x=true/\p x=false)->l.countP p<l.countP q
 | [],_,⟨_,h,_⟩=>by cases h
 | a :: l,h,⟨x,hx,h1,h2⟩=>by
  rw[List.countP_cons,List.countP_cons];have le:=cnt_le l fun x hx=>h x (hA4 _ hx)
  have ha:=h a (hA3 ..);rcases hAa.mp hx with e | e
  ·subst e;rw[h1,h2];simp;omega
  ·have:=cnt_lt l (fun x hx=>h x (hA4 _ hx)) ⟨x,e,h1,h2⟩;cases hp:p a <;> cases hq:q a <;> simp_all <;> omega
def rankT (ts:List (List Str)) (t:List Str):Nat:=ts.countP fun u=>kLt u t
theorem rankT_lt (hx:x∈ts) (h:kLt x y=true):rankT ts x<rankT ts y:=cnt_lt ts (fun u _ q=>kLt_trans q h) ⟨x,hx,h,kLt_irr x⟩
theorem rankT_eq (hx:x∈ts) (hy:y∈ts):decide ((rankT ts x:Int)<(rankT ts y:Int))=kLt x y:=by
 rcases kLt_tri x y with h | h | h
 ·have:=rankT_lt hx h;rw[h];simp;omega
 ·subst h;rw[kLt_irr];simp
 ·have:=rankT_lt hy h;have z:kLt x y=false:=by
   cases q:kLt x y with
   | false=>rfl
   | true=>have:=kLt_trans q h;rw[kLt_irr]at this;cases this
  rw[z];simp;omega
theorem perm_lift (h:m.Perm l0):∀ l:List α,l0=l.map f->∃ l':List α,l'.Perm l/\l'.map f=m:=by
 induction h with
 | nil =>
  intro l e;cases l with
  | nil=>exact⟨[],List.Perm.nil,rfl⟩
  | cons _ _=>cases e
 | cons x p ih =>
  intro l e;cases l with
  | nil=>cases e
  | cons a l =>
   injection e with e1 e2
   obtain⟨l',p',q⟩:=ih l e2;exact⟨a :: l',p'.cons a,by rw[hAm,q,<-e1]⟩
 | swap x y l1 =>
  intro l e
  match l,e with
  | a :: b :: l,e =>
   injection e with e1 e2
   injection e2 with e2 e3
   exact⟨b :: a :: l,List.Perm.swap a b l,by rw[hAm,hAm,<-e1,<-e2,e3]⟩
 | trans p1 p2 ih1 ih2 =>
  intro l e;obtain⟨l1,q1,q2⟩:=ih2 l e;obtain⟨l2,q3,q4⟩:=ih1 l1 q2.symm;exact⟨l2,q3.trans q1,q4⟩
def qEp (h:Heap) (v:Value) (t:List Str):Prop:=∃ (k a:Addr) (tok:Tok) (its:Array Value),v = .ref k/\IsTup h k #[.int t.length tok,.ref a]/\h.IsList a its/\StrsAre its.toList t
theorem qEp.uniq (a:qEp h v t) (b:qEp h v u):t=u:=by
 obtain⟨k,p,tok,its,rfl,⟨o,e,c,n,d⟩,⟨o1,e1,c1,n1,d1⟩,st⟩:=a;obtain⟨k2,p2,tok2,its2,ek,⟨o',e',c',n',d'⟩,⟨o2,e2,c2,n2,d2⟩,st2⟩:=b;cases ek;rw[e]at e';cases e';rw[d]at d';injection d' with d' _
 have:[Value.int t.length tok,Value.ref p]=[Value.int u.length tok2,Value.ref p2]:=congrArg Array.toList d';injection this with _ h2
 injection h2 with h2 _
 cases h2;rw[e1]at e2;cases e2;rw[d1]at d2;injection d2 with d2 _
 subst d2;rw[<-st.strs,<-st2.strs]
section
variable {P:Program} {w:World} {A:Around} {E:Value->Shared->Prop} {s:Shared}
open SeqAt in
theorem eqAt_strs (hu:A.units<cLine) (ha:s.heap.IsList a i1) (hb:s.heap.IsList b i2) (hx:StrsAre i1.toList x) (hy:StrsAre i2.toList y):EqAt A s (.ref a) (.ref b) (decide (x=y)):=by
 by_cases e:a=b
 ·subst e;obtain⟨o1,e1,c1,n1,d1⟩:=ha;obtain⟨o2,e2,c2,n2,d2⟩:=hb;rw[e1]at e2;cases e2;rw[d1]at d2;injection d2 with d2 _
  subst d2;have:x=y:=by rw[<-hx.strs,<-hy.strs]
  rw[decide_eq_true this];exact EqAt.same _
 ·have l1:i1.size=x.length:=by rw[<-hx.strs];simp
  have l2:i2.size=y.length:=by rw[<-hy.strs];simp
  by_cases hs:i1.size=i2.size
  ·have q:=RcAt.lists (e:=fun j=>x.getD j "" == y.getD j "") ha hb hs hu fun j h1 h2=>by
    obtain⟨t1,q1⟩:=strs_at hx (i:=j) (by simpa using h1);obtain⟨t2,q2⟩:=strs_at hy (i:=j) (by simpa using h2);rw[hAp,hBm h1]at q1;rw[hAp,hBm h2]at q2;rw[hAv q1,hAv q2];exact EqAt.str_str _ _ _ _
   have eb:(List.range i1.size).all (fun j=>x.getD j "" == y.getD j "")=decide (x=y):=by
    rw[hDa];simp only[hCu,hBb,beq_iff_eq,decide_eq_true_eq];constructor
    ·intro h;refine List.ext_getElem (by omega) fun j h1 h2=>?_
     have:=h j (by omega);rw[hAg,hAg,hA2 h1,hA2 h2]at this;exact this
    ·intro h j _;rw[h]
   rw[eb]at q;exact EqAt.of_refs e q
  ·have ne:x≠y:=fun z=>hs (by rw[l1,l2,z])
   rw[decide_eq_false ne];exact EqAt.of_refs e (RcAt.lists_lengths ha hb (by simpa using hs) hu)
theorem ltAt_strs (hu:A.units<cLine) (hl:s.heap.IsList l items) (hb:s.heap.IsList b items2) (hx:StrsAre items.toList x) (hy:StrsAre items2.toList y)
  (h:Q (ltL x y) s):wpAny (model P w) A (oneLt' false (.ref l) (.ref b)) Q E s:=by
 obtain⟨⟨cls,dd,data,sl⟩,ho,hc,n,hd⟩:=hl;obtain⟨⟨cls2,dd2,data2,sl2⟩,ho2,hc2,n2,hd2⟩:=hb;simp only at hc hd hc2 hd2;subst hc hd hc2 hd2;rw[oneLt'_eq];simp only[hCh,if_false];refine wpAny_bind (richCompare_meets_room (op:=.Lt) ⟨_,ho,rfl⟩ ⟨_,ho2,rfl⟩ F.slot_list_lt F.entry_list_lt (F.args_list_lt_2 _ _) (list_ltS l b items items2 n n2 dd dd2 sl sl2 x y hx hy) ⟨⟨ho,ho2⟩,?_⟩ hu);refine⟨(fun z=>nomatch z),?_⟩;exact wpAny_truthy_bool h
theorem keyLt_T (hu:A.units<cLine) (hx:qEp s.heap x t) (hy:qEp s.heap y u) (h:Q (kLt t u) s):wpAny (model P w) A (keyLt' (tuples' true) x y) Q E s:=by
 obtain⟨k,a,tok,its,rfl,⟨o,e,c,n,d⟩,ha,st⟩:=hx;obtain⟨k2,a2,tok2,its2,rfl,⟨o',e',c',n',d'⟩,ha2,st2⟩:=hy;refine kat_lt e d e' d' (kat_cons (wpAny_eqBool_int (kat_go (fun q=>kat_yes (kat_cons (eqAt_strs hu ha ha2 st st2 _ _ _ _ (kat_go (fun q2=>kat_yes (kat_nil ?_)) fun q2=>kat_no ?_)))) fun q=>kat_no ?_)))
 ·have e1:t.length=u.length:=Int.ofNat.inj (eq_of_beq q);have e2:t=u:=of_decide_eq_true q2;subst e2;rw[kLt_irr]at h;exact h
 ·have e1:t.length=u.length:=Int.ofNat.inj (eq_of_beq q);refine ltAt_strs hu ha ha2 st st2 ?_;have:kLt t u=ltL t u:=by simp[kLt,e1]
  rw[this]at h;exact h
 ·have e1:t.length≠u.length:=by
   intro z;rw[z]at q;simp at q
  refine oneLt_int ?_;have:kLt t u=decide ((t.length:Int)<(u.length:Int)):=by
   simp only[kLt];rw[decide_eq_false e1];simp
  rw[this]at h;exact h
end
end L2
namespace L2
open PySem PySem.Spec PyProof.Rows PySem.W
def ExtH (H H':Hp):Prop:=∀ b o,H b=some o->H' b=some o
theorem sq_ext {K:PySem.W.Frag} {H H':Hp} {l:Addr} {xs:List V} (e:ExtH H H') (hq:SqL K H l xs):SqL K H' l xs:=by
 rcases hq with (hq | ⟨o,hq⟩) | hq
 ·exact .inl (.inl (e _ _ hq))
 ·exact .inl (.inr ⟨o,e _ _ hq⟩)
 ·exact .inr hq
theorem qEj:∀ {l:List α} {m:List β},Paired R l m->l.length=m.length
 | _,_,.nil=>rfl
 | _,_,.cons _ t=>by rw[hB1,hB1,qEj t]
theorem qGz {α β:Type} {R R':α->β->Prop} (h:∀ a b,R a b->R' a b):∀ {l:List α} {m:List β},Paired R l m->Paired R' l m
 | _,_,.nil=>.nil
 | _,_,.cons a t=>.cons (h _ _ a) (qGz h t)
theorem paired_mem:∀ {l:List α} {m:List β},Paired R l m->(∀ a b,b∈m->R a b->R' a b)->Paired R' l m
 | _,_,.nil,_=>.nil
 | _,_,.cons a t,h=>.cons (h _ _ (hA3 ..) a) (paired_mem t fun a b hb=>h a b (hA4 _ hb))
theorem qF2:∀ {l:List α} {m:List β},Paired R l m->R a b->Paired R (l++[a]) (m++[b])
 | _,_,.nil,h=>.cons h .nil
 | _,_,.cons q t,h=>.cons q (qF2 t h)
theorem qC3:∀ {l:List α} {m:List β},Paired R l m->∀ z∈l.zip m,R z.1 z.2
 | _,_,.nil,z,h=>by cases h
 | _,_,.cons q t,z,h=>by
  rcases hAa.mp h with e | e
  ·rw[e];exact q
  ·exact qC3 t z e
theorem qF8:∀ {kA:List Value} {ps:List (Addr×List Str)},Paired (fun v p=>qEp h v p.2) kA ps->∃ fs:List Value,KatTups h kA fs/\fs.length=kA.length/\∀ f∈fs,∃ n t,f=Value.int n t
 | _,_,.nil=>⟨[],KatTups.nil,rfl,fun f hf=>by cases hf⟩
 | _,_,.cons a t=>by
  obtain⟨fs,k1,k2,k3⟩:=qF8 t;obtain⟨k,p,tok,its,rfl,⟨o,e,c,n,d⟩,_,_⟩:=a;refine⟨_ :: fs,KatTups.cons e c d rfl k1,by rw[hB1,hB1,k2],fun f hf=>?_⟩;rcases hAa.mp hf with z | z
  ·exact⟨_,tok,z⟩
  ·exact k3 f z
section
variable {X:Cx}
theorem sk_endT
  (I:Inv X ((kS,seqObj "list" kA.toArray en) :: (a,seqObj "list" #[] e1) :: pins) σ H s) (hk:kS≠a) (Hk:H kS=none) (Ha:H a=none) (wa:Aw X pins a) (wk:Aw X pins kS) (hu:A.units<cLine)
  (keys:Paired (fun v p=>qEp s.heap v p.2) kA ps) (hn:ps.length<=5000)
  (h:∀ (s':Shared) (ps':List (Addr×List Str)),ps'.Perm ps->ps'.Pairwise (fun p q=>kLt q.2 p.2=false)->Inv X pins σ (upd H a (.lst (ps'.map fun p=>V.ref p.1))) s'->P (.done (.ret .none)) s') :
  wpAny (model X.prog X.w) A (ksk_end a false (ps.map fun p=>Value.ref p.1).toArray e1 (.ref kS) kA.toArray) P E' s:=by
 have lk:=qEj keys;have ok:s.heap.get? kS=some (seqObj "list" kA.toArray en):=(I.pin (kS,_) (hA6 _ (.head _))).1;have ez:(kA.toArray.zip (ps.map fun p=>Value.ref p.1).toArray).toList=(kA.zip ps).map fun z=>((z.1,Value.ref z.2.1):Keyed):=by
  rw[hDn];show kA.zip (ps.map fun p=>Value.ref p.1)=_;rw[List.zip_map_right];rfl
 have fin:∀ (st:SortSt) (Z:List (Value×(Addr×List Str))),(arrOf st).toList=Z.map (fun z=>((z.1,Value.ref z.2.1):Keyed))->Z.Perm (kA.zip ps)->(Z.map Prod.snd).Pairwise (fun p q=>kLt q.2 p.2=false)->failedOf st=none->wpAny (model X.prog X.w) A (ksk_tail a false e1 (.ref kS) st) P E' s:=by
  intro st Z hZ hp ho hf;have lz:Z.length=ps.length:=by rw[hp.length_eq,List.length_zip];omega
  have es:((arrOf st).map (·.2)).toList=(Z.map Prod.snd).map fun p=>Value.ref p.1:=by
   rw[hDm,hZ,hB2,hB2];rfl
  have sz:(arrOf st).size=ps.length:=by rw[<-hB0,hZ,hA1,lz]
  obtain⟨n1,I1,_⟩:=Inv.repinL (fun _=>(#[]:Array Value)) I.unpin (wk.cons (Ne.symm hk)) Hk ok;have oa1:(s.heap.update kS (Obj.mapSeq fun _=>(#[]:Array Value))).get? a=some (seqObj "list" #[] e1):=(I1.pin (a,_) (hA6 _ (.head _))).1;obtain⟨n2,I2,oa2⟩:=Inv.repinL (s:={ s with heap:=s.heap.update kS (Obj.mapSeq fun _=>(#[]:Array Value)) }) (fun _=>(arrOf st).map (·.2)) I1.unpin wa Ha oa1;unfold ksk_tail;try dsimp only
  refine wpAny_bind (listUpdate_at ok rfl ?_ (by rw[hAc,sizeLine_eq];omega) (hAq _));refine wpAny_bind (wpAny_letGo ?_);refine wpAny_bind (seqEpoch_at oa1 rfl ?_);refine wpAny_bind (listUpdate_at oa1 rfl ?_ (hAq _) (by simp only[hCh,if_false,Array.size_map];rw[sz,sizeLine_eq];omega));rw[hf];simp only[bne_self_eq_false,hCh,if_false];refine wpAny_pure (h _ (Z.map Prod.snd) ?_ ho ?_)
  ·have:=hp.map Prod.snd;rw[hD7 (by omega)]at this;exact this
  ·refine I2.adoptL (its:=(Z.map Prod.snd).map fun p=>Value.ref p.1) (n:=n2) wa Ha ?_ (by rw[hA1,hA1,lz,sizeLine_eq];omega) ?_
   ·have:=qDq ((Z.map Prod.snd).map Prod.fst);rw[hB2,hB2 (g:=Value.ref)]at this;exact this
   ·rw[<-es,Array.toArray_toList];exact oa2
 unfold ksk_end;try dsimp only
 simp only[hCh,if_false];by_cases h2:((ps.map fun p=>Value.ref p.1).toArray).size<2
 ·rw[if_pos h2,if_pos h2];refine wpAny_bind (wpAny_pure ?_);rw[StateT.run_pure];refine wpAny_bind (wpAny_pure ?_);try dsimp only
  refine fin (SortSt.mk' general' (kA.toArray.zip (ps.map fun p=>Value.ref p.1).toArray) #[] 7 none) (kA.zip ps) ez (hCm _) ?_ rfl;rw[hD7 (by omega)];rw[hAc,hA1]at h2
  match ps,h2 with
  | [],_=>exact List.Pairwise.nil
  | [p],_=>exact hD3 ..
 ·rw[if_neg h2,if_neg h2];rw[hAc,hA1]at h2;obtain⟨fs,kt,fl,fa⟩:=qF8 keys;refine wpAny_bind (kat_kind (T:=.type "int") kt (by omega) (fun v hv=>?_) (by decide) ?_)
  ·obtain⟨x,t,rfl⟩:=fa v hv;exact .now
  show wpAny _ _ (sortRuns'.run (SortSt.mk' (tuples' true) _ #[] 7 none) >>= _) _ _ _;have ex:∀ x:Keyed,∃ r:Int,∀ t,qEp s.heap x.1 t->r=(rankT (ps.map Prod.snd) t:Int):=fun x=>by
   by_cases c:∃ t,qEp s.heap x.1 t
   ·obtain⟨t,ht⟩:=c;exact⟨(rankT (ps.map Prod.snd) t:Int),fun u hu=>by rw[ht.uniq hu]⟩
   ·exact⟨0,fun t ht=>absurd ⟨t,ht⟩ c⟩
  obtain⟨rk,hrk⟩:∃ rk:Keyed->Int,∀ x t,qEp s.heap x.1 t->rk x=(rankT (ps.map Prod.snd) t:Int):=⟨fun x=>Classical.choose (ex x),fun x=>Classical.choose_spec (ex x)⟩;have at_:∀ z∈kA.zip ps,qEp s.heap z.1 z.2.2/\z.2.2∈ps.map Prod.snd:=fun z hz=>⟨qC3 keys z hz,hAb.mpr ⟨z.2,(List.of_mem_zip hz).2,rfl⟩⟩
  have ak:qGl X.prog X.w A E' s rk (tuples' true) (fun x=>∃ t∈ps.map Prod.snd,qEp s.heap x.1 t):=asks_of fun x y ⟨t,ht,kx⟩ ⟨u,hu',ky⟩ Q hq=>by
   rw[hrk x t kx,hrk y u ky,rankT_eq ht hu']at hq;exact keyLt_T hu kx ky hq
  refine wpAny_bind (run_sort ak (fun x hx=>?_) fun st' hf dn=>?_)
  ·rw[ez]at hx;obtain⟨z,hz,rfl⟩:=hAb.mp hx;exact⟨_,(at_ z hz).2,(at_ z hz).1⟩
  ·obtain⟨Z,pZ,eZ⟩:=perm_lift dn.1 (kA.zip ps) ez;refine fin st' Z eZ.symm pZ ?_ hf;have so:=dn.2;rw[<-eZ]at so;have so:=hBx.mp so;refine hBx.mpr (so.imp_of_mem fun {x y} hx hy le=>?_);have ax:=at_ x (pZ.mem_iff.mp hx);have ay:=at_ y (pZ.mem_iff.mp hy);rw[hrk _ _ ax.1,hrk _ _ ay.1]at le;cases c:kLt y.2.2 x.2.2 with
   | false=>rfl
   | true =>
    have:=rankT_lt ay.2 c;omega
theorem sortKeyT_core {pins:List (Addr×Obj)} {σ:St} {H1:Hp} {s1:Shared} {l f:Addr} {ps:List (Addr×List Str)} {Q:VK} (I1:Inv X pins σ H1 s1) (hq:SqL X.K H1 l (ps.map fun p=>V.ref p.1)) (hrow:∀ p∈ps,SqL X.K H1 p.1 (p.2.map V.str)) (hn:ps.length<=5000) (hu:X.A.in1.in1.units<cLine)
  (hcall:∀ p∈ps,∀ (pins':List (Addr×Obj)) (s':Shared) (H':Hp),(∀ q∈pins,q∈pins')->ExtH H1 H'->Inv X pins' σ H' s'->wpAny (model X.prog X.w) X.A.in1.in1 (call (.ref f) [.ref p.1]) (EP X pins' σ (fun v H2=>∃ k,v = .ref k/\H' k=none/\H2=upd H' k (.tup [.int p.2.length,.ref p.1]))) (fun _ _=>False) s')
  (q:∀ (r:Addr) (ps':List (Addr×List Str)) (H2:Hp),H1 r=none->ExtH H1 H2->H2 r=some (.lst (ps'.map fun p=>V.ref p.1))->ps'.Perm ps->ps'.Pairwise (fun p q=>kLt q.2 p.2=false)->Q (.ref r) H2) :
  wpAny (model X.prog X.w) X.A (call (.builtin "sorted") [.ref l] [(Str.ofString "key",.ref f)]) (EP X pins σ Q) X.xe s1:=by
 obtain⟨its,rv,pl,hz⟩:=I1.list hq;have ei:its=ps.map fun p=>Value.ref p.1:=by
  have rv':qBa ((ps.map Prod.fst).map V.ref) its:=by rw[hB2];exact rv
  have:=refs_of rv';rw[hB2]at this;exact this
 have hl:its.length=ps.length:=by rw[ei,hA1]
 refine call_function_entry_kw kind_sorted plain_sorted entry_sorted (ksk_s1 _ _) ?_;unfold Builtin.«sorted»;refine wpAny_bind (m:=checkCount "sorted" 1 1 _) (wpAny_pure ?_);refine wpAny_bind (collect_list pl.isList ?_ (by rw[sizeLine_eq];omega));refine wpAny_bind (wpAny_newList ?_ (by rw[sizeLine_eq];omega));have hsz:((s1.heap.push (seqObj "list" #[] 0)).update s1.heap.objs.size (Obj.mapSeq (·++its.toArray))).objs.size=s1.heap.objs.size+1:=by
  rw[Heap.size_update,size_push']
 have keep:∀ b o,s1.heap.get? b=some o->((s1.heap.push (seqObj "list" #[] 0)).update s1.heap.objs.size (Obj.mapSeq (·++its.toArray))).get? b=some o:=fun b o q=>by
  have hlt:b<s1.heap.objs.size:=Heap.lt_size q;rw[Heap.get?_update_ne _ _ _ _ (hAk hlt),Heap.get?_push_ne _ _ _ (hAk hlt)];exact q
 have hoL:(((s1.heap.push (seqObj "list" #[] 0)).update s1.heap.objs.size (Obj.mapSeq (·++its.toArray))).push (seqObj "list" its.toArray 0)).get? (s1.heap.objs.size+1)=some (seqObj "list" its.toArray 0):=by
  rw[<-hsz];exact Heap.get?_push_size _ rfl
 have I2:Inv X pins σ H1 { s1 with heap:=((s1.heap.push (seqObj "list" #[] 0)).update s1.heap.objs.size (Obj.mapSeq (·++its.toArray))).push (seqObj "list" its.toArray 0) } :=
  I1.kept (t':=s1.toks) fun b o q=>Heap.get?_push_of_some _ (keep b o q)
 show wpAny _ _ _ _ _ { s1 with heap:=((s1.heap.push (seqObj "list" #[] 0)).update s1.heap.objs.size (Obj.mapSeq (·++its.toArray))).push (seqObj "list" its.toArray 0) };rw[hsz];have nA:H1 (s1.heap.objs.size+1)=none:=I1.hok.fresh (hAw _);have wA:Aw X pins (s1.heap.objs.size+1):=I1.aw (hAw _);generalize s1.heap.objs.size+1=a at hoL nA wA;generalize hS:({ s1 with heap:=((s1.heap.push (seqObj "list" #[] 0)).update s1.heap.objs.size (Obj.mapSeq (·++its.toArray))).push (seqObj "list" its.toArray 0) }:Shared)=s2 at I2;have ho2:s2.heap.get? a=some (seqObj "list" its.toArray 0):=by rw[<-hS];exact hoL
 clear hoL hS;refine wpAny_bind (wpAny_holding (wpAny_call_entry_kw slot_list_sort ⟨_,ho2,rfl⟩ entry_list_sort ?body (ksk_l1 _ _)));show wpAny (model X.prog X.w) X.A.in1.in1 (Builtin.«list.sort» ⟨[.ref a],[(Str.ofString "key",.ref f)]⟩) _ _ _;rw[ksk_t1];unfold ksk_tree;refine wpAny_bind (listItems_at ho2 rfl ?_);refine wpAny_bind (listUpdate_at ho2 rfl ?_ (by rw[hAc,sizeLine_eq];omega) (hAq _));obtain⟨e1,I3,ho3⟩:=I2.repinL (fun _=>#[]) wA nA ho2;refine wpAny_bind (seqEpoch_at ho3 rfl ?_);refine wpAny_bind (wpAny_newTuple ?_ (by show its.length<=_;rw[sizeLine_eq];omega));refine wpAny_bind (wpAny_newList ?_ (hAq _));refine wpAny_holding ?_;have I4:Inv X pins σ H1 { s2 with heap:=((s2.heap.update a (Obj.mapSeq fun _=>(#[]:Array Value))).push (seqObj "tuple" its.toArray 0)) }:=I3.kept (t':=s2.toks) fun b o q=>Heap.get?_push_of_some _ q
 have nK:=I4.fresh;have wK:=I4.aw (hA5 _);have ho4:((s2.heap.update a (Obj.mapSeq fun _=>(#[]:Array Value))).push (seqObj "tuple" its.toArray 0)).get? a=some (seqObj "list" #[] e1):=Heap.get?_push_of_some _ ho3;have nka:((s2.heap.update a (Obj.mapSeq fun _=>(#[]:Array Value))).push (seqObj "tuple" its.toArray 0)).objs.size≠a:=hC9 (Heap.lt_size ho4);have I5:Inv X pins σ H1 { s2 with heap:=((s2.heap.update a (Obj.mapSeq fun _=>(#[]:Array Value))).push (seqObj "tuple" its.toArray 0)).push (seqObj "list" #[] 0) }:=I4.kept (t':=s2.toks) fun b o q=>Heap.get?_push_of_some _ q
 have ho5:(((s2.heap.update a (Obj.mapSeq fun _=>(#[]:Array Value))).push (seqObj "tuple" its.toArray 0)).push (seqObj "list" #[] 0)).get? a=some (seqObj "list" #[] e1):=Heap.get?_push_of_some _ ho4;have hk5:(((s2.heap.update a (Obj.mapSeq fun _=>(#[]:Array Value))).push (seqObj "tuple" its.toArray 0)).push (seqObj "list" #[] 0)).get? ((s2.heap.update a (Obj.mapSeq fun _=>(#[]:Array Value))).push (seqObj "tuple" its.toArray 0)).objs.size=some (seqObj "list" #[] 0):=Heap.get?_push_size _ rfl;show wpAny _ _ (ksk_rest a (.ref f) false its.toArray e1 (.ref ((s2.heap.update a (Obj.mapSeq fun _=>(#[]:Array Value))).push (seqObj "tuple" its.toArray 0)).objs.size)) _ _ { s2 with heap:=((s2.heap.update a (Obj.mapSeq fun _=>(#[]:Array Value))).push (seqObj "tuple" its.toArray 0)).push (seqObj "list" #[] 0) }
 change H1 ((s2.heap.update a (Obj.mapSeq fun _=>(#[]:Array Value))).push (seqObj "tuple" its.toArray 0)).objs.size=none at nK
 change Aw X pins ((s2.heap.update a (Obj.mapSeq fun _=>(#[]:Array Value))).push (seqObj "tuple" its.toArray 0)).objs.size at wK
 have I6:=(I5.pinL wA nA ho5).pinL (wK.cons (Ne.symm nka)) nK hk5;generalize ((s2.heap.update a (Obj.mapSeq fun _=>(#[]:Array Value))).push (seqObj "tuple" its.toArray 0)).objs.size=kS at nK wK nka I6 ⊢;generalize ({ s2 with heap:=((s2.heap.update a (Obj.mapSeq fun _=>(#[]:Array Value))).push (seqObj "tuple" its.toArray 0)).push (seqObj "list" #[] 0) }:Shared)=s6 at I6 ⊢;unfold ksk_rest;refine wpAny_bind (wpAny_rule ?_)
 first
  | rw[List.forIn_toArray]
  | (rw[<-Array.forIn_toList];simp only[List.toList_toArray])
  | rw[<-Array.forIn_toList]
 refine wpAny_bind (ksk_fold (fun i s'=>∃ (kA:List Value) (e:Nat) (H':Hp),Inv X ((kS,seqObj "list" kA.toArray e) :: (a,seqObj "list" #[] e1) :: pins) σ H' s'/\ExtH H1 H'/\Paired (fun v p=>∃ k,v=Value.ref k/\H' k=some (.tup [.int (p.2.length:Int),.ref p.1])) kA (ps.take i)) its 0 s6 ⟨[],0,H1,I6,fun _ _ z=>z,by simpa using Paired.nil⟩ ?step ?done)
 case step =>
  rintro j x s' hx ⟨kA,e,H',I',ex,hk⟩;simp only[Nat.zero_add]at hk ⊢;have hj:j<its.length:=(hAr.mp hx).1;have hjn:j<ps.length:=by omega
  have hxe:x = .ref ps[j].1:=by
   rw[ei,hAh,hA2 hjn]at hx;exact(hAv hx).symm
  subst hxe;have hz:kA.length<=its.length:=by
   have h1:=qEj hk;rw[hAj]at h1;omega
  refine wpAny_bind (wpAny_attempt (wpAny_mono (hcall ps[j] (hBw hjn) _ s' H' (fun p hp=>hA4 _ (hA4 _ hp)) ex I') (fun v s'' he=>?_) fun _ _ (hF:False)=>hF.elim));obtain⟨w,H'',I8,rw',k,rfl,nk,e8⟩:=he;cases rw';subst e8;try dsimp only
  have ok2:s''.heap.get? kS=some (seqObj "list" kA.toArray e):=(I8.pin (kS,_) (hA6 _ (.head _))).1;have nK8:upd H' k (.tup [.int ps[j].2.length,.ref ps[j].1]) kS=none:=(I8.pin (kS,_) (hA6 _ (.head _))).2.1;obtain⟨n3,I3,ok3⟩:=I8.unpin.repinL (·.push (.ref k)) (wK.cons (Ne.symm nka)) nK8 ok2;have ek:ps.take (j+1)=ps.take j++[ps[j]]:=by rw[List.take_add_one,hA2 hjn];rfl
  refine wpAny_bind (listUpdate_at ok2 rfl ?_ (by rw[hAc,sizeLine_eq];omega) (hAs (Nat.le_of_eq (Array.size_push ..)) (by rw[hAc,sizeLine_eq];omega)));have ea:kA.toArray.push (Value.ref k)=(kA++[Value.ref k]).toArray:=by simp
  rw[ea]at ok3;refine wpAny_pure ⟨rfl,kA++[.ref k],n3,_,I3.pinL (wK.cons (Ne.symm nka)) nK8 ok3,fun b o z=>?_,?_⟩
  ·have:=ex b o z;rw[qAe (qAf this nk)];exact this
  ·rw[ek];refine qF2 (qGz (fun v p ⟨k2,z1,z2⟩=>⟨k2,z1,?_⟩) hk) ⟨k,rfl,upd_same⟩;rw[qAe (qAf z2 nk)];exact z2
 case done =>
  rintro s' ⟨kA,e,H',I',ex,hk⟩;have e3:ps.take (0+its.length)=ps:=hA8 (by omega);rw[e3]at hk;have ok2:s'.heap.get? kS=some (seqObj "list" kA.toArray e):=(I'.pin (kS,_) (hA6 _ (.head _))).1;have nK':H' kS=none:=(I'.pin (kS,_) (hA6 _ (.head _))).2.1;have nA':H' a=none:=(I'.pin (a,_) (hA6 _ (.tail _ (.head _)))).2.1;try dsimp only
  refine wpAny_bind (listItems_at ok2 rfl ?_);have keys:Paired (fun v p=>qEp s'.heap v p.2) kA ps:=paired_mem hk fun v p hp ⟨k,ev,hH⟩=>by
   obtain⟨i1,r1,t1,_⟩:=I'.tuple (Or.inl (.inl hH));obtain⟨i2,r2,⟨o,n,g1,g2,_,g4⟩,_⟩:=I'.list (sq_ext ex (hrow p hp));cases r1 with
   | cons r1 rr =>
    cases rr with
    | cons r3 rr =>
     cases rr;obtain⟨tok,rfl⟩:=r1;cases r3;exact⟨k,p.1,tok,i2.toArray,ev,t1,⟨o,g1,g2,n,g4⟩,by simpa using qCb r2⟩
  subst ei;refine sk_endT I' nka nK' nA' wA wK hu keys hn fun s7 ps' hp ho I7=>⟨_,rfl,?_⟩
  refine wpAny_pure ⟨_,rfl,⟨.ref a,_,I7,rfl,q a ps' _ nA (fun b o z=>?_) upd_same hp ho⟩⟩;have:=ex b o z;rw[qAe (qAf this nA')];exact this
end
end L2
namespace L2
open PySem PySem.Spec PyProof.Rows PySem.W
theorem zip_dup:∀ vs:List Value,vs.zip vs=vs.map fun v=>((v,v):Keyed)
 | []=>rfl
 | v :: vs=>by rw[List.zip_cons_cons,hAm,zip_dup vs]
section
variable {P:Program} {w:World} {A:Around} {E:Value->Shared->Prop} {s:Shared}
theorem sort_intsN (ho:s.heap.get? a=some (seqObj "list" vs.toArray n)) (hi:IntsAre vs ns) (hn:vs.length<=5000)
  (h:∀ (out:List Value),out.Perm vs->(out.map numOf).Pairwise (·<=·)->R (.done (.ret .none)) { s with heap:=sortedHeap s.heap a vs out.toArray }):wpAny (model P w) A (Builtin.«list.sort» ⟨[.ref a],[]⟩) R E s:=by
 rw[list_sort_plain];have ha:a<s.heap.objs.size:=Heap.lt_size ho;refine wpAny_bind (listItems_at ho rfl (wpAny_bind (listUpdate_at ho rfl ?_ (by rw[hAc,sizeLine_eq];omega) (hAq _))));obtain⟨e1,ho1⟩:∃ e1,(s.heap.update a (Obj.mapSeq fun _=>#[])).get? a=some (seqObj "list" #[] e1):=⟨_,get?_update_seq ho (fun _=>#[])⟩;refine wpAny_bind (seqEpoch_at ho1 rfl (wpAny_bind (wpAny_newTuple ?_ (by show vs.length<=_;rw[sizeLine_eq];omega))));refine wpAny_bind (wpAny_newList ?_ (hAq _));refine wpAny_holding ?_;have ho6:(((s.heap.update a (Obj.mapSeq fun _=>#[])).push (seqObj "tuple" vs.toArray 0)).push (seqObj "list" #[] 0)).get? a=some (seqObj "list" #[] e1):=Heap.get?_push_of_some _ (Heap.get?_push_of_some _ ho1);have keep:∀ b o,b≠a->s.heap.get? b=some o->(((s.heap.update a (Obj.mapSeq fun _=>#[])).push (seqObj "tuple" vs.toArray 0)).push (seqObj "list" #[] 0)).get? b=some o:=fun b o hb e=>by
  refine Heap.get?_push_of_some _ (Heap.get?_push_of_some _ ?_);rw[Heap.get?_update_ne _ _ _ _ hb];exact e
 show wpAny (model P w) A _ R E { s with heap:=((s.heap.update a (Obj.mapSeq fun _=>#[])).push (seqObj "tuple" vs.toArray 0)).push (seqObj "list" #[] 0) };dsimp only;have fin:∀ (st':SortSt) (out:List Value),(arrOf st').map (·.2)=out.toArray->failedOf st'=none->out.Perm vs->(out.map numOf).Pairwise (·<=·)->wpAny (model P w) A (do
   let touched:=(← seqEpoch a) != e1
   Builtin.List.listUpdate (.ref a) fun _=>(arrOf st').map (·.2)
   if let some e:=failedOf st' then rule "list.sort.comparison-raised";throw e
   if touched then rule "list.sort.modified";raiseError "ValueError" "list modified during sort"
   ret .none) R E { s with heap:=((s.heap.update a (Obj.mapSeq fun _=>#[])).push (seqObj "tuple" vs.toArray 0)).push (seqObj "list" #[] 0) }:=by
  intro st' out e hf hp hs;refine wpAny_bind (seqEpoch_at ho6 rfl ?_);refine wpAny_bind (listUpdate_at ho6 rfl ?_ (hAq _) (by rw[e,hAc,hp.length_eq,sizeLine_eq];omega));rw[hf];simp only[bne_self_eq_false,hCh,if_false];rw[e];exact wpAny_pure (h out hp hs)
 have ez:(vs.toArray.zip vs.toArray).toList=vs.map fun v=>((v,v):Keyed):=by
  rw[hDn];exact zip_dup vs
 by_cases h2:vs.toArray.size<2
 ·rw[if_pos h2,if_pos h2];refine wpAny_bind (wpAny_pure ?_);rw[StateT.run_pure];refine wpAny_bind (wpAny_pure (fin _ vs ?_ rfl (hCm _) ?_))
  ·show(vs.toArray.zip vs.toArray).map (·.2)=vs.toArray;apply hDl.mp;rw[hDm,hDn];exact hD7 (hA5 _)
  ·rw[hAc]at h2
   match vs,h2 with
   | [],_=>exact List.Pairwise.nil
   | [p],_=>exact hD3 ..
 ·rw[if_neg h2,if_neg h2];have hl2:2<=vs.length:=by rw[hAc]at h2;omega
  rw[ksk_kind (keys:=vs.toArray) (kz:=ns) (by simpa using hi) (by rw[hAc];omega)];refine wpAny_bind (wpAny_pure ?_);have ak:qGl P w A E { s with heap:=((s.heap.update a (Obj.mapSeq fun _=>#[])).push (seqObj "tuple" vs.toArray 0)).push (seqObj "list" #[] 0) } (fun x=>numOf x.1) oneType' (fun x=>∃ n t,x.1=Value.int n t):=asks_of fun x y ⟨n,t,ex⟩ ⟨m,u,ey⟩ Q hq=>by
   rw[ex,ey]at hq;rw[ex,ey,keyLt'_oneType];exact oneLt_int hq
  refine wpAny_bind (run_sort ak (fun x hx=>?_) fun st' hf dn=>?_)
  ·rw[ez]at hx;obtain⟨v,hv,rfl⟩:=hAb.mp hx;exact hi.all v hv
  ·obtain⟨L,pL,eL⟩:=perm_lift dn.1 vs ez;refine fin st' L ?_ hf pL ?_
   ·apply hDl.mp;rw[hDm,<-eL,hB2];show L.map _=L;exact List.map_id' L
   ·have so:=dn.2;rw[<-eL]at so;have so2:=hBx.mp so;exact hBx.mpr so2
end
section
variable {X:Cx}
theorem call_sortedN:qA6 X (.builtin "sorted") (fun xs H Q=>∃ (p:Addr) (ns:List Int),xs=[.ref p]/\SqL X.K H p (ns.map V.int)/\ns.length<=5000/\∀ (r:Addr) (ns':List Int),H r=none->ns'.Perm ns->ns'.Pairwise (·<=·)->Q (.ref r) (upd H r (.lst (ns'.map V.int)))):=by
 intro pins s σ H xs us Q I r h;obtain⟨p,ns,rfl,hq,hn,q⟩:=h;obtain⟨u,rfl,rx⟩:=qCa r;cases rx;obtain⟨its,rv,pl,hz⟩:=I.list hq;have hi:=qGa rv;have hl:=hi.length;refine Calls.call_function_entry kind_sorted plain_sorted entry_sorted (args_sorted1 _) ?_;unfold Builtin.«sorted»;refine wpAny_bind (m:=checkCount "sorted" 1 1 _) (wpAny_pure (wpAny_bind (collect_list pl.isList ?_ (by rw[sizeLine_eq];omega))));refine wpAny_bind (wpAny_newList ?_ (by rw[sizeLine_eq];omega));have hsz:((s.heap.push (seqObj "list" #[] 0)).update s.heap.objs.size (Obj.mapSeq (·++its.toArray))).objs.size=s.heap.objs.size+1:=by rw[Heap.size_update,size_push']
 have hoL:(((s.heap.push (seqObj "list" #[] 0)).update s.heap.objs.size (Obj.mapSeq (·++its.toArray))).push (seqObj "list" its.toArray 0)).get? (s.heap.objs.size+1)=some (seqObj "list" its.toArray 0):=by
  rw[<-hsz];exact Heap.get?_push_size _ rfl
 have keep:∀ b o,s.heap.get? b=some o->(((s.heap.push (seqObj "list" #[] 0)).update s.heap.objs.size (Obj.mapSeq (·++its.toArray))).push (seqObj "list" its.toArray 0)).get? b=some o:=fun b o e=>by
  have hlt:b<s.heap.objs.size:=Heap.lt_size e;rw[Heap.get?_push_ne _ _ _ (by rw[hsz];exact hAk (hB6 hlt)),Heap.get?_update_ne _ _ _ _ (hAk hlt),Heap.get?_push_ne _ _ _ (hAk hlt)];exact e
 show wpAny _ _ _ _ _ { s with heap:=((s.heap.push (seqObj "list" #[] 0)).update s.heap.objs.size (Obj.mapSeq (·++its.toArray))).push (seqObj "list" its.toArray 0) };rw[hsz];refine wpAny_bind (wpAny_holding (wpAny_call_entry slot_list_sort ⟨_,hoL,rfl⟩ entry_list_sort (sort_intsN hoL hi (by omega) fun out hp hs=>⟨_,rfl,?_⟩) (args_list_sort _)));have nz:H (s.heap.objs.size+1)=none:=I.hok.fresh (hAw _);obtain⟨e,he⟩:=sortedAll_at s.heap its out.toArray;have ho:IntsAre out (out.map numOf):=intsAre_map out fun v hv=>hi.all v (hp.mem_iff.mp hv)
 have hpn:(out.map numOf).Perm ns:=by
  have:=hp.map numOf;rw[hi.nums]at this;exact this
 refine wpAny_pure ⟨_,rfl,.ref (s.heap.objs.size+1),_,I.laid (t':=s.toks) (a:=s.heap.objs.size+1) (o:=.lst ((out.map numOf).map V.int)) (h':=sortedAll s.heap its out.toArray) (fun b o eb=>sortedAll_old eb) (hAw _) ⟨?_,out,e,qFn ho,he⟩,rfl,q _ (out.map numOf) nz hpn hs⟩;rw[hA1,hA1,hp.length_eq,sizeLine_eq];omega
end
def tSortLamT (K:PySem.W.Frag) (P:Addr) (lpos:Pos) (q:Str) (t:TA):TE:=fun σ H Q=>t σ H fun vs H1=>∃ (p:Addr) (ps:List (Addr×List Str)),vs=[.ref p]/\SqL K H1 p (ps.map fun p=>V.ref p.1)/\(∀ x∈ps,SqL K H1 x.1 (x.2.map V.str))/\ps.length<=5000/\TabW H1 P lpos q /\
 ∀ (r:Addr) (ps':List (Addr×List Str)) (H2:Hp),H1 r=none->ExtB P H1 H2->H2 r=some (.lst (ps'.map fun p=>V.ref p.1))->ps'.Perm ps->ps'.Pairwise (fun p q=>kLt q.2 p.2=false)->TabW H2 P lpos q->Q (.ref r) H2
section
variable {X:Cx} {k:Nat}
theorem pe_sortLamT (L:LamAt X c P) (hr:Room (k+2) X.A) (hg:Gl X "sorted") (hm:X.mg "sorted" = none) (ha:PA X [e] t)
  (S:FnScope [x] [x] scope) (hcl:closureFor scope X.env=pure []) (hdef:defaultsOf params X.env=([],[]))
  (hb:∀ (nm ql:Str) (pm cd ct u:Value),bindArgs { name:=nm,qualname:=ql,params,body:=.expr body,scope,globals:=mainGlobals,closure:=[],defaults:=.none,kwdefaults:=.none,doc:=.none,pyModule:=pm,annotations:=none,code:=cd,closureTuple:=ct,builtins:=builtinsNs } ⟨[u],[]⟩=pure [(x,u)])
  (hbody:∀ (A:Around) (s:Shared) (H:Hp) (f:Addr) (cd:Value) (qual:Str),PE (qB5 CX0 X.prog X.w X.K X.mg X.base [x] qual scope f cd A X.stack s H E0) body te)
  (hte:∀ (a:Addr) (t:List Str) (H:Hp) (Q:VK),SqL X.K H a (t.map V.str)->(∀ k,H k=none->Q (.ref k) (upd H k (.tup [.int t.length,.ref a])))->te [some (.ref a)] H Q)
  (he:backTo pos (starEach [e] X.env)=(false,eval e X.env) :: backTo pos (starEach [] X.env):=by rfl)
  (hplain:(backTo pos (starEach [e] X.env)).any (·.1)=false:=by rfl):PE X (.Call (.Name "sorted" p) [e] [⟨some "key",.Lambda params body scope lpos,kp⟩] pos) (tSortLamT X.K P lpos (X.env.qual++"<lambda>") t):=by
 intro pins s σ H Q I h;refine wpAny_Call_Name_kw (qEx I hg hm (by decide +kernel:bootBuiltins "sorted" = some (.builtin "sorted")) ?_ (by decide) (by decide));refine PyProof.Rows.callWith_kw (thn (ha pos pins s σ H _ I h) fun us s1 ⟨vs,H1,I1,r1,q1⟩=>?_) he hplain;obtain⟨l,ps,rfl,hq,hrow,hn,tw,q⟩:=q1;obtain⟨u,rfl,rx⟩:=qCa r1;cases rx;have hgs:s1.heap.Ns mainGlobals X.mg:=I1.ok.mod.glob.keeps I1.bk;obtain⟨bm,ob,b1,b2,b3,b4,b5,b6⟩:=L.bl;have rest:∀ (c':Addr) (ctv:Value) (h':Heap) (tk:Nat) (H2:Hp),Inv X pins σ H2 { s1 with heap:=h'.push (PySem.W.kla_obj "<lambda>" (X.env.qual++"<lambda>") params body scope [] ((X.mg "__name__").getD .none) c' ctv),toks:=tk }->H2 c'=some (codeO c' (X.env.qual++"<lambda>"))->H2 h'.objs.size=none->Aw X pins h'.objs.size->(∃ ps,H1 P=some (.tbl ps))->ExtB P H1 H2->TabW H2 P lpos (X.env.qual++"<lambda>")->(∀ r,H2 r=none->H1 r=none) ->
   wpAny (model X.prog X.w) X.A (call (.builtin "sorted") [.ref l] [(Str.ofString "key",.ref h'.objs.size)]) (EP X pins σ Q) X.xe { s1 with heap:=h'.push (PySem.W.kla_obj "<lambda>" (X.env.qual++"<lambda>") params body scope [] ((X.mg "__name__").getD .none) c' ctv),toks:=tk }:=by
  intro c' ctv h' tk H2 I2 hc' nF wF ⟨ps,hP⟩ eB tw2 back;have I3:Inv X ((h'.objs.size,PySem.W.kla_obj "<lambda>" (X.env.qual++"<lambda>") params body scope [] ((X.mg "__name__").getD .none) c' ctv) :: pins) σ H2
    { s1 with heap:=h'.push (PySem.W.kla_obj "<lambda>" (X.env.qual++"<lambda>") params body scope [] ((X.mg "__name__").getD .none) c' ctv),toks:=tk }:=I2.pins_of fun p hp=>by
   rcases hAa.mp hp with rfl | hp
   ·exact⟨Heap.get?_push_size _ rfl,nF,wF.loc,wF.fs,fun v z=>by cases z⟩
   ·exact I2.pin p (hA6 _ hp)
  refine wpAny_mono (sortKeyT_core (Q:=Q) I3 (sq_B hP eB hq) (fun p hp=>sq_B hP eB (hrow p hp)) hn (by have:=(Room.in1 (Room.in1 hr)).un;omega) (fun p hp pins' s' H' sub ex I'=>?_) (fun r ps' H3 nr ex e3 hp ho=>?_)) (fun v s' ⟨y,H',J,ry,qq⟩=>⟨y,H',J.unpin,ry,qq⟩) fun _ _ z=>z
  ·have ho:=(I'.pin _ (hA6 _ (sub _ (.head _)))).1;have hcr:s'.heap.CodeRec (.ref c') (X.env.qual++"<lambda>"):=(I'.hok c' _ (ex _ _ hc')).1;refine wpAny_call (codeAny_mono (run_lam (v:=.ref p.1) (t:=te) (Q:=fun v H2=>∃ k,v = .ref k/\H' k=none/\H2=upd H' k (.tup [.int p.2.length,.ref p.1])) (Room.in1 (Room.in1 hr)) I'.env0.in1.in1 ho hcr S (hb _ _ _ _ _ _) rfl (hbody _ _ _ _ _ _) (hte p.1 p.2 H' _ (sq_ext ex (sq_B hP eB (hrow p hp))) fun k nk=>⟨k,rfl,nk,rfl⟩)) fun r s'' hq=>?_);cases r with
   | error e=>exact False.elim hq
   | ok fl =>
    cases fl with
    | ret u=>exact I'.after hq
    | next=>exact False.elim hq
    | brk=>exact False.elim hq
    | cont=>exact False.elim hq
  ·exact q r ps' H3 (back r nr) (fun b o hb e=>ex b o (eB b o hb e)) e3 hp ho (tw2.ext ex)
 rcases tw with hP | ⟨c',hP,hc'⟩
 ·have hPh:s1.heap.get? P=some (PySem.W.tabObj #[]):=I1.hok P _ hP;have hgP:mainGlobals≠P:=fun z=>by
   obtain⟨o,es,ep,e1,hd,_⟩:=hgs;rw[z,hPh]at e1;cases e1;cases hd
  refine PyProof.Rows.kws_cons (PySem.W.kla_eval hdef (PySem.W.kla_makeFunction (mg:=X.mg) hcl I1.ok.glob hgs L.code (L.hd.keeps I1.bk) hPh trivial rfl hgP ⟨bm,ob,b1,b2,b3,b4,I1.bk _ _ b5,b6⟩ fun c' ctv h' tk hx hge hlt hrec htb=>PyProof.Rows.kws_nil ?_));have hsz:s1.heap.objs.size<=h'.objs.size:=hB3 (hD9 hge hlt);have I2:=I1.grown (more:=#[rawInt lpos.line,rawInt lpos.col,.ref c']) (tk:=tk) (h':=h'.push (PySem.W.kla_obj "<lambda>" (X.env.qual++"<lambda>") params body scope [] ((X.mg "__name__").getD .none) c' ctv)) hP (fun b o hb e=>Heap.get?_push_of_some _ (hx b o hb e)) (Heap.get?_push_of_some _ htb);have hPlt:P<s1.heap.objs.size:=Heap.lt_size hPh;have nC1:H1 c'=none:=I1.hok.fresh hge;have nC:upd H1 P (.tbl (#[]++#[rawInt lpos.line,rawInt lpos.col,.ref c'])) c'=none:=by
   rw[qAe (hC9 (hAi hPlt hge))];exact nC1
  have wC:Aw X pins c':=I1.aw hge;have I3:=I2.adoptX wC nC (codeO_ok (hrec.keeps fun b o e=>Heap.get?_push_of_some _ e));have nF1:H1 h'.objs.size=none:=I1.hok.fresh hsz;refine rest c' ctv h' tk _ I3 upd_same ?_ (I1.aw hsz) ⟨_,hP⟩ (fun b o hb e=>?_) (.inr ⟨c',?_,upd_same⟩) fun r hr0=>?_
  ·rw[qAe (hC9 hlt),qAe (hC9 (hAi hPlt hsz))];exact nF1
  ·rw[qAe (qAf e nC1),qAe hb];exact e
  ·rw[qAe (hAk (hAi hPlt hge)),upd_same];simp
  ·by_cases h1:r=c'
   ·rw[h1];exact nC1
   ·rw[qAe h1]at hr0;by_cases h2:r=P
    ·rw[h2,upd_same]at hr0;cases hr0
    ·rw[qAe h2]at hr0;exact hr0
 ·have hPh:s1.heap.get? P=some (PySem.W.tabObj #[rawInt lpos.line,rawInt lpos.col,.ref c']):=I1.hok P _ hP;refine PyProof.Rows.kws_cons (PySem.W.kla_eval hdef (PySem.W.kla_makeFunctionHit (mg:=X.mg) hcl I1.ok.glob hgs L.code (L.hd.keeps I1.bk) hPh ?tri (among3 lpos _) ⟨bm,ob,b1,b2,b3,b4,I1.bk _ _ b5,b6⟩ fun ctv h' tk hk hsz=>PyProof.Rows.kws_nil ?_))
  case tri=>trivial
  have I2:Inv X pins σ H1 { s1 with heap:=h'.push (PySem.W.kla_obj "<lambda>" (X.env.qual++"<lambda>") params body scope [] ((X.mg "__name__").getD .none) c' ctv),toks:=tk }:=I1.kept (t':=tk) fun b o e=>Heap.get?_push_of_some _ (hk b o e)
  exact rest c' ctv h' tk H1 I2 hc' (I1.hok.fresh hsz) (I1.aw hsz) ⟨_,hP⟩ (fun b o _ e=>e) (.inr ⟨c',hP,hc'⟩) fun r z=>z
end
end L2
namespace L2
open PySem PySem.Spec PyProof.Rows
end L2
namespace L2
open PySem PySem.Spec PyProof.Rows PySem.SeqAt
section
variable {X:Cx}
theorem op_isB:OpR X (compareOp .Is) (fun x y H Q=>∃ a b,x = .bl a/\y = .bl b/\Q (.bl (decide (a=b))) H):=by
 intro pins s σ H x y v u Q I rx ry h;obtain⟨a,b,rfl,rfl,q⟩:=h;cases rx;cases ry;exact wpAny_is_plain rfl (fin_bl I q (by cases a <;> cases b <;> rfl))
theorem op_isnB:OpR X (compareOp .IsNot) (fun x y H Q=>∃ a b,x = .bl a/\y = .bl b/\Q (.bl (!decide (a=b))) H):=by
 intro pins s σ H x y v u Q I rx ry h;obtain⟨a,b,rfl,rfl,q⟩:=h;cases rx;cases ry;exact wpAny_isNot_plain rfl (fin_bl I q (by cases a <;> cases b <;> rfl))
end
end L2
namespace L2
open PySem PySem.Spec PyProof.Rows
end L2
namespace My
open PySem L2
def trD (t:Tr):PyData:=.tuple [.str t.1,.str t.2.1,.str t.2.2]
def netD (net:List Tr):PyData:=.list (net.map trD)
theorem eqv_tr (t:Tr):PyData.eqv (trD t) (trD t)=true:=by
 show(t.1 == t.1 && (t.2.1 == t.2.1 && (t.2.2 == t.2.2 && true)))=true;simp
theorem eqv_net:∀ net:List Tr,PyData.eqv (netD net) (netD net)=true
 | []=>rfl
 | t :: r=>by
  have ih:PyData.eqvAll (r.map trD) (r.map trD)=true:=eqv_net r;show(PyData.eqv (trD t) (trD t) && PyData.eqvAll (r.map trD) (r.map trD))=true;rw[eqv_tr,ih];rfl
theorem lay_net:∀ {net:List Tr},TxN net->PyData.canLayAll0 (net.map trD)=true/\PyData.depthAll (net.map trD)<=1
 | [],_=>⟨rfl,by decide⟩
 | t :: r,h=>by
  obtain⟨h1,h2⟩:=lay_net (net:=r) fun y hy=>h y (hA4 _ hy)
  obtain⟨t1,t2,t3⟩:=h t hA3;refine⟨?_,?_⟩
  ·show((PyData.strOk t.1 && (PyData.strOk t.2.1 && (PyData.strOk t.2.2 && true))) && PyData.canLayAll0 (r.map trD))=true;rw[h1,t1.ok,t2.ok,t3.ok];rfl
  ·show max (max 0 (max 0 (max 0 0))+1) (PyData.depthAll (r.map trD))<=1;omega
theorem qC0 {net:List Tr} (h:TxN net):SeqAt.shaped (netD net)=true:=by
 obtain⟨h3,h4⟩:=lay_net h;show(PyData.canLayAll0 (net.map trD) && decide (PyData.depthAll (net.map trD)+1<=64))=true;rw[h3,decide_eq_true (by omega)];rfl
theorem drs_net {K:PySem.W.Frag} {H:Hp}:∀ {as:List Addr} {net:List Tr},Paired (fun a t=>H a=some (.tup (trV t))) as net->DRs K H (as.map V.ref) (net.map trD)
 | _,_,.nil=>.nil
 | _,_,.cons h t=>.cons (.tup (SqT.of h) (.cons (.str _) (.cons (.str _) (.cons (.str _) .nil)))) (drs_net t)
theorem dr_net {K:PySem.W.Frag} {H:Hp} {p:Addr} {net:List Tr} (h:qA8 H p net):DR K H (.ref p) (netD net):=by
 obtain⟨as,h1,h2⟩:=h;exact .lst (SqL.of h1) (drs_net h2)
theorem qGr:SeqAt.shaped (.list [])=true:=by decide +kernel
theorem dr_nil {K:PySem.W.Frag} {H:Hp} {p:Addr} (h:H p=some (.lst [])):DR K H (.ref p) (.list []):=.lst (SqL.of h) .nil
def sumF (N:List Nat):List Nat:=N.foldl (fun S x=>S++S.map fun z=>z^^^x) [0]
theorem qDs (N:List Nat) (x:Nat):sumF (N++[x])=sumF N++(sumF N).map fun z=>z^^^x:=by unfold sumF;rw[hCo];rfl
theorem spn_snoc {l:List Nat} {x z:Nat}:Spn (l++[x]) z↔Spn l z\/Spn l (z^^^x):=by
 constructor
 ·intro h
  induction h with
  | zero=>exact .inl .zero
  | add hm _ ih =>
   rename_i m y _;rcases hAe.mp hm with w | w
   ·rcases ih with i | i
    ·exact .inl (.add w i)
    ·refine .inr ?_;have:=Spn.add w i;rw[<-Nat.xor_assoc]at this;exact this
   ·rw[hA7]at w;subst w;rcases ih with i | i
    ·refine .inr ?_;rw[Nat.xor_comm m y,qBx];exact i
    ·refine .inl ?_;rw[Nat.xor_comm m y];exact i
 ·have up:∀ {y},Spn l y->Spn (l++[x]) y:=fun hy=>hy.mono fun u hu=>.mem (hAn _ hu)
  rintro(h | h)
  ·exact up h
  ·have:=(up h).xor (Spn.mem (by simp:x∈l++[x]));rw[qBx]at this;exact this
theorem sumF_spn (N:List Nat):∀ z,z∈sumF N↔Spn N z:=by
 refine snocN (P:=fun N=>∀ z,z∈sumF N↔Spn N z) (fun z=>?_) (fun l x ih z=>?_) N
 ·constructor
  ·intro h;have:z=0:=by simpa [sumF] using h
   rw[this];exact .zero
  ·intro h;have:z=0:=by
    cases h with
    | zero=>rfl
    | add hm _=>cases hm
   rw[this];simp[sumF]
 ·rw[qDs,hAe,spn_snoc,ih,hAb];refine or_congr Iff.rfl ⟨fun ⟨y,hy,e⟩=>?_,fun h=>⟨z^^^x,(ih _).mpr h,qBx z x⟩⟩;rw[<-e,qBx];exact(ih y).mp hy
theorem qFb (N:List Nat):(sumF N).length=2^N.length:=by
 refine snocN (P:=fun N=>(sumF N).length=2^N.length) rfl (fun l x ih=>?_) N;rw[qDs,hAd,hA1,ih,hAd];show _=2^(l.length+1);rw[Nat.pow_succ];omega
theorem len_lt {l:List Nat} (nd:l.Nodup) {m:Nat} (h:∀ x∈l,x<m):l.length<=m:=by
 have p:l.Perm ((List.range m).filter fun x=>decide (x∈l)):=(hCb nd (List.nodup_range.sublist hB5)).mpr fun a=>by
  rw[hAf,hBb,decide_eq_true_iff];exact⟨fun ha=>⟨h a ha,ha⟩,fun ha=>ha.2⟩
 rw[p.length_eq];exact hAs (hAt _ _) (by rw[hC3];exact hA5 _)
abbrev RwO (F:List (List Str)):Prop:=F.Pairwise fun a b=>kLt b a=false
structure Kp (H H':Hp):Prop where
 k:∀ b o,(∀ ps,o≠.tbl ps)->H b=some o->H' b=some o
 n:∀ b,H' b=none->H b=none
theorem kp_B {P:Addr} {H H':Hp} {ps ps':Array Value} (e:ExtB P H H') (h:H P=some (.tbl ps)) (h':H' P=some (.tbl ps')):Kp H H':=by
 refine⟨fun b o n q=>e b o (fun z=>by rw[z,h]at q;cases q;exact n _ rfl) q,fun b q=>?_⟩;cases r:H b with
 | none=>rfl
 | some o =>
  have:=e b o (fun z=>by rw[z,h']at q;cases q) r;rw[q]at this;cases this
theorem Kp.ls {H H':Hp} (e:Kp H H') {a:Addr} {r:List Str} (h:LsS H a r):LsS H' a r:=e.k _ _ (fun _ z=>by cases z) h
theorem Kp.lst {H H':Hp} (e:Kp H H') {a:Addr} {r:List V} (h:H a=some (.lst r)):H' a=some (.lst r):=e.k _ _ (fun _ z=>by cases z) h
theorem qCd {n:Nat} (h:n<=5000):n<sizeLine:=hD9 h (by decide)
def Inn (z k:Nat):Prop:=∀ i,z.testBit i=true->k.testBit i=true
theorem inn_of {z k:Nat} (h:z&&&k=z):Inn z k:=fun i hi=>by
 rw[<-h,hDg,hB7]at hi;exact hi.2
theorem inn_and {z k:Nat} (h:Inn z k):z&&&k=z:=hCk fun i=>by
 rw[hDg];cases q:z.testBit i with
 | false=>rfl
 | true=>rw[h i q];rfl
theorem inn_trans {a b c:Nat} (h:Inn a b) (h':Inn b c):Inn a c:=fun i hi=>h' i (h i hi)
def Lst (N:List Nat) (t:Nat):Prop:=Spn N t/\t≠0/\∀ o,Spn N o->o≠0->Inn o t->o=t
theorem sumF_nd (S:List Nat):RR S->(sumF S).Nodup:=by
 refine snocN (P:=fun S=>RR S->(sumF S).Nodup) (fun _=>by show [0].Nodup;simp) (fun l x ih r=>?_) S;have rl:RR l:=⟨fun s hs=>r.nz s (hAn _ hs),r.ap.sublist (List.sublist_append_left l [x])⟩;have hx:x∈l++[x]:=hA6 _ (hA7.mpr rfl);have hap:=hAz.mp r.ap;have bit:∀ s∈l,s.testBit x.log2=false:=fun s hs=>(hap.2.2 s hs x (hA7.mpr rfl)).2
 have sb:∀ z∈sumF l,z.testBit x.log2=false:=fun z hz=>spn_bit bit ((sumF_spn l z).mp hz)
 rw[qDs,hCc];refine⟨ih rl,?_,fun a ha b hb e=>?_⟩
 ·refine hBx.mpr ((ih rl).imp fun {a b} ne e=>ne ?_);have:=congrArg (fun z=>z^^^x) e;simp only[qBx]at this;exact this
 ·obtain⟨c,hc,rfl⟩:=hAb.mp hb;have h1:=sb a ha;rw[e,hBk,sb c hc,r.self hx]at h1;cases h1
def rmOk (told:List Nat) (m:Nat):Bool:=!decide (m=0) && !(told.any fun o=>decide (o&&&m=o))
def rmS (told:List Nat) (m:Nat):List Nat:=if rmOk told m=true then told++[m] else told
def rmF (L:List Nat):List Nat:=L.foldl rmS []
theorem rmF_snoc (L:List Nat) (m:Nat):rmF (L++[m])=rmS (rmF L) m:=by unfold rmF;rw[hCo];rfl
theorem rmF_len (L:List Nat):(rmF L).length<=L.length:=by
 refine snocN (P:=fun L=>(rmF L).length<=L.length) (hA5 _) (fun l m ih=>?_) L;rw[rmF_snoc];unfold rmS;split
 ·rw[hAd,hAd];exact Nat.add_le_add_right ih 1
 ·rw[hAd];omega
theorem inn_le {a b:Nat} (h:Inn a b):a<=b:=by
 have:=inn_and h;rw[<-this];exact Nat.and_le_right
theorem least_ex (P:List Nat):∀ (n y:Nat),y<n->y∈P->y≠0->∃ z∈P,z≠0/\Inn z y/\∀ w∈P,w≠0->Inn w z->w=z
 | 0,y,h,_,_=>absurd h (hCf _)
 | n+1,y,h,hy,nz=>by
  by_cases c:∀ w∈P,w≠0->Inn w y->w=y
  ·exact⟨y,hy,nz,fun _ z=>z,c⟩
  ·obtain⟨w,hw⟩:=Classical.not_forall.mp c;have hw:w∈P/\w≠0/\Inn w y/\w≠y:=by
    by_cases a:w∈P
    ·by_cases b:w≠0
     ·by_cases d:Inn w y
      ·exact⟨a,b,d,fun e=>hw fun _ _ _=>e⟩
      ·exact absurd (fun _ _ q=>absurd q d) hw
     ·exact absurd (fun _ q _=>absurd q b) hw
    ·exact absurd (fun q _ _=>absurd q a) hw
   have lt:w<y:=Nat.lt_of_le_of_ne (inn_le hw.2.2.1) hw.2.2.2;obtain⟨z,z1,z2,z3,z4⟩:=least_ex P n w (by omega) hw.1 hw.2.1;exact⟨z,z1,z2,inn_trans z3 hw.2.2.1,z4⟩
theorem mem_rmF (L:List Nat):L.Pairwise (· < ·)->∀ z,z∈rmF L↔z∈L/\z≠0/\∀ y∈L,y≠0->Inn y z->y=z:=by
 refine snocN (P:=fun L=>L.Pairwise (· < ·)->∀ z,z∈rmF L↔z∈L/\z≠0/\∀ y∈L,y≠0->Inn y z->y=z) (fun _ z=>⟨fun h=>(by cases h),fun h=>(by cases h.1)⟩) (fun l m ih hp z=>?_) L;obtain⟨p1,_,p3⟩:=hAz.mp hp;have below:∀ y∈l,y<m:=fun y hy=>p3 y hy m (hA7.mpr rfl)
 have ih:=ih p1;have any:(rmF l).any (fun o=>decide (o&&&m=o))=true↔∃ o∈rmF l,Inn o m:=by
  rw[List.any_eq_true];exact⟨fun ⟨o,h1,h2⟩=>⟨o,h1,inn_of (of_decide_eq_true h2)⟩,fun ⟨o,h1,h2⟩=>⟨o,h1,decide_eq_true (inn_and h2)⟩⟩
 have ok:rmOk (rmF l) m=true↔m≠0/\¬∃ o∈rmF l,Inn o m:=by
  unfold rmOk;rw[hB7,<-any];simp
 have hS:z∈rmS (rmF l) m↔z∈rmF l\/(z=m/\rmOk (rmF l) m=true):=by
  unfold rmS;split
  ·rename_i c;rw[hAe,hA7];exact⟨fun h=>h.imp id fun e=>⟨e,c⟩,fun h=>h.imp id fun e=>e.1⟩
  ·rename_i c;exact⟨fun h=>.inl h,fun h=>h.elim id fun e=>absurd e.2 c⟩
 rw[rmF_snoc,hS,ok];constructor
 ·rintro(h | ⟨rfl,h1,h2⟩)
  ·obtain⟨a,b,c⟩:=(ih z).mp h;refine⟨hAn _ a,b,fun y hy nz hi=>?_⟩;rcases hAe.mp hy with q | q
   ·exact c y q nz hi
   ·rw[hA7.mp q]at hi;have:=inn_le hi;have:=below z a;omega
  ·refine⟨by simp,h1,fun y hy nz hi=>?_⟩;rcases hAe.mp hy with q | q
   ·obtain⟨w,w1,w2,w3,w4⟩:=least_ex l (y+1) y (by omega) q nz;exact absurd ⟨w,(ih w).mpr ⟨w1,w2,w4⟩,inn_trans w3 hi⟩ h2
   ·exact hA7.mp q
 ·rintro⟨a,b,c⟩;rcases hAe.mp a with q | q
  ·exact .inl ((ih z).mpr ⟨q,b,fun y hy=>c y (hAn _ hy)⟩)
  ·have e:=hA7.mp q;subst e;refine .inr ⟨rfl,b,?_⟩;rintro⟨o,h1,h2⟩;obtain⟨o1,o2,_⟩:=(ih o).mp h1;have:=c o (hAn _ o1) o2 h2;have:=below o o1;omega
end My
namespace My
open PySem L2
def spSums:Sp:=fun vs H Q _=>∃ (p:Addr) (N:List Nat),vs=[.ref p]/\LsN H p N/\N.length<=12/\∀ r H',Ext H H'->H r=none->LsN H' r (sumF N)->Q (.ref r) H'
def lpI:Pos:=match (qAo qEt).getD 0 (.Pass ⟨0,0,0,0⟩) with
 | .Return (some (.Call _ _ [⟨_,.Lambda _ _ _ p,_⟩] _)) _=>p
 | _=>⟨0,0,0,0⟩
abbrev qI:Str:=("in_order" : Str)++".<locals>."++"<lambda>"
theorem Ext.toB {P:Addr} {H H':Hp} (e:Ext H H'):ExtB P H H':=fun b o _ h=>e b o h
theorem _root_.L2.ExtB.trans {P:Addr} {H H1 H2:Hp} (a:ExtB P H H1) (b:ExtB P H1 H2):ExtB P H H2:=fun c o n h=>b c o n (a c o n h)
theorem TabW.extE {H H':Hp} {P:Addr} {lpos:Pos} {q:Str} (h:TabW H P lpos q) (e:Ext H H'):TabW H' P lpos q:=h.ext e
theorem TabW.tb {H:Hp} {P:Addr} {lpos:Pos} {q:Str} (h:TabW H P lpos q):∃ ps,H P=some (.tbl ps):=by
 rcases h with h | ⟨c,h,_⟩
 ·exact⟨_,h⟩
 ·exact⟨_,h⟩
def spInOrd (Pt:Addr):Sp:=fun vs H Q _=>∃ (p:Addr) (F:List (List Str)),vs=[.ref p]/\qCx H p F/\F.length<=5000/\TabW H Pt lpI qI/\∀ (r:Addr) (F':List (List Str)) (H':Hp),ExtB Pt H H'->H r=none->qCx H' r F'->F'.Perm F->RwO F'->TabW H' Pt lpI qI->Q (.ref r) H'
theorem nat_ints {ns:List Int} {ms:List Nat} (p:ns.Perm (ms.map fun n:Nat=>(n:Int))):∃ hs:List Nat,ns=hs.map (fun n:Nat=>(n:Int))/\hs.Perm ms:=by
 refine⟨ns.map Int.toNat,?_,?_⟩
 ·rw[hB2];refine(List.map_id' ns).symm.trans (hBu fun x hx=>?_);obtain⟨n,_,rfl⟩:=hAb.mp (p.mem_iff.mp hx);rfl
 ·have:=p.map Int.toNat;rw[hB2]at this;refine this.trans (List.Perm.of_eq ?_);exact(hBu fun x _=>(hC2 x)).trans (List.map_id' ms)
theorem Ext.over' {H H':Hp} {p:Addr} {o:HO} (e:Ext (upd H p o) H') (h:H p=Option.none):Ext H H':=fun b u q=>e b u (by rw[qAe (qAf q h)];exact q)
def spRMas:Sp:=fun vs H Q _=>∃ (p:Addr) (ms:List Nat),vs=[.ref p]/\LsN H p ms/\ms.length<=12/\∀ (r:Addr) (L:List Nat) (H':Hp),Ext H H'->H r=none->L.Perm (sumF ms)->L.Pairwise (·<=·)->LsN H' r (rmF L)->Q (.ref r) H'
def spRounds (Pt:Addr):Sp:=fun vs H Q _=>∃ (T:Addr) (names:List Str) (rows:List (List Str)),vs=[.ref T]/\TabIn H T names rows/\names.length<=12/\rows.length<=24/\TabW H Pt lpI qI/\∀ (r:Addr) (M L:List Nat) (F:List (List Str)) (H':Hp),ExtB Pt H H'->H r=none->qCx H' r F->M.Perm (red (rows.map (qA3 names)))->L.Perm (sumF M)->L.Pairwise (·<=·)->F.Perm ((rmF L).map (rowM names))->RwO F->TabW H' Pt lpI qI->Q (.ref r) H'
def rLenS (K:PySem.W.Frag):List V->Hp->VK->Prop:=fun xs H Q=>∃ p ys,xs=[.ref p]/\(SqL K H p ys\/SqT K H p ys)/\Q (.int ys.length) H
theorem lam_te (K:PySem.W.Frag) (a:Addr) (t:List Str) (H:Hp) (Q:VK) (hs:SqL K H a (t.map V.str)) (q:∀ k,H k=none->Q (.ref k) (upd H k (.tup [.int t.length,.ref a]))):(tTup (qE2 (tCB (rLenS K) (qE2 (tVar 0) tNil)) (qE2 (tVar 0) tNil))) [some (.ref a)] H Q:=by
 refine⟨_,rfl,a,_,rfl,.inl hs,_,rfl,(by show 2<=sizeLine;decide),fun k hk=>?_⟩;rw[hA1];exact q k hk
theorem qGx {α β:Type} {R:α->β->Prop}:∀ {l:List (α×β)},(∀ x∈l,R x.1 x.2)->Paired R (l.map Prod.fst) (l.map Prod.snd)
 | [],_=>.nil
 | x :: l,h=>.cons (h x hA3) (qGx fun y hy=>h y (hA4 _ hy))
theorem rr_len {M:List Nat} {m:Nat} (h:RR M) (lt:∀ x∈M,x<2^m):M.length<=m:=by
 have:=len_lt (ld_nd h) (m:=m) fun x hx=>by
  obtain⟨s,hs,rfl⟩:=hAb.mp hx;exact(Nat.log2_lt (h.nz s hs)).mpr (lt s hs)
 rw[hA1]at this;exact this
theorem masks_lt {names:List Str} (rows:List (List Str)):∀ x∈rows.map (qA3 names),x<2^names.length:=fun x hx=>by
 obtain⟨r,_,rfl⟩:=hAb.mp hx;exact qC5 names r
theorem step_rr {names:List Str} {rows:List (List Str)} {M:List Nat} (p:M.Perm (red (rows.map (qA3 names)))):RR M/\(∀ x∈M,x<2^names.length)/\M.length<=names.length:=by
 have rr:RR M:=(qGw _).perm p;have lt:∀ x∈M,x<2^names.length:=fun x hx=>red_lt (masks_lt rows) x (p.mem_iff.mp hx)
 exact⟨rr,lt,rr_len rr lt⟩
section
variable {P:Program} {w:World} {K:PySem.W.Frag} {mg:Str->Option Value} {base:Heap} {f f1 f2 f3 f4 c Pt:Addr} {fd fd1 fd2 fd3 fd4:FuncData}
abbrev suN:List Str:=["masks","told","mask"]
theorem scSums:FnScope suN ["masks"] (qAb sSums):=⟨rfl,rfl,rfl,by decide +kernel,rfl,by decide +kernel,by decide +kernel⟩
theorem ok_sums (F:Fun K "sums" "sums" sSums f fd):FnOk P w K mg base CX0 1 f fd ["masks"] spSums:=by
 refine F.ok scSums (fun vs H Q E h=>?_) (fun cdv A outer s H vs Q E hr h=>?_)
 ·obtain⟨p,N,rfl,_⟩:=h;rfl
 obtain⟨p,N,rfl,hN,lN,q⟩:=h;refine⟨_,pss_cons (qAn (i:=1) scSums.nd rfl (Or.inl rfl) (qBk (qAa qAd qAc))) (pss_cons (qB6 PassesOwn.never rfl (qAv (pv 0)) (qAg (i:=2) scSums.nd rfl (Or.inr rfl)) (qAh (qAn (i:=1) scSums.nd rfl (Or.inl rfl) (qAk qDd (pv 1) (pe_lc (N:=suN) (sc:=qAb sSums) (N':=["one","mask"]) (sub:=[none,some 2]) rfl rfl (CmpOk.of (by decide +kernel)) rfl (qAv (pv 1)) (fun C s H fp=>⟨qAg (i:=0) (by show(["one","mask"]:List Str).Nodup;decide) rfl (Or.inl rfl),qA7,(qAk op_xor (pv 0) (pv 1))⟩)))))) (qAh (qAu (pv 1)))),?_⟩;try dsimp only[Cx.wish,qB5]
 refine⟨(by show 1<=sizeLine;decide),fun s0 hs0=>?_⟩;have X3:=Ext.new hs0 (.lst [V.int 0]);refine⟨_,rfl,p,rfl,⟨_,SqL.of (X3 _ _ hN)⟩,?_⟩;refine qCi (xs:=N.map iV) (fun i σ H'=>∃ (ps:Addr) (x2:Option V),σ=[some (.ref p),some (.ref ps),x2]/\Ext H H'/\H ps=none/\LsN H' ps (sumF (N.take i))) ⟨s0,none,rfl,X3,hs0,upd_same⟩ (fun i σ H' _ h=>by obtain⟨_,_,_,e,_⟩:=h;exact SqL.of (e _ _ hN)) ?_ ?_
 ·rintro i v σ H' hx ⟨ps,x2,rfl,e,ps0,hps⟩;obtain⟨y,rfl,hy⟩:=qCw hx;have hi:=qA0 hy;have lS:(sumF (N.take i)).length<=2048:=by
   rw[qFb,hAj];exact hAs (hC8 (by decide) (show min i N.length<=11 by omega)) (by decide)
  refine⟨_,rfl,_,rfl,ps,rfl,⟨_,SqL.of hps⟩,?_⟩;refine qAt (xs:=(sumF (N.take i)).map iV) (fun j ys H2=>H2=H'/\ys=(((sumF (N.take i)).take j).map fun z=>z^^^y).map iV) ⟨rfl,rfl⟩ (fun j ys H2 _ h=>by rw[h.1];exact SqL.of hps) ?_ ?_
  ·rintro j v ys H3 hx3 ⟨rfl,rfl⟩;obtain⟨z,rfl,hz⟩:=qCw hx3;have hj:=qA0 hz;refine⟨Sle.set _ (Sle.refl _) (fun u z=>by cases z),iteT (B:=False) ⟨_,rfl,_,rfl,_,_,rfl,rfl,?_⟩⟩;refine⟨by rw[hA1,hA1,hAj];exact qCd (by omega),nxt (qA0 hx3) ⟨rfl,?_⟩⟩;rw[qAl hz,hA9,hA9];show _++[V.int (Builtin.bitXor (z:Int) (y:Int))]=_;rw[bxor_nat];rfl
  ·rintro ys H3 ⟨rfl,rfl⟩ l hl;rw[hA1,hA8 (hA5 _)];have Xl:=Ext.new hl (.lst (((sumF (N.take i)).map fun z=>z^^^y).map iV));refine⟨ps,l,_,_,rfl,rfl,Xl _ _ hps,upd_same,by rw[hA1,hA1,hA1];exact hB3 (qCd (by omega)),fun l3 hl3=>?_⟩;have X4:=Ext.new hl3 (.lst ((sumF (N.take i)).map iV++((sumF (N.take i)).map fun z=>z^^^y).map iV));refine⟨l3,_,rfl,(e.trans Xl).trans X4,(e.trans Xl).none hl3,?_⟩;unfold LsN;rw[upd_same,qAl hy,qDs,hA9]
 rintro σ H3 ⟨ps,x2,rfl,e3,ps0,hps⟩;rw[hA1,hA8 (hA5 _)]at hps;exact⟨_,rfl,q ps H3 e3 ps0 hps⟩
theorem scInOrd:FnScope ["rows"] ["rows"] (qAb qEt):=⟨rfl,rfl,rfl,by decide +kernel,rfl,by decide +kernel,by decide +kernel⟩
theorem ok_inOrd (F:Fun K "in_order" "in_order" qEt f fd) (hcode:fd.code = .ref c) (hC:PySem.W.CodeHd base c Pt) (hB:base.BuiltinsAt mg Pt) (ml:mg "len" = none) (mso:mg "sorted" = none):FnOk P w K mg base CX0 3 f fd ["rows"] (spInOrd Pt):=by
 refine F.okC scInOrd (fun vs H Q E h=>?_) (fun A outer s H vs Q E hr2 h=>?_)
 ·obtain⟨p,F,rfl,_⟩:=h;rfl
 obtain⟨p,F,rfl,⟨as,hp,pr⟩,lF,tw,q⟩:=h;have L:LamAt ((qB5 CX0 P w K mg base ["rows"] "in_order" (qAb qEt) f fd.code A outer s H E).nox) c Pt:=⟨hcode,hC,hB⟩;refine⟨_,qAh (qAu (pe_sortLamT (k:=0) (x:="row") (te:=(tTup (qE2 (tCB (rLenS K) (qE2 (tVar 0) tNil)) (qE2 (tVar 0) tNil)))) L hr2 rfl mso (qAa (pv 0) qAc) ⟨rfl,rfl,rfl,by decide +kernel,rfl,by decide +kernel,by decide +kernel⟩ rfl rfl (fun _ _ _ _ _ _=>rfl) (fun _ _ _ _ _ _=>(show PE _ _ (tTup (qE2 (tCB (rLenS K) (qE2 (tVar 0) tNil)) (qE2 (tVar 0) tNil))) from (qCn (qAa (qAj (show qA6 _ (.builtin "len") (rLenS K) from qAq) rfl ml hB9 (qAa (pv 0) qAc)) (qAa (pv 0) qAc))))) (lam_te K))),?_⟩;try dsimp only[Cx.wish,qB5]
 have la:as.length=F.length:=pr.length;have e1:(as.zip F).map (fun p=>V.ref p.1)=as.map V.ref:=by
  have:(as.zip F).map Prod.fst=as:=List.map_fst_zip (by omega);rw[show(fun p:Addr×List Str=>V.ref p.1)=V.ref∘Prod.fst from rfl,<-hB2,this]
 obtain⟨tb,hP⟩:=My.TabW.tb tw;refine⟨_,rfl,p,as.zip F,rfl,SqL.of (by rw[e1];exact hp),fun x hx=>SqL.of (qC3 pr x hx),by rw[List.length_zip];omega,tw,fun r ps' H2 r0 eB hr' pm so tw2=>?_⟩;have mem:∀ x∈ps',LsS H2 x.1 x.2:=fun x hx=>by
  have h1:LsS H x.1 x.2:=qC3 pr x (pm.mem_iff.mp hx);exact eB _ _ (fun z=>by rw[z]at h1;unfold LsS at h1;rw[hP]at h1;cases h1) h1
 refine q r (ps'.map Prod.snd) H2 eB r0 ⟨ps'.map Prod.fst,by rw[hB2];exact hr',qGx mem⟩ ?_ (hBx.mpr so) tw2;have:=pm.map Prod.snd;rw[hD7 (by omega)]at this;exact this
abbrev rmN:List Str:=["steps","told","mask"]
theorem scRMas:FnScope rmN ["steps"] (qAb sRMas):=⟨rfl,rfl,rfl,by decide +kernel,rfl,by decide +kernel,by decide +kernel⟩
theorem ok_rmas (F:Fun K "round_masks" "round_masks" sRMas f fd)
  (G1:Cl P w K mg base CX0 1 f1 fd1 ["masks"] spSums "sums")
  (mso:mg "sorted" = none) (man:mg "any" = none):FnOk P w K mg base CX0 2 f fd ["steps"] spRMas:=by
 refine F.ok scRMas (fun vs H Q E h=>?_) (fun cdv A outer s H vs Q E hr1 h=>?_)
 ·obtain⟨p,ms,rfl,_⟩:=h;rfl
 obtain⟨p,ms,rfl,hm,lm,q⟩:=h;refine⟨_,pss_cons (qAn (i:=1) scRMas.nd rfl (Or.inl rfl) (qBk qAc)) (pss_cons (qB6 PassesOwn.never rfl (qAv (qAj call_sortedN rfl mso qA9 (qAa (qAy G1 hr1 rfl .nil qAz (qAa (pv 0) qAc)) qAc))) (qAg (i:=2) scRMas.nd rfl (Or.inr rfl)) (qAh (qCq (PW.pt (pw_and (qAp op_ne (pv 2) qAd (qAw _)) (pw_and1 (qF1 (qF0 (qAj (call_anyB rfl) rfl man boot_any' (qAa (pe_lc (N:=rmN) (sc:=qAb sRMas) (N':=["one","mask"]) (sub:=[none,some 2]) rfl rfl (CmpOk.of (by decide +kernel)) rfl (qAv (pv 1)) (fun C s H fp=>⟨qAg (i:=0) (by show(["one","mask"]:List Str).Nodup;decide) rfl (Or.inl rfl),qA7,(qCr qCs (qAk op_and (pv 0) (pv 1)) (pv 0) (qAw _))⟩)) qAc))))))) (qAh (qEg (pe_bm hC7 hC4 hC5 qCf (pv 1) (qAa (pv 2) qAc)))) qBl))) (qAh (qAu (pv 1)))),?_⟩;try dsimp only[Cx.wish,qB5]
 refine⟨hAq _,fun tl htl=>?_⟩;have X0:=Ext.new htl (.lst []);refine⟨_,rfl,p,ms,rfl,X0 _ _ hm,lm,fun sp H1 e1 _ hs1=>?_⟩;have lS:(sumF ms).length<=4096:=by
  rw[qFb];exact hAs (hC8 (by decide) lm) (by decide)
 refine⟨sp,(sumF ms).map (fun n:Nat=>(n:Int)),rfl,SqL.of (by rw[<-qEm];exact hs1),by rw[hA1];omega,fun rl ns' hrl pm so=>?_⟩;obtain⟨L,rfl,pL⟩:=nat_ints pm;have so':L.Pairwise (·<=·):=(hBx.mp so).imp fun {a b} z=>Int.ofNat_le.mp z
 have lL:L.length<=4096:=by rw[pL.length_eq];exact lS
 have X2:=Ext.new hrl (.lst ((L.map fun n:Nat=>(n:Int)).map V.int));have hr2:LsN (upd H1 rl (.lst ((L.map fun n:Nat=>(n:Int)).map V.int))) rl L:=by unfold LsN;rw[upd_same,qEm]
 have ht2:LsN (upd H1 rl (.lst ((L.map fun n:Nat=>(n:Int)).map V.int))) tl []:=X2 _ _ (e1 _ _ upd_same);have E2:=(e1.trans X2).over' htl;revert hr2 ht2 E2;generalize upd H1 rl (.lst ((L.map fun n:Nat=>(n:Int)).map V.int))=H2;intro hr2 ht2 E2;have tr:tl≠rl:=fun z=>by
  have h1:=e1 _ _ (show upd H tl (.lst []) tl=some (.lst []) from upd_same);rw[z,hrl]at h1;cases h1
 refine⟨rl,rfl,⟨_,SqL.of hr2⟩,?_⟩;refine qCi (xs:=L.map iV) (fun i σ H'=>∃ x2:Option V,σ=[some (.ref p),some (.ref tl),x2]/\Ext H H'/\LsN H' rl L/\LsN H' tl (rmF (L.take i))) ⟨none,rfl,E2,hr2,ht2⟩ (fun i σ H' _ h=>by obtain⟨_,_,_,h,_⟩:=h;exact SqL.of h) ?_ ?_
 ·rintro i v σ H' hx ⟨x2,rfl,e,hr',ht'⟩;obtain⟨m,rfl,hmi⟩:=qCw hx;have hi:=qA0 hmi;have sz:(rmF (L.take i)).length<=4096:=by
   have:=rmF_len (L.take i);rw[hAj]at this;omega
  rw[qAl hmi,rmF_snoc];have nz:(!decide (V.int (m:Int)=V.int 0))=!decide (m=0):=by
   congr 1;exact decide_eq_decide.mpr ⟨fun h=>by have:=V.int.inj h;omega,fun h=>by rw[h];rfl⟩
  refine⟨_,rfl,rfl,_,rfl,?_⟩;rw[nz];cases m0:decide (m=0) with
  | true =>
   have:rmS (rmF (L.take i)) m=rmF (L.take i):=by
    unfold rmS rmOk;rw[m0];rfl
   rw[this];rw[if_neg (by decide)];exact iteF ⟨_,rfl,e,hr',ht'⟩
  | false =>
   rw[if_pos (by decide)];refine⟨_,rfl,tl,rfl,⟨_,SqL.of ht'⟩,?_⟩;refine qAt (xs:=(rmF (L.take i)).map iV) (fun j ys H3=>H3=H'/\ys=(((rmF (L.take i)).take j).map fun o=>decide (o&&&m=o)).map V.bl) ⟨rfl,rfl⟩ (fun j ys H3 _ h=>by rw[h.1];exact SqL.of ht') ?_ ?_
   ·rintro j v ys H3 hx3 ⟨rfl,rfl⟩;obtain⟨o,rfl,ho⟩:=qCw hx3;have hj:=qA0 ho;refine⟨Sle.set _ (Sle.refl _) (fun u z=>by cases z),iteT (B:=False) ⟨_,rfl,_,rfl,_,_,rfl,rfl,_,rfl,rfl,?_⟩⟩;refine⟨by rw[hA1,hA1,hAj];exact qCd (by omega),nxt (qA0 hx3) ⟨rfl,?_⟩⟩;rw[qAl ho,hA9,hA9];show _++[V.bl (decide (V.int (Builtin.bitAnd (o:Int) (m:Int))=V.int (o:Int)))]=_;have eo:decide (V.int ((o&&&m:Nat):Int)=V.int (o:Int))=decide (o&&&m=o):=decide_eq_decide.mpr ⟨fun h=>Int.ofNat.inj (V.int.inj h),fun h=>by rw[h]⟩;rw[qCl,eo];rfl
   ·rintro ys H3 ⟨rfl,rfl⟩ bl hbl;rw[hA1,hA8 (hA5 _)];have Xb:=Ext.new hbl (.lst (((rmF (L.take i)).map fun o=>decide (o&&&m=o)).map V.bl));refine⟨bl,_,rfl,SqL.of upd_same,_,rfl,?_⟩;have ea:((rmF (L.take i)).map fun o=>decide (o&&&m=o)).any id=(rmF (L.take i)).any fun o=>decide (o&&&m=o):=by rw[List.any_map];rfl
    rw[ea];have ok:rmOk (rmF (L.take i)) m=!((rmF (L.take i)).any fun o=>decide (o&&&m=o)):=by
     unfold rmOk;rw[m0];rfl
    refine qDa (fun c=>?_) (fun c=>?_)
    ·refine⟨_,rfl,.inl ⟨rfl,_,SqL.of (Xb _ _ ht')⟩,_,rfl,tl,_,_,rfl,rfl,Xb _ _ ht',(by rw[hA1];exact qCd (by omega)),?_⟩;refine⟨_,rfl,(e.trans Xb).over htl _,?_,?_⟩
     ·unfold LsN;rw[qAe (Ne.symm tr)];exact Xb _ _ hr'
     ·unfold LsN rmS;rw[upd_same,ok,if_pos c,hA9];rfl
    ·refine⟨_,rfl,e.trans Xb,Xb _ _ hr',?_⟩;unfold rmS;rw[ok,if_neg c];exact Xb _ _ ht'
 rintro σ H3 ⟨x2,rfl,e3,hr3,ht3⟩;rw[hA1,hA8 (hA5 _)]at ht3;exact⟨_,rfl,q tl L H3 e3 htl pL so' ht3⟩
theorem scRounds:FnScope ["table"] ["table"] (qAb qDj):=⟨rfl,rfl,rfl,by decide +kernel,rfl,by decide +kernel,by decide +kernel⟩
theorem ok_rounds (F:Fun K "rounds" "rounds" qDj f fd)
  (G1:Cl P w K mg base CX0 3 f1 fd1 ["rows"] (spInOrd Pt) "in_order")
  (G2:Cl P w K mg base CX0 2 f2 fd2 ["steps"] spRMas "round_masks")
  (G3:Cl P w K mg base CX0 3 f3 fd3 ["table"] spStepM "step_masks")
  (G4:Cl P w K mg base CX0 1 f4 fd4 ["names","mask"] spRowOf "row_of"):FnOk P w K mg base CX0 4 f fd ["table"] (spRounds Pt):=by
 refine F.ok scRounds (fun vs H Q E h=>?_) (fun cdv A outer s H vs Q E hr3 h=>?_)
 ·obtain⟨T,names,rows,rfl,_⟩:=h;rfl
 obtain⟨T,names,rows,rfl,ti,ln,lr,tw,q⟩:=h;have hr1:=hr3.mono (j:=1) (by decide);have hr2:=hr3.mono (j:=2) (by decide);refine⟨_,qAh (qAu (qAy G1 hr3 rfl .nil qAz (qAa (pe_lc (N:=["table"]) (sc:=qAb qDj) (N':=["mask","table"]) (sub:=[none,some 0]) rfl rfl (CmpOk.of (by decide +kernel)) rfl (qAv (qAy G2 hr2 rfl .nil qAz (qAa (qAy G3 hr3 rfl .nil qAz (qAa (pv 0) qAc)) qAc))) (fun C s H fp=>⟨qAg (i:=0) (by show(["mask","table"]:List Str).Nodup;decide) rfl (Or.inl rfl),qA7,(qAy G4 hr1 rfl .nil qAz (qAa (pe_ix (show IxR _ (rIxT K) from qDe) (pv 1) qAd (fun _ _=>rfl)) (qAa (pv 0) qAc)))⟩)) qAc))),?_⟩;try dsimp only[Cx.wish,qB5]
 obtain⟨na,nb,hT,hna,_⟩:=id ti;refine⟨_,rfl,T,names,rows,rfl,ti,lr,fun sm M H1 e1 _ hM pM dM=>?_⟩;obtain⟨_,_,lM⟩:=step_rr pM;refine⟨sm,M,rfl,hM,by omega,fun rm L H2 e2 _ pL so hL=>?_⟩;have E2:=e1.trans e2;have lL:(rmF L).length<=4096:=by
  refine hAs (rmF_len L) ?_;rw[pL.length_eq,qFb];exact hAs (hC8 (by decide) (show M.length<=12 by omega)) (by decide)
 refine⟨rm,rfl,⟨_,SqL.of hL⟩,?_⟩;refine qAt (xs:=(rmF L).map iV) (fun j ys H3=>Ext H2 H3/\∃ as,ys=as.map V.ref/\Paired (LsS H3) as (((rmF L).take j).map (rowM names))) ⟨Ext.refl _,[],rfl,.nil⟩ (fun j ys H3 _ h=>SqL.of (h.1 _ _ hL)) ?_ ?_
 ·rintro j v ys H3 hx ⟨e3,as,rfl,pr⟩;obtain⟨x,rfl,hx'⟩:=qCw hx;have hj:=qA0 hx';have la:as.length=_:=pr.length;rw[hA1,hAj]at la;have E3:=E2.trans e3;refine⟨Sle.set _ (Sle.refl _) (fun u z=>by cases z),iteT (B:=False) ⟨_,rfl,T,_,_,_,rfl,rfl,SqT.of (E3 _ _ hT),(by exact atI_nat (j:=0) rfl),_,rfl,na,names,x,rfl,E3 _ _ hna,ln,fun r4 H4 e4 r40 h4=>⟨?_,nxt (qA0 hx) ⟨e3.trans e4,as++[r4],by rw[hA9];rfl,?_⟩⟩⟩⟩
  ·rw[hA1];exact qCd (by omega)
  ·rw[qAl hx',hA9];exact Paired.snoc (Paired.mapP pr fun a t z=>e4 _ _ z) h4
 ·rintro ys H3 ⟨e3,as,rfl,pr⟩ b hb;rw[hA1,hA8 (hA5 _)]at pr;have Xb:=Ext.new hb (.lst (as.map V.ref));have E4:=(E2.trans e3).trans Xb;refine⟨b,(rmF L).map (rowM names),rfl,⟨as,upd_same,Paired.mapP pr fun a t z=>Xb _ _ z⟩,by rw[hA1];omega,My.TabW.extE tw E4,fun r F H5 eB r0 hr' pF soF tw5=>?_⟩;exact q r M L F H5 (ExtB.trans E4.toB eB) (E4.none r0) hr' pM pL so pF soF tw5
end
end My
namespace My
open PySem L2
theorem qFc {α:Type}:∀ {l a b:List α},l.Nodup->a.Sublist l->b.Sublist l->(∀ x,x∈a↔x∈b)->a=b
 | [],a,b,_,ha,hb,_=>by rw[List.sublist_nil.mp ha,List.sublist_nil.mp hb]
 | y :: l,a,b,nd,ha,hb,h=>by
  obtain⟨ny,nl⟩:=hAx.mp nd;rcases List.sublist_cons_iff.mp ha with ha2 | ⟨a',ea,ha2⟩
  ·rcases List.sublist_cons_iff.mp hb with hb2 | ⟨b',eb,hb2⟩
   ·exact qFc nl ha2 hb2 h
   ·exact absurd (ha2.subset ((h y).mpr (by rw[eb];exact hA3))) ny
  ·rcases List.sublist_cons_iff.mp hb with hb2 | ⟨b',eb,hb2⟩
   ·exact absurd (hb2.subset ((h y).mp (by rw[ea];exact hA3))) ny
   ·rw[ea,eb]at h ⊢;have e:a'=b':=qFc nl ha2 hb2 fun x=>by
     constructor
     ·intro hx;rcases hAa.mp ((h x).mp (hA4 _ hx)) with e | e
      ·exact absurd (by rw[<-e];exact ha2.subset hx) ny
      ·exact e
     ·intro hx;rcases hAa.mp ((h x).mpr (hA4 _ hx)) with e | e
      ·exact absurd (by rw[<-e];exact hb2.subset hx) ny
      ·exact e
    rw[e]
theorem range_get {α:Type} (l:List α):∀ j,j<=l.length->(List.range j).filterMap (fun i=>l[i]?)=l.take j
 | 0,_=>rfl
 | j+1,h=>by
  rw[hDf,hDe,range_get l j (by omega),List.take_succ];have e:=hA2 (l:=l) (i:=j) (by omega);simp[e]
theorem qBt {α β:Type} (c:α->Prop) [DecidablePred c] (f:α->Option β):∀ l:List α,(l.filterMap fun i=>if c i then f i else none).Sublist (l.filterMap f)
 | []=>List.Sublist.refl _
 | a :: l=>by
  rw[hBq,hBq];by_cases h:c a
  ·rw[if_pos h];cases f a with
   | none=>exact qBt c f l
   | some b=>exact(qBt c f l).cons_cons b
  ·rw[if_neg h];cases f a with
   | none=>exact qBt c f l
   | some b=>exact(qBt c f l).cons b
theorem qDv (names:List Str) (z:Nat):(rowM names z).Sublist names:=by
 unfold rowM;have h:=qBt (fun i=>z.testBit (names.length - 1 - i)=true) (fun i=>names[i]?) (List.range names.length);rw[range_get names _ (hA5 _),hA8 (hA5 _)]at h;exact h
theorem perm_spn {a b:List Nat} (p:a.Perm b) (y:Nat):Spn a y↔Spn b y:=⟨fun h=>h.mono fun u hu=>.mem (p.mem_iff.mp hu),fun h=>h.mono fun u hu=>.mem (p.mem_iff.mpr hu)⟩
theorem evP_xor (r r':Str->Bool) (x:Str):∀ l:List Tr,evP l (fun n=>r n ^^ r' n) x=(evP l r x ^^ evP l r' x)
 | []=>rfl
 | u :: l=>by
  show(((r u.1 ^^ r' u.1) && atX x u) ^^ evP l (fun n=>r n ^^ r' n) x)=(((r u.1 && atX x u) ^^ evP l r x) ^^ ((r' u.1 && atX x u) ^^ evP l r' x));rw[evP_xor r r' x l];cases r u.1 <;> cases r' u.1 <;> cases atX x u <;> cases evP l r x <;> cases evP l r' x <;> rfl
theorem qD3 {r:Str->Bool} {x:Str}:∀ {l:List Tr},(∀ t∈l,r t.1=true->atX x t=false)->evP l r x=false
 | [],_=>rfl
 | u :: l,h=>by
  show((r u.1 && atX x u) ^^ evP l r x)=false;rw[qD3 fun t ht=>h t (hA4 _ ht)];have:=h u hA3;cases e:r u.1
  ·rfl
  ·rw[this e];rfl
theorem evP_same {r:Str->Bool} {b:Bool} {x:Str}:∀ {l:List Tr},(∀ t∈l,atX x t=true->r t.1=b)->evP l r x=(b && evP l (fun _=>true) x)
 | [],_=>by cases b <;> rfl
 | u :: l,h=>by
  show((r u.1 && atX x u) ^^ evP l r x)=(b && ((true && atX x u) ^^ evP l (fun _=>true) x));rw[evP_same fun t ht=>h t (hA4 _ ht)];have:=h u hA3;cases e:atX x u
  ·cases b <;> cases r u.1 <;> cases evP l (fun _=>true) x <;> rfl
  ·rw[this e];cases b <;> cases evP l (fun _=>true) x <;> rfl
theorem evP_one {t:Tr} (x:Str):∀ {l:List Tr},(nmS l).Nodup->t∈l->evP l (fun n=>decide (n=t.1)) x=atX x t
 | [],_,h=>by cases h
 | u :: l,nd,h=>by
  obtain⟨h1,h2⟩:=hAx.mp nd;show((decide (u.1=t.1) && atX x u) ^^ evP l (fun n=>decide (n=t.1)) x)=atX x t;rcases hAa.mp h with e | e
  ·subst e;rw[decide_eq_true rfl,qD3 (l:=l) fun v hv e=>?_]
   ·cases atX x t <;> rfl
   ·exact absurd (hAb.mpr ⟨v,hv,of_decide_eq_true e⟩) h1
  ·rw[evP_one x h2 e,decide_eq_false (fun z:u.1=t.1=>h1 (by show u.1∈_;rw[z];exact hAb.mpr ⟨t,e,rfl⟩))];cases atX x t <;> rfl
def qDh (net:List Tr) (row:List Str):List Tr:=net.filter fun t=>decide (t.1∈row)
structure Min (N:List Tr):Prop where
 ne:N≠[]
 ev:∀ x,evP N (fun _=>true) x=false
 mn:∀ r:Str->Bool,(∀ x,evP N r x=false)->(∃ t∈N,r t.1=true)->∀ t∈N,r t.1=true
theorem sub_names {net:List Tr} {row:List Str} (nd:(nmS net).Nodup) (h:row.Sublist (nmS net)):nmS (qDh net row)=row:=by
 refine qFc nd (hB5.map _) h fun x=>?_
 rw[hAb];constructor
 ·rintro⟨t,ht,rfl⟩;exact of_decide_eq_true (hAf.mp ht).2
 ·intro hx;obtain⟨t,ht,e⟩:=hAb.mp (h.subset hx);exact⟨t,hAf.mpr ⟨ht,decide_eq_true (by rw[e];exact hx)⟩,e⟩
section
variable {net:List Tr} {ps:List Str} {S M:List Nat}
theorem chi_ne {names:List Str} (nd:names.Nodup) {z:Nat} (hz:z<2^names.length) (nz:z≠0):∃ n∈names,chi names z n=true:=by
 cases q:rowM names z with
 | nil =>
  have:=qCu nd hz;rw[q,mask_nil]at this;exact absurd this.symm nz
 | cons n r =>
  have h:n∈rowM names z:=by rw[q];exact hA3
  exact⟨n,qFe h,decide_eq_true h⟩
theorem sub_ev (r:Str->Bool) (row:List Str) (x:Str):evP (qDh net row) r x=evP net (fun n=>r n && decide (n∈row)) x:=by
 rw[<-qG6 (r:=fun n=>r n && decide (n∈row)) (fun t=>decide (t.1∈row)) x (l:=net) fun t _ h=>by rw[h,Bool.and_false]];exact qBu x fun t ht=>by rw[(hAf.mp ht).2,Bool.and_true]
theorem cyc_of (nd:(nmS net).Nodup) (r:Str->Bool) (h:∀ x,evP net r x=false):Cyc net (qA3 (nmS net) ((nmS net).filter r)):=by
 refine⟨by have:=qC5 (nmS net) ((nmS net).filter r);rw[hA1]at this;exact this,fun x=>?_⟩;rw[<-h x];refine qBu x fun t ht=>?_
 have tm:t.1∈nmS net:=hAb.mpr ⟨t,ht,rfl⟩;rw[qC9 nd _ tm];cases e:r t.1
 ·exact decide_eq_false fun z=>by have:=(hAf.mp z).2;rw[e]at this;cases this
 ·exact decide_eq_true (hAf.mpr ⟨tm,e⟩)
theorem inn_chi {names:List Str} (nd:names.Nodup) {y z:Nat} (hy:y<2^names.length) (h:∀ n∈names,chi names y n=true->chi names z n=true):Inn y z:=fun j hj=>by
 have jl:j<names.length:=hBo fun c=>by rw[tb_hi hy (by omega)]at hj;cases hj
 have e:=hA2 (l:=names) (i:=names.length - 1 - j) (by omega);have c1:=qGd nd (z:=y) e;have c2:=qGd nd (z:=z) e;rw[show names.length - 1 - (names.length - 1 - j)=j by omega]at c1 c2;rw[<-c2];exact h _ (hBw _) (c1.trans hj)
theorem min_of (h:Tb net ps S M) {z:Nat} (hz:Lst M z):Min (qDh net (rowM (nmS net) z))/\nmS (qDh net (rowM (nmS net) z))=rowM (nmS net) z:=by
 have nd:=qDc h.rs;obtain⟨h1,nz,h2⟩:=hz;obtain⟨zl,ze⟩:=(h.spn z).mp h1;have zl':z<2^(nmS net).length:=by rw[hA1];exact zl
 have sn:=sub_names nd (qDv (nmS net) z);refine⟨⟨fun e=>?_,fun x=>?_,fun r hr ⟨t,ht,rt⟩ u hu=>?_⟩,sn⟩
 ·rw[e]at sn;have:=qCu nd zl';rw[<-sn]at this;exact nz (this.symm.trans (mask_nil _))
 ·rw[sub_ev];exact(qBu x fun t _=>hCl _).trans (ze x)
 ·have c:=cyc_of nd (fun n=>r n && decide (n∈rowM (nmS net) z)) fun x=>by rw[<-sub_ev];exact hr x
  have cm:∀ v∈net,chi (nmS net) (qA3 (nmS net) ((nmS net).filter fun n=>r n && decide (n∈rowM (nmS net) z))) v.1=(r v.1 && decide (v.1∈rowM (nmS net) z)):=fun v hv=>by
   have vm:v.1∈nmS net:=hAb.mpr ⟨v,hv,rfl⟩;rw[qC9 nd _ vm];cases e:(r v.1 && decide (v.1∈rowM (nmS net) z))
   ·exact decide_eq_false fun q=>by have:=(hAf.mp q).2;rw[e]at this;cases this
   ·exact decide_eq_true (hAf.mpr ⟨vm,e⟩)
  obtain⟨t1,t2⟩:=hAf.mp ht;obtain⟨u1,u2⟩:=hAf.mp hu;have e:=h2 _ ((h.spn _).mpr c) (fun e0=>?_) (inn_chi nd (qC5 _ _) fun n hn hc=>?_)
  ·have:=cm u u1;rw[e,show chi (nmS net) z u.1=true from u2,show decide (u.1∈rowM (nmS net) z)=true from u2,Bool.and_true]at this;exact this.symm
  ·have:=cm t t1;rw[e0,rt,show decide (t.1∈rowM (nmS net) z)=true from t2]at this;rw[show chi (nmS net) 0 t.1=false by show decide _=_;rw[row_zero];rfl]at this;cases this
  ·obtain⟨v,hv,rfl⟩:=hAb.mp hn;rw[cm v hv,hB7]at hc;exact hc.2
end
section
variable {N:List Tr}
theorem Min.piece (h:Min N) (nd:(nmS N).Nodup):(PCK (lbF N) N).length=1:=by
 obtain⟨t0,r0,e0⟩:∃ t r,N=t :: r:=by cases e:N with | nil=>exact absurd e h.ne | cons t r=>exact⟨t,r,rfl⟩
 have t0m:t0∈N:=by rw[e0];exact hA3
 have hr:∀ t∈N,decide (∃ u∈N,u.1=t.1/\lbF N u=lbF N t0)=decide (lbF N t=lbF N t0):=fun t ht=>decide_eq_decide.mpr ⟨fun ⟨u,hu,e1,e2⟩=>by rw[nm_inj nd hu ht e1]at e2;exact e2,fun e=>⟨t,ht,rfl,e⟩⟩
 have all:=h.mn (fun n=>decide (∃ u∈N,u.1=n/\lbF N u=lbF N t0)) (fun x=>by
  rw[evP_same (b:=decide (homF N x=lbF N t0)) fun t ht hx=>?_,h.ev x,Bool.and_false];rw[hr t ht];have:homF N x=lbF N t:=by
   unfold atX at hx;by_cases c:t.2.1=x
   ·rw[<-c]
   ·rw[decide_eq_false c,Bool.false_xor]at hx;rw[<-of_decide_eq_true hx];exact(homF_tie N t ht).symm
  rw[this]) ⟨t0,t0m,by rw[hr t0 t0m];exact decide_eq_true rfl⟩
 obtain⟨k1,k2⟩:=qD6 (lbF N) N;have e:(PCK (lbF N) N).map (·.1)=[lbF N t0]:=by
  refine List.perm_singleton.mp ((hCb k1 (by simp)).mpr fun x=>?_);rw[k2,hA7];constructor
  ·rintro⟨t,ht,rfl⟩;have:=all t ht;rw[hr t ht]at this;exact of_decide_eq_true this
  ·rintro rfl;exact⟨t0,t0m,rfl⟩
 have:=congrArg List.length e;rw[hA1]at this;exact this
end
def enF (t:Tr) (x:Str):Nat:=(if t.2.1=x then 1 else 0)+if t.2.2=x then 1 else 0
def sR (N:List Tr) (r:Str->Bool) (x:Str):Nat:=(N.map fun t=>if r t.1=true then enF t x else 0).sum
theorem sR_snoc (N:List Tr) (t:Tr) (r:Str->Bool) (x:Str):sR (N++[t]) r x=sR N r x+if r t.1=true then enF t x else 0:=by
 unfold sR;rw[hA9,List.sum_append];simp
theorem ev_par (r:Str->Bool) (x:Str):∀ N:List Tr,evP N r x=decide (sR N r x % 2=1):=by
 refine qBy (P:=fun N=>evP N r x=decide (sR N r x % 2=1)) rfl fun l t ih=>?_
 rw[evP_snoc,ih,sR_snoc];unfold atX enF;cases r t.1
 ·simp
 ·by_cases a:t.2.1=x <;> by_cases b:t.2.2=x <;> by_cases c:sR l r x % 2=1 <;> simp[a,b,c] <;> omega
theorem star_len (x:Str):∀ N:List Tr,(qCc N x).length=sR N (fun _=>true) x:=by
 refine qBy (P:=fun N=>(qCc N x).length=sR N (fun _=>true) x) rfl fun l t ih=>?_
 rw[qEd,hAd,ih,sR_snoc];unfold stT enF;by_cases a:t.2.1=x <;> by_cases b:t.2.2=x <;> simp[a,b]
theorem star_pos {N:List Tr} {x:Str} (h:isPt N x):0<(qCc N x).length:=by
 obtain⟨t,ht,hx⟩:=h;have m:t.1∈qCc N x:=by
  unfold qCc;refine List.mem_flatten.mpr ⟨_,hAb.mpr ⟨t,ht,rfl⟩,?_⟩;unfold stT;rcases hx with e | e
  ·rw[if_pos e.symm];simp
  ·rw[if_pos (c:=t.2.2=x) e.symm];simp
 exact hCt m
abbrev Wk:=Str×Str×Str
def Chn (N:List Tr):Str->List Wk->Str->Prop
 | p,[],q=>p=q
 | p,w :: W,q=>w.2.1=p/\(∃ t∈N,t.1=w.1/\((t.2.1=w.2.1/\t.2.2=w.2.2)\/(t.2.1=w.2.2/\t.2.2=w.2.1)))/\Chn N w.2.2 W q
theorem chn_app {N:List Tr}:∀ {W V:List Wk} {p q:Str},Chn N p (W++V) q↔∃ m,Chn N p W m/\Chn N m V q
 | [],V,p,q=>⟨fun h=>⟨p,rfl,h⟩,fun ⟨m,e,h⟩=>by cases(show p=m from e);exact h⟩
 | w :: W,V,p,q=>by
  show(_/\_/\Chn N w.2.2 (W++V) q)↔_;rw[chn_app];exact⟨fun ⟨a,b,m,c,d⟩=>⟨m,⟨a,b,c⟩,d⟩,fun ⟨m,⟨a,b,c⟩,d⟩=>⟨a,b,m,c,d⟩⟩
abbrev wn (W:List Wk):List Str:=W.map fun w=>w.1
theorem chn_ev {N:List Tr} (nd:(nmS N).Nodup) (x:Str):∀ {W:List Wk} {p q:Str},Chn N p W q->(wn W).Nodup->evP N (fun n=>decide (n∈wn W)) x=(decide (p=x) ^^ decide (q=x))
 | [],p,q,h,_=>by
  cases(show p=q from h);rw[Bool.xor_self];exact qD3 fun t _ e=>absurd (of_decide_eq_true e) (by simp)
 | w :: W,p,q,h,hn=>by
  obtain⟨h1,⟨t,ht,e,ends⟩,h3⟩:=h;obtain⟨n1,n2⟩:=hAx.mp hn;have ih:=chn_ev nd x h3 n2;have e1:evP N (fun n=>decide (n∈wn (w :: W))) x=evP N (fun n=>decide (n=t.1) ^^ decide (n∈wn W)) x:=qBu x fun u hu=>by
   by_cases c:u.1=t.1
   ·rw[decide_eq_true c,decide_eq_true (show u.1∈wn (w :: W) by rw[c,e];exact hA3),decide_eq_false (show u.1∉wn W by rw[c,e];exact n1)];rfl
   ·rw[decide_eq_false c,Bool.false_xor];exact decide_eq_decide.mpr ⟨fun m=>(hAa.mp m).resolve_left (by show ¬u.1=w.1;rw[<-e];exact c),fun m=>hA4 _ m⟩
  rw[e1,evP_xor,ih,evP_one x nd ht];unfold atX;rw[<-h1];rcases ends with ⟨a,b⟩ | ⟨a,b⟩
  ·rw[a,b];cases decide (w.2.1=x) <;> cases decide (w.2.2=x) <;> cases decide (q=x) <;> rfl
  ·rw[a,b];cases decide (w.2.1=x) <;> cases decide (w.2.2=x) <;> cases decide (q=x) <;> rfl
theorem qGc {N:List Tr}:∀ {W:List Wk} {p q:Str},Chn N p W q->∀ w∈W,∃ t∈N,t.1=w.1/\((t.2.1=w.2.1/\t.2.2=w.2.2)\/(t.2.1=w.2.2/\t.2.2=w.2.1))
 | [],_,_,_,w,hw=>by cases hw
 | v :: W,p,q,h,w,hw=>by
  rcases hAa.mp hw with e | e
  ·rw[e];exact h.2.1
  ·exact qGc h.2.2 w e
theorem Min.part {N:List Tr} (h:Min N) (nd:(nmS N).Nodup) {W:List Wk} {p:Str} (c:Chn N p W p) (hn:(wn W).Nodup) (ne:W≠[]):∀ t∈N,t.1∈wn W:=fun t ht=>by
 refine of_decide_eq_true (h.mn (fun n=>decide (n∈wn W)) (fun x=>by rw[chn_ev nd x c hn,Bool.xor_self]) ?_ t ht);cases W with
 | nil=>exact absurd rfl ne
 | cons w V =>
  obtain⟨_,⟨u,hu,e,_⟩,_⟩:=c;exact⟨u,hu,decide_eq_true (by rw[e];exact hA3)⟩
theorem Min.starts {N:List Tr} (h:Min N) (nd:(nmS N).Nodup) {p q:Str}:∀ {V A:List Wk},Chn N p (A++V) q->(wn (A++V)).Nodup->(V.map fun w=>w.2.1).Nodup
 | [],_,_,_=>hCe
 | w :: V,A,c,hn=>by
  have ih:=Min.starts h nd (V:=V) (A:=A++[w]) (by rw[hBd];exact c) (by rw[hBd];exact hn);refine hAx.mpr ⟨fun m=>?_,ih⟩;obtain⟨w',hw',e⟩:=hAb.mp m;have e:w'.2.1=w.2.1:=e;obtain⟨B,C,rfl⟩:=List.append_of_mem hw';obtain⟨m1,c1,c2⟩:=chn_app.mp c;have c2':Chn N m1 ((w :: B)++(w' :: C)) q:=c2;obtain⟨m2,c3,c4⟩:=chn_app.mp c2';have e1:m1=w.2.1:=c2.1.symm;have e2:m2=w'.2.1:=c4.1.symm;rw[e2,e1]at c3;have hn':(wn (w :: B++(w' :: C))).Nodup:=hn.sublist ((List.sublist_append_right A _).map _);have hB:(wn (w :: B)).Nodup:=hn'.sublist ((List.sublist_append_left _ _).map _);rw[e]at c3;have all:=h.part nd c3 hB (by simp);obtain⟨t,ht,et,_⟩:=c4.2.1;have m3:=all t ht;rw[et]at m3;have:wn (w :: B++(w' :: C))=wn (w :: B)++wn (w' :: C):=hA9;rw[this]at hn';exact(hCc.mp hn').2.2 w'.1 m3 w'.1 hA3 rfl
def tch (p:Str) (t:Tr):Bool:=decide (p=t.2.1\/p=t.2.2)
def goalF (p:Str) (t:Tr):Str:=if p=t.2.1 then t.2.2 else t.2.1
def outF (n:Str) (R:List Tr):List Tr:=R.filter fun u=>!decide (u.1=n)
def wkF:Nat->List Tr->Str->List Wk
 | 0,_,_=>[]
 | f+1,R,p=>match R.filter (tch p) with
  | []=>[]
  | t :: _=>(t.1,p,goalF p t) :: wkF f (outF t.1 R) (goalF p t)
theorem wkF_cons {f:Nat} {R:List Tr} {p:Str} {t:Tr} {r:List Tr} (h:R.filter (tch p)=t :: r):wkF (f+1) R p=(t.1,p,goalF p t) :: wkF f (outF t.1 R) (goalF p t):=by
 show(match R.filter (tch p) with | []=>[] | t :: _=>(t.1,p,goalF p t) :: wkF f (outF t.1 R) (goalF p t))=_;rw[h]
theorem out_len {N R:List Tr} {t:Tr} (nd:(nmS R).Nodup) (h:t∈R):(outF t.1 R).length+1=R.length:=by
 induction R with
 | nil=>cases h
 | cons u R ih =>
  obtain⟨n1,n2⟩:=hAx.mp nd;unfold outF;rcases hAa.mp h with e | e
  ·subst e;rw[List.filter_cons_of_neg (by rw[decide_eq_true rfl];decide),List.filter_eq_self.mpr fun v hv=>?_,hB1];rw[decide_eq_false (fun z:v.1=t.1=>n1 (by show t.1∈_;rw[<-z];exact hAb.mpr ⟨v,hv,rfl⟩))];rfl
  ·rw[List.filter_cons_of_pos (by rw[decide_eq_false (fun z:u.1=t.1=>n1 (by show u.1∈_;rw[z];exact hAb.mpr ⟨t,e,rfl⟩))];rfl),hB1,hB1];exact congrArg (· + 1) (ih n2 e)
structure Way (N:List Tr) (p0:Str) (W:List Wk) (R:List Tr) (p:Str):Prop where
 c:Chn N p0 W p
 nd:(wn W).Nodup
 r:R=N.filter fun t=>!decide (t.1∈wn W)
 w:W++wkF R.length R p=wkF N.length N p0
theorem Way.start (N:List Tr) (p0:Str):Way N p0 [] N p0:=⟨rfl,hCe,(List.filter_eq_self.mpr fun t _=>by simp).symm,rfl⟩
theorem Way.next {N:List Tr} {p0 p:Str} {W:List Wk} {R:List Tr} (h:Way N p0 W R p) (nd:(nmS N).Nodup) {t:Tr} {r:List Tr} (e:R.filter (tch p)=t :: r):Way N p0 (W++[(t.1,p,goalF p t)]) (outF t.1 R) (goalF p t):=by
 have hm:t∈R.filter (tch p):=by rw[e];exact hA3
 obtain⟨hR,ht⟩:=hAf.mp hm;have hR':=hR;rw[h.r]at hR';obtain⟨tN,tW⟩:=hAf.mp hR';have tW:t.1∉wn W:=by simpa using tW
 have ndR:(nmS R).Nodup:=by rw[h.r];exact nd.sublist (hB5.map _)
 refine⟨chn_app.mpr ⟨p,h.c,rfl,⟨t,tN,rfl,?_⟩,rfl⟩,?_,?_,?_⟩
 ·unfold goalF;rcases of_decide_eq_true ht with c | c
  ·rw[if_pos c];exact .inl ⟨c.symm,rfl⟩
  ·by_cases d:p=t.2.1
   ·rw[if_pos d];exact .inl ⟨d.symm,rfl⟩
   ·rw[if_neg d];exact .inr ⟨rfl,c.symm⟩
 ·have:wn (W++[(t.1,p,goalF p t)])=wn W++[t.1]:=hA9;rw[this,hCc];exact⟨h.nd,by simp,fun a ha b hb z=>tW (by rw[hA7.mp hb]at z;rw[<-z];exact ha)⟩
 ·unfold outF;rw[h.r,List.filter_filter];refine List.filter_congr fun u _=>?_
  have:wn (W++[(t.1,p,goalF p t)])=wn W++[t.1]:=hA9;rw[this];by_cases a:u.1=t.1
  ·rw[decide_eq_true a,decide_eq_true (show u.1∈wn W++[t.1] by rw[a];simp)];rfl
  ·by_cases b:u.1∈wn W
   ·rw[decide_eq_true b,decide_eq_true (show u.1∈wn W++[t.1] from hAn _ b)];simp
   ·rw[decide_eq_false a,decide_eq_false b,decide_eq_false (show u.1∉wn W++[t.1] by simp[a,b])];rfl
 ·have l:=out_len (N:=N) ndR hR;rw[<-h.w,<-l,wkF_cons e,hBd];rfl
theorem Way.goes {N:List Tr} {p:Str} {W:List Wk} {R:List Tr} (mi:Min N) (nd:(nmS N).Nodup) {t0:Tr} {r0:List Tr} (e0:N=t0 :: r0) (h:Way N t0.2.1 W R p) (ne:R≠[]):∃ t r,R.filter (tch p)=t :: r:=by
 cases q:R.filter (tch p) with
 | cons t r=>exact⟨t,r,rfl⟩
 | nil =>
  exfalso;have no:∀ t∈R,tch p t=false:=fun t ht=>by
   cases c:tch p t with
   | false=>rfl
   | true =>
    have:=hAf.mpr ⟨ht,c⟩;rw[q]at this;cases this
  by_cases c:t0.2.1=p
  ·by_cases w0:W=[]
   ·have:R=N:=by rw[h.r,w0];exact List.filter_eq_self.mpr fun t _=>by simp
    have:=no t0 (by rw[this,e0];exact hA3);unfold tch at this;rw[decide_eq_true (.inl c.symm)]at this;cases this
   ·have hc:=h.c;rw[<-c]at hc;have all:=mi.part nd hc h.nd w0;refine ne ?_;rw[h.r];exact List.filter_eq_nil_iff.mpr fun t ht=>by rw[decide_eq_true (all t ht)];simp
  ·have ev:=chn_ev nd p h.c h.nd;rw[decide_eq_false c,decide_eq_true rfl]at ev;have z:evP N (fun n=>!decide (n∈wn W)) p=false:=qD3 fun t ht e=>by
    have:=no t (by rw[h.r];exact hAf.mpr ⟨ht,e⟩);unfold tch at this;have:=of_decide_eq_false this;unfold atX;rw[decide_eq_false fun z=>this (.inl z.symm),decide_eq_false fun z=>this (.inr z.symm)];rfl
   have s:=evP_xor (fun n=>decide (n∈wn W)) (fun n=>!decide (n∈wn W)) p N;have e:evP N (fun n=>decide (n∈wn W) ^^ !decide (n∈wn W)) p=evP N (fun _=>true) p:=qBu p fun t _=>by cases decide (t.1∈wn W) <;> rfl
   rw[e,mi.ev p,ev,z]at s;cases s
structure Done (N:List Tr) (p0:Str) (W:List Wk):Prop where
 c:Chn N p0 W p0
 nd:(wn W).Nodup
 all:∀ t∈N,t.1∈wn W
 e:W=wkF N.length N p0
theorem Way.done {N:List Tr} {p:Str} {W:List Wk} (mi:Min N) (nd:(nmS N).Nodup) {p0:Str} (h:Way N p0 W [] p):Done N p0 W:=by
 have all:∀ t∈N,t.1∈wn W:=fun t ht=>hBo fun c=>by
  have:t∈N.filter fun t=>!decide (t.1∈wn W):=hAf.mpr ⟨ht,by rw[decide_eq_false c];rfl⟩
  rw[<-h.r]at this;cases this
 have pe:p0=p:=hBo fun c=>by
  have ev:=chn_ev nd p0 h.c h.nd;rw[decide_eq_true rfl,decide_eq_false (fun z=>c z.symm)]at ev;have:evP N (fun n=>decide (n∈wn W)) p0=evP N (fun _=>true) p0:=qBu p0 fun t ht=>decide_eq_true (all t ht)
  rw[this,mi.ev p0]at ev;cases ev
 have hc:=h.c;rw[<-pe]at hc;have hw:=h.w;rw[show wkF ([]:List Tr).length [] p=[] from rfl,hBi]at hw;exact⟨hc,h.nd,all,hw⟩
theorem done_ex {N:List Tr} (mi:Min N) (nd:(nmS N).Nodup) {t0:Tr} {r0:List Tr} (e0:N=t0 :: r0):∃ W,Done N t0.2.1 W:=by
 have:∀ (n:Nat) (W:List Wk) (R:List Tr) (p:Str),R.length=n->Way N t0.2.1 W R p->∃ W,Done N t0.2.1 W:=fun n=>by
  induction n with
  | zero =>
   intro W R p l h;have:R=[]:=hAy.mp l;subst this;exact⟨W,h.done mi nd⟩
  | succ n ih =>
   intro W R p l h;obtain⟨t,r,e⟩:=h.goes mi nd e0 (fun z=>by rw[z]at l;cases l);have hR:t∈R:=(hAf.mp (by rw[e];exact hA3:t∈R.filter (tch p))).1;have ndR:(nmS R).Nodup:=by rw[h.r];exact nd.sublist (hB5.map _)
   have:=out_len (N:=N) ndR hR;exact ih _ _ _ (by omega) (h.next nd e)
 exact this _ [] N _ rfl (Way.start N _)
theorem chn_goals {N:List Tr}:∀ {W:List Wk} {p q:Str},Chn N p W q->(W.map fun w=>w.2.1)++[q]=p :: W.map fun w=>w.2.2
 | [],p,q,h=>by cases(show p=q from h);rfl
 | w :: W,p,q,h=>by
  have ih:=chn_goals h.2.2;rw[hAm,hAm,List.cons_append,ih,h.1]
theorem wk_sum {N:List Tr} (nd:(nmS N).Nodup) {p0:Str} {W:List Wk} (h:Done N p0 W) (x:Str):sR N (fun _=>true) x=(W.map fun w=>enF w x).sum:=by
 have sub:∀ y∈wn W,y∈nmS N:=fun y hy=>by
  obtain⟨w,hw,rfl⟩:=hAb.mp hy;obtain⟨t,ht,e,_⟩:=qGc h.c w hw;exact hAb.mpr ⟨t,ht,e⟩
 have pm:(wn W).Perm (nmS N):=(hCb h.nd nd).mpr fun y=>⟨sub y,fun hy=>by obtain⟨t,ht,rfl⟩:=hAb.mp hy;exact h.all t ht⟩
 have fd:∀ t∈N,N.find? (fun u=>decide (u.1=t.1))=some t:=fun t ht=>by
  cases e:N.find? fun u=>decide (u.1=t.1) with
  | none=>exact absurd (List.find?_eq_none.mp e t ht) (by simp)
  | some u =>
   have h1:=List.mem_of_find?_eq_some e;have h2:=List.find?_some e;rw[nm_inj nd h1 ht (of_decide_eq_true h2)]
 have e1:(N.map fun t=>enF t x)=(nmS N).map fun n=>((N.find? fun u=>decide (u.1=n)).map fun u=>enF u x).getD 0:=by
  rw[hB2];refine hBu fun t ht=>?_
  show _=((N.find? fun u=>decide (u.1=t.1)).map fun u=>enF u x).getD 0;rw[fd t ht];rfl
 have e2:(W.map fun w=>enF w x)=(wn W).map fun n=>((N.find? fun u=>decide (u.1=n)).map fun u=>enF u x).getD 0:=by
  rw[hB2];refine hBu fun w hw=>?_
  obtain⟨t,ht,e,ends⟩:=qGc h.c w hw;show _=((N.find? fun u=>decide (u.1=w.1)).map fun u=>enF u x).getD 0;rw[<-e,fd t ht];show enF w x=enF t x;unfold enF;rcases ends with ⟨a,b⟩ | ⟨a,b⟩
  ·rw[a,b]
  ·rw[a,b];omega
 have e0:sR N (fun _=>true) x=(N.map fun t=>enF t x).sum:=by unfold sR;simp
 rw[e0,e1,e2];exact((pm.symm.map _).sum_nat)
theorem sum_cnt (x:Str):∀ W:List Wk,(W.map fun w=>enF w x).sum=(W.map fun w=>w.2.1).count x+(W.map fun w=>w.2.2).count x
 | []=>rfl
 | w :: W=>by
  rw[hAm,hD4,sum_cnt x W,hAm,hAm,List.count_cons,List.count_cons];unfold enF;by_cases a:w.2.1=x <;> by_cases b:w.2.2=x <;> simp[a,b] <;> omega
theorem nd_cnt {x:Str}:∀ {l:List Str},l.Nodup->l.count x<=1
 | [],_=>hAq _
 | a :: l,h=>by
  obtain⟨h1,h2⟩:=hAx.mp h;rw[List.count_cons];by_cases c:a=x
  ·have:l.count x=0:=List.count_eq_zero.mpr (c▸h1);simp[c,this]
  ·have:=nd_cnt (x:=x) h2;simp[c,this]
theorem Min.two {N:List Tr} (h:Min N) (rs:qDo (nmS N)) {ps:List Str} (pk:qGk N ps):∀ x∈ps,(qCc N x).length=2:=fun x hx=>by
 have nd:=qDc rs;obtain⟨t0,r0,e0⟩:∃ t r,N=t :: r:=by cases e:N with | nil=>exact absurd e h.ne | cons t r=>exact⟨t,r,rfl⟩
 obtain⟨W,dn⟩:=done_ex h nd e0;have s:=wk_sum nd dn x;rw[sum_cnt]at s;have g:=congrArg (List.count x) (chn_goals dn.c);rw[List.count_append,List.count_cons,List.count_cons,List.count_nil]at g;have n1:=nd_cnt (x:=x) (h.starts nd (A:=[]) dn.c dn.nd:(W.map fun w=>w.2.1).Nodup);have p:=star_pos ((pk.2 x).mp hx);have l:=star_len x N;omega
end My
namespace My
open PySem L2
def tCutE (t:TS):TS:=fun D σ H=>∃ Pm:St->Hp->Prop,t { D with nx:=Pm } σ H/\∀ σ' H',Pm σ' H'->D.nx σ' H'
theorem ps_cutE {X:Cx} {st:Stmt} {t:TS} (h:PS X st t):PS X st (tCutE t):=by
 intro pins s σ H D I hw;obtain⟨Pm,h1,h2⟩:=hw;refine thn (h pins s σ H { D with nx:=Pm } I h1) fun fl s' q=>?_
 cases fl with
 | next=>obtain⟨σ',H',I',q⟩:=q;exact⟨σ',H',I',h2 σ' H' q⟩
 | brk=>exact q
 | cont=>exact q
 | ret _=>exact q
def IsOne (N:List Tr):Prop:=(PCK (lbF N) N).length=1/\∀ x,isPt N x->(qCc N x).length=2
def spOne:Sp:=fun vs H Q _=>∃ (p:Addr) (N:List Tr),vs=[.ref p]/\qA8 H p N/\N.length<=12/\∀ (b:Bool) (H':Hp),Ext H H'->(b=true↔IsOne N)->Q (.bl b) H'
theorem Min.isOne {N:List Tr} (h:Min N) (rs:qDo (nmS N)) {ps:List Str} (pk:qGk N ps):IsOne N:=⟨h.piece (qDc rs),fun x hx=>h.two rs pk x ((pk.2 x).mpr hx)⟩
theorem pts_ex (N:List Tr):∃ ps,qGk N ps:=by
 have nd_ex:∀ l:List Str,∃ ps:List Str,ps.Nodup/\∀ x,x∈ps↔x∈l:=fun l=>by
  induction l with
  | nil=>exact⟨[],hCe,fun x=>Iff.rfl⟩
  | cons a l ih =>
   obtain⟨ps,h1,h2⟩:=ih;by_cases c:a∈l
   ·exact⟨ps,h1,fun x=>by rw[h2,hAa];exact⟨.inr,fun h=>h.elim (fun e=>e▸c) id⟩⟩
   ·exact⟨a :: ps,hAx.mpr ⟨fun z=>c ((h2 a).mp z),h1⟩,fun x=>by rw[hAa,hAa,h2]⟩
 obtain⟨ps,h1,h2⟩:=nd_ex ((N.map fun t=>t.2.1)++N.map fun t=>t.2.2);refine⟨ps,h1,fun x=>?_⟩
 ·rw[h2,hAe,hAb,hAb];constructor
  ·rintro(⟨t,ht,rfl⟩ | ⟨t,ht,rfl⟩)
   ·exact⟨t,ht,.inl rfl⟩
   ·exact⟨t,ht,.inr rfl⟩
  ·rintro⟨t,ht,e | e⟩
   ·exact .inl ⟨t,ht,e.symm⟩
   ·exact .inr ⟨t,ht,e.symm⟩
def WkWd (H:Hp) (p rp to:Addr) (N:List Tr) (p0:Str):Nat->L2.St->Hp->Prop:=fun k σ H'=>∃ (R:List Tr) (pt:Str) (W:List Wk) (rl:Addr) (x5 x6 x7 x8:Option V),k=R.length/\σ=[some (.ref p),some (.ref rp),some (.ref rl),some (.str pt),some (.ref to),x5,x6,x7,x8]/\Ext H H'/\qA8 H' rl R/\rl≠to/\qA8 H' to W/\Way N p0 W R pt
theorem qA8.set {H:Hp} {p to:Addr} {N:List Tr} {ys zs:List V} (h:qA8 H p N) (ht:H to=some (.lst ys)) (ne:p≠to):qA8 (upd H to (.lst zs)) p N:=by
 obtain⟨as,h1,h2⟩:=h;exact⟨as,by rw[qAe ne];exact h1,Paired.mapP h2 fun a t z=>by rw[qAe (fun e=>by rw[e,ht]at z;cases z)];exact z⟩
theorem way_len {N R:List Tr} {p0 p:Str} {W:List Wk} (h:Way N p0 W R p) (nd:(nmS N).Nodup):W.length<=N.length:=by
 have sub:∀ x∈wn W,x∈nmS N:=fun x hx=>by
  obtain⟨w,hw,rfl⟩:=hAb.mp hx;obtain⟨t,ht,e,_⟩:=qGc h.c w hw;exact hAb.mpr ⟨t,ht,e⟩
 have p1:(wn W).Perm ((nmS N).filter fun x=>decide (x∈wn W)):=(hCb h.nd (nd.sublist hB5)).mpr fun a=>by
  rw[hAf,decide_eq_true_iff];exact⟨fun ha=>⟨sub a ha,ha⟩,fun ha=>ha.2⟩
 have l1:=p1.length_eq;rw[hA1]at l1;rw[l1];refine hAs (hAt _ _) ?_;rw[hA1];exact hA5 _
def spWalk:Sp:=fun vs H Q _=>∃ (p rp:Addr) (net:List Tr) (row:List Str),vs=[.ref p,.ref rp]/\qA8 H p net/\LsS H rp row/\net.length<=12/\qDo (nmS net)/\SOk row/\nmS (qDh net row)=row/\Min (qDh net row) /\
 ∀ (r:Addr) (t0:Tr) (r0:List Tr) (W:List Wk) (H':Hp),Ext H H'->H r=none->qA8 H' r W->qDh net row=t0 :: r0->Done (qDh net row) t0.2.1 W->Q (.ref r) H'
theorem qFl {K:PySem.W.Frag} {H1:Hp} {p:Addr} {net:List Tr} {Q:List V->Hp->Prop} {σ0:L2.St} {g:TG} {tt:TT} {te:TE} (pr:Tr->Bool) (hp:qA8 H1 p net) (hl:net.length<=12)
  (hs:∀ (c:Addr) (t:Tr) (H2:Hp),t∈net->Ext H1 H2->H2 c=some (.tup (trV t))->∀ (C:V->Hp->Prop) (B:Hp->Prop),(∀ H3,Ext H2 H3->pr t=true->C (.ref c) H3)->(∀ H3,Ext H2 H3->pr t=false->B H3)->g (.ref c) σ0 H2 fun σ2 H3=>Sle σ0 σ2/\tt σ2 H3 fun b H4=>if b=true then te σ2 H4 C else B H4)
  (hd:∀ (as':List Addr) (H2:Hp),Ext H1 H2->Paired (fun a t=>H2 a=some (.tup (trV t))) as' (net.filter pr)->Q (as'.map V.ref) H2):qE0 (Itl K p) σ0 g tt te Q H1:=by
 obtain⟨as,hp,pd⟩:=hp;have la:as.length=net.length:=pd.length;refine qAt (xs:=as.map V.ref) (fun j ys H2=>Ext H1 H2/\∃ as',ys=as'.map V.ref/\Paired (fun a t=>H2 a=some (.tup (trV t))) as' ((net.take j).filter pr)) ⟨Ext.refl _,[],rfl,.nil⟩ (fun j ys H2 _ h=>SqL.of (h.1 _ _ hp)) ?_ ?_
 ·rintro j v ys H2 hx ⟨e2,as',rfl,pr'⟩;obtain⟨c,rfl,hc⟩:=ref_get hx;obtain⟨t,ht,hct⟩:=qBc pd hc;have hj:=qA0 ht;have l':as'.length=_:=pr'.length;have:=hAt pr (net.take j);rw[hAj]at this;refine hs c t H2 (hAu ht) e2 (e2 _ _ hct) _ _ (fun H3 e3 b=>⟨?_,nxt (qA0 hx) ⟨e2.trans e3,as'++[c],by rw[hA9];rfl,?_⟩⟩) (fun H3 e3 b=>nxt (qA0 hx) ⟨e2.trans e3,as',rfl,?_⟩)
  ·rw[hA1];exact qCd (by omega)
  ·rw[filt_t ht b];exact Paired.snoc (Paired.mapP pr' fun a t z=>e3 _ _ z) (e3 _ _ (e2 _ _ hct))
  ·rw[filt_f ht b];exact Paired.mapP pr' fun a t z=>e3 _ _ z
 ·rintro ys H2 ⟨e2,as',rfl,pr'⟩;rw[hA1,la,hA8 (hA5 _)]at pr';exact hd as' H2 e2 pr'
section
variable {P:Program} {w:World} {K:PySem.W.Frag} {mg:Str->Option Value} {base:Heap} {f f1 f2 f3 f4:Addr} {fd fd1 fd2 fd3 fd4:FuncData}
theorem scOne:FnScope ["net"] ["net"] (qAb sOne):=⟨rfl,rfl,rfl,by decide +kernel,rfl,by decide +kernel,by decide +kernel⟩
theorem ok_one (F:Fun K "is_one_round" "is_one_round" sOne f fd)
  (G1:Cl P w K mg base CX0 3 f1 fd1 ["net"] spPieces "pieces")
  (G2:Cl P w K mg base CX0 2 f2 fd2 ["net"] spStars "stars")
  (ml:mg "len" = none) (mal:mg "all" = none):FnOk P w K mg base CX0 4 f fd ["net"] spOne:=by
 refine F.ok scOne (fun vs H Q E h=>?_) (fun cdv A outer s H vs Q E hr h=>?_)
 ·obtain⟨p,N,rfl,_⟩:=h;rfl
 obtain⟨p,N,rfl,nt,hl,q⟩:=h;have hr2:=hr.mono (j:=2) (by decide);refine⟨_,qAh (qAu (pe_and (qCr qCs (qAj qAq rfl ml hB9 (qAa (qAy G1 hr rfl .nil qAz (qAa (pv 0) qAc)) qAc)) qAd (qAw _)) (pe_one (qAj (call_allB rfl) rfl mal boot_all' (qAa (pe_lc (N:=["net"]) (sc:=qAb sOne) (N':=["told"]) (sub:=[none]) rfl rfl (CmpOk.of (by decide +kernel)) rfl (qAv (qAy G2 hr2 rfl .nil qAz (qAa (pv 0) qAc))) (fun C s H fp=>⟨qAg (i:=0) (by show(["told"]:List Str).Nodup;decide) rfl (Or.inl rfl),qA7,(qCr qCs (qAj (show qA6 _ (.builtin "len") (rLenS K) from qAq) rfl ml hB9 (qAa (pv 0) qAc)) qAd (qAw _))⟩)) qAc))))),?_⟩;try dsimp only[Cx.wish,qB5]
 refine⟨_,rfl,p,N,rfl,nt,hl,fun r H1 e1 r0 hy=>?_⟩;obtain⟨as,hr',pr⟩:=hy;have la:as.length=(PCK (lbF N) N).length:=by rw[pr.length,hA1]
 refine⟨r,_,rfl,.inl (SqL.of hr'),rfl,_,rfl,?_⟩;rw[hA1,la];refine qDa (fun c=>?_) (fun c=>?_)
 ·have c0:(((PCK (lbF N) N).length:Nat):Int)=1:=by simpa using c
  have c1:(PCK (lbF N) N).length=1:=by omega
  refine⟨_,rfl,p,N,rfl,nt.ext e1,hl,fun r2 rows ps H2 e2 r20 hz pk rk pp so lr=>?_⟩;obtain⟨bs,_,hb,pb⟩:=hz;have lb:bs.length=rows.length:=pb.length;refine⟨r2,rfl,⟨_,SqL.of hb⟩,?_⟩;refine qAt (xs:=bs.map V.ref) (fun j ys H3=>H3=H2/\ys=((rows.take j).map fun r=>decide (r.length=2)).map V.bl) ⟨rfl,rfl⟩ (fun j ys H3 _ h=>by rw[h.1];exact SqL.of hb) ?_ ?_
  ·rintro j v ys H3 hx ⟨rfl,rfl⟩;obtain⟨b,rfl,hb'⟩:=ref_get hx;obtain⟨row,hrow,hbr⟩:=qBc pb hb';have hj:=qA0 hrow;refine⟨Sle.set _ (Sle.refl _) (fun u z=>by cases z),iteT (B:=False) ⟨_,rfl,b,_,rfl,.inl (SqL.of hbr.1),rfl,?_,nxt (qA0 hx) ⟨rfl,?_⟩⟩⟩
   ·rw[hA1,hA1,hAj];exact qAi (by omega)
   ·rw[qAl hrow,hA9,hA9,hA1];congr 1;show [V.bl (decide (V.int (row.length:Nat)=V.int 2))]=[V.bl (decide (row.length=2))];congr 2;exact decide_eq_decide.mpr ⟨fun h=>by injection h with h;omega,fun h=>by rw[h];rfl⟩
  ·rintro ys H3 ⟨rfl,rfl⟩ l hl';rw[hA1,lb,hA8 (hA5 _)];refine⟨l,_,rfl,SqL.of upd_same,?_⟩;refine q _ _ (e1.trans (e2.trans (Ext.new hl' _))) ?_;rw[hCu];constructor
   ·intro h;refine⟨c1,fun x hx=>?_⟩;have m:qCc N x∈rows:=pp.mem_iff.mpr (hAb.mpr ⟨x,(pk.2 x).mpr hx,rfl⟩);exact of_decide_eq_true (h _ (hAb.mpr ⟨_,m,rfl⟩))
   ·rintro⟨_,h⟩ b hb2;obtain⟨row,hrow,rfl⟩:=hAb.mp hb2;obtain⟨x,hx,rfl⟩:=hAb.mp (pp.mem_iff.mp hrow);exact decide_eq_true (h x ((pk.2 x).mp hx))
 ·exact q false _ e1 ⟨fun z=>(by cases z),fun z=>absurd (by rw[z.1];rfl) c⟩
abbrev wkN:List Str:=["net","row","rest","point","told","name","one","other","goal"]
theorem qCm:FnScope wkN ["net","row"] (qAb qFs):=⟨rfl,rfl,rfl,by decide +kernel,rfl,by decide +kernel,by decide +kernel⟩
theorem ok_walk (F:Fun K "walk" "walk" qFs f fd)
  (G1:Cl P w K mg base CX0 1 f1 fd1 ["net"] spTies "ties_of")
  (G2:Cl P w K mg base CX0 4 f2 fd2 ["net"] spOne "is_one_round"):FnOk P w K mg base CX0 5 f fd ["net","row"] spWalk:=by
 refine F.ok qCm (fun vs H Q E h=>?_) (fun cdv A outer s H vs Q E hr h=>?_)
 ·obtain⟨p,rp,net,row,rfl,_⟩:=h;rfl
 obtain⟨p,rp,net,row,rfl,nt,hrow,hl,rs,okr,sn,mi,q⟩:=h;have hr1:=hr.mono (j:=1) (by decide);refine⟨_,pss_cons (ps_lc (i:=2) (N:=wkN) (sc:=qAb qFs) (N':=["tie","row"]) (sub:=[none,some 1]) rfl rfl (CmpOk.of (by decide +kernel)) rfl (qAv (pv 0)) (fun C s H fp=>⟨qAg (i:=0) (by show(["tie","row"]:List Str).Nodup;decide) rfl (Or.inl rfl),(qB8 (qAp (show OpR _ (compareOp .In) (rIn K false) from qCe) (pe_ix (show IxR _ (rIxT K) from qDe) (pv 0) qAd (fun _ _=>rfl)) (pv 1) (by with_unfolding_all rfl))),(pv 0)⟩) qCm.nd rfl (Or.inl rfl)) (pss_cons (qCq (PW.pt (qE6 (qAp (qF5 (qEv hr)) (qAy G1 hr1 rfl .nil qAz (qAa (pv 2) qAc)) (pv 1) (qAw _)) (qFz (qF1 (qF0 (qAy G2 hr rfl .nil qAz (qAa (pv 2) qAc))))))) (qAh ps_never) qBl) (pss_cons (qAn (i:=3) qCm.nd rfl (Or.inr rfl) (pe_ix qDe (pe_ix ix_list (pv 2) qAd (fun _ _=>rfl)) qAd (fun _ _=>rfl))) (pss_cons (qAn (i:=4) qCm.nd rfl (Or.inl rfl) (qBk qAc)) (pss_cons (ps_while PassesOwn.never (pt_truth (pv 2) (by intro _;rfl)) (pss_cons (ps_asg (pe_ix ix_list (pe_lc (N:=wkN) (sc:=qAb qFs) (N':=["tie","point"]) (sub:=[none,some 3]) rfl rfl (CmpOk.of (by decide +kernel)) rfl (qAv (pv 2)) (fun C s H fp=>⟨qAg (i:=0) (by show(["tie","point"]:List Str).Nodup;decide) rfl (Or.inl rfl),(qB8 (qAp (show OpR _ (compareOp .In) (rIn K false) from qCe) (pv 1) (qC2 (show SlR _ (rSlT K) from sl_tup) (pv 0) (qEh qAd) qEi) (by with_unfolding_all rfl))),(pv 0)⟩)) qAd (fun _ _=>rfl)) (qB3 rfl (qAm (qAg (i:=5) qCm.nd rfl (Or.inr rfl)) (qAm (qAg (i:=6) qCm.nd rfl (Or.inl rfl)) (qAm (qAg (i:=7) qCm.nd rfl (Or.inl rfl)) qBo))))) (pss_cons (ps_cutE (qAn (i:=8) qCm.nd rfl (Or.inl rfl) (qFh (qAp qCs (pv 3) (pv 6) (qAw _)) (pv 7) (pv 6)))) (pss_cons (qEg (pe_bm hC7 hC4 hC5 qCf (pv 4) (qAa (qCn (qAa (pv 5) (qAa (pv 3) (qAa (pv 8) qAc)))) qAc))) (pss_cons (ps_lc (i:=2) (N:=wkN) (sc:=qAb qFs) (N':=["tie","name"]) (sub:=[none,some 5]) rfl rfl (CmpOk.of (by decide +kernel)) rfl (qAv (pv 2)) (fun C s H fp=>⟨qAg (i:=0) (by show(["tie","name"]:List Str).Nodup;decide) rfl (Or.inl rfl),(qB8 (qAp op_ne (pe_ix (show IxR _ (rIxT K) from qDe) (pv 0) qAd (fun _ _=>rfl)) (pv 1) (qAw _))),(pv 0)⟩) qCm.nd rfl (Or.inl rfl)) (qAh (qAn (i:=3) qCm.nd rfl (Or.inr rfl) (pv 8)))))))) (qAh (qAu (pv 4))))))),?_⟩;try dsimp only[Cx.wish,qB5]
 obtain⟨as0,hp0,_⟩:=id nt;refine⟨_,rfl,p,rfl,⟨_,SqL.of hp0⟩,?_⟩;refine qFl (fun t=>decide (t.1∈row)) nt hl (fun c t H2 _ e2 hc C B c1 b1=>⟨Sle.set _ (Sle.refl _) (fun u z=>by cases z),_,rfl,c,_,_,_,rfl,rfl,SqT.of hc,(by exact atI_nat (j:=0) rfl),_,rfl,rp,_,rfl,.inl (SqL.of (e2 _ _ hrow)),rfl,flat_strs _,_,rfl,?_⟩) ?_
 ·rw[if_neg (by decide),qEn];exact qDa (fun cc=>⟨_,rfl,c1 _ (Ext.refl _) cc⟩) (fun cc=>b1 _ (Ext.refl _) (by simpa using cc))
 intro as1 H1 e1 pr1 l1 hl1;have X1:=Ext.new hl1 (.lst (as1.map V.ref));have E1:=e1.trans X1;have n1:qA8 (upd H1 l1 (.lst (as1.map V.ref))) l1 (qDh net row):=⟨as1,upd_same,Paired.mapP pr1 fun a t z=>X1 _ _ z⟩;have rs1:qDo (nmS (qDh net row)):=rs.sublist (hB5.map _);have nd1:=qDc rs1;have lN:(qDh net row).length<=12:=hAs (hAt _ _) hl;revert E1 n1 X1;generalize upd H1 l1 (.lst (as1.map V.ref))=G1';intro X1 E1 n1;obtain⟨t0,r0,eN⟩:∃ t r,qDh net row=t :: r:=by cases e:qDh net row with | nil=>exact absurd e mi.ne | cons t r=>exact⟨t,r,rfl⟩
 have q:=fun r W H' a b c d=>q r t0 r0 W H' a b c eN d
 clear pr1 hl1 X1;generalize hN:qDh net row=N at *;refine⟨_,rfl,l1,N,rfl,n1,lN,fun r2 H2 e2 r20 h2=>?_⟩;rw[show N.map (fun x=>x.1)=row from sn]at h2;refine⟨_,rfl,_,_,qDf h2,qDf ((E1.trans e2) _ _ hrow),qBh okr,qBh okr,_,rfl,?_⟩;rw[if_pos rfl,qDn,decide_eq_true rfl];refine iteF ?_;refine⟨_,rfl,l1,N,rfl,n1.ext e2,lN,fun b H3 e3 hb=>?_⟩;obtain⟨ps,pk⟩:=pts_ex N;have hb:b=true:=hb.mpr (mi.isOne rs1 pk);subst hb;refine⟨true,rfl,iteF ?_⟩;have E3:=E1.trans (e2.trans e3);have n3:=n1.ext (e2.trans e3);clear n1 h2 r20 e2 e3 E1;obtain⟨as3,h3,pr3⟩:=id n3;rw[eN]at pr3;cases pr3 with
 | cons a0 pr4 =>
  rename_i x0 as4;refine⟨_,rfl,l1,_,_,_,rfl,rfl,SqL.of h3,(by exact atI_nat (j:=0) rfl),x0,_,_,_,rfl,rfl,SqT.of a0,(by exact atI_nat (j:=1) rfl),?_⟩;refine⟨hAq _,fun to to1=>?_⟩;have to0:=E3.none to1;have X4:=Ext.new to1 (.lst []);have h40:qA8 (upd H3 to (.lst [])) to []:=⟨[],upd_same,.nil⟩;have n4:=n3.ext X4;have E4:=E3.trans X4;have lne:l1≠to:=qAf h3 to1;clear h3 a0 pr4 n3;revert X4 h40 n4 E4;generalize upd H3 to (.lst [])=H4;intro X4 h40 n4 E4;refine⟨WkWd H p rp to N t0.2.1,⟨_,N,t0.2.1,[],l1,none,none,none,none,rfl,rfl,E4,n4,lne,h40,Way.start _ _⟩,?_⟩;clear n4 E4 h40 X4 E3 to1 lne;rintro k σ H' ⟨R,pt,W,rl,x5,x6,x7,x8,rfl,rfl,e,nR,rne,nW,way⟩;obtain⟨as,hrl,prR⟩:=id nR;have la:as.length=R.length:=prR.length;refine⟨_,rfl,!(as.map V.ref).isEmpty,.inl ⟨_,SqL.of hrl,rfl⟩,?_⟩;have lR:R.length<=12:=by
   rw[way.r];exact hAs (hAt _ _) lN
  cases hR:R with
  | nil =>
   rw[hR]at la;have:as=[]:=hAy.mp la;rw[this];refine iteF ?_;rw[hR]at way;exact⟨_,rfl,q to W H' e to0 nW (way.done mi nd1)⟩
  | cons u R' =>
   have ne:R≠[]:=by rw[hR];simp
   rw[<-hR];have:(as.map V.ref).isEmpty=false:=by cases has:as with | nil=>rw[has,hR]at la;cases la | cons a l=>rfl
   rw[this];refine iteT ⟨fun σ' H'=>∃ k',k'<R.length/\WkWd H p rp to N t0.2.1 k' σ' H',fun _ _ h=>h,?_⟩;clear this hR R' u;obtain⟨t,r,et⟩:=way.goes mi nd1 eN ne;refine⟨_,rfl,rl,rfl,⟨_,SqL.of hrl⟩,?_⟩;refine qFl (tch pt) nR lR (fun c t H2 _ e2 hc C B c1 b1=>⟨Sle.set _ (Sle.refl _) (fun u z=>by cases z),_,rfl,_,rfl,_,rfl,c,_,rfl,SqT.of hc,(by show ¬(1=0/\_);exact fun z=>absurd z.1 (by decide)),fun s hs=>?_⟩) ?_
   ·have Xs:=Ext.new hs (.tup [V.str t.2.1,V.str t.2.2]);refine⟨s,_,rfl,.inr (SqT.of upd_same),rfl,flat_strs [t.2.1,t.2.2],_,rfl,?_⟩;rw[if_neg (by decide)];rw[show inV (.str pt) (cutV (trV t) (some 1) none)=decide (pt∈[t.2.1,t.2.2]) from qEn pt [t.2.1,t.2.2]];have ec:decide (pt∈[t.2.1,t.2.2])=tch pt t:=decide_eq_decide.mpr (by simp);rw[ec];exact qDa (fun cc=>⟨_,rfl,c1 _ Xs cc⟩) (fun cc=>b1 _ Xs (by simpa using cc))
   intro as2 H2 e2 pr2 l2 hl2;rw[et]at pr2;cases pr2 with
   | cons h2 pr3 =>
    rename_i a2 as3;have X2:=Ext.new hl2 (.lst ((a2 :: as3).map V.ref));refine⟨l2,_,_,_,rfl,rfl,SqL.of upd_same,(by exact atI_nat (j:=0) rfl),?_⟩;refine⟨a2,_,rfl,SqT.of (X2 _ _ h2),rfl,_,_,rfl,_,_,rfl,_,_,rfl,rfl,?_⟩;have E2:=e.trans (e2.trans X2);have nR2:=nR.ext (e2.trans X2);have nW2:=nW.ext (e2.trans X2);revert X2 E2 nR2 nW2;generalize upd H2 l2 (.lst ((a2 :: as3).map V.ref))=H3';intro X2 E2 nR2 nW2;clear h2 pr3 hl2 X2;refine⟨fun σ' Hq=>σ'=[some (.ref p),some (.ref rp),some (.ref rl),some (.str pt),some (.ref to),some (.str t.1),some (.str t.2.1),some (.str t.2.2),some (.str (goalF pt t))]/\Hq=H3',?_,?_⟩
    ·refine⟨_,rfl,_,rfl,rfl,_,rfl,?_⟩;unfold goalF;refine qDa (fun c=>?_) (fun c=>?_)
     ·have:pt=t.2.1:=by simpa using c
      rw[if_pos this];exact⟨_,rfl,rfl,rfl⟩
     ·have:¬pt=t.2.1:=by simpa using c
      rw[if_neg this];exact⟨_,rfl,rfl,rfl⟩
    rintro σ' H' ⟨rfl,rfl⟩;obtain⟨ws,hto,prW⟩:=id nW2;have lW:ws.length=W.length:=prW.length;have wl:=way_len way nd1;refine⟨_,rfl,.inl ⟨rfl,_,SqL.of hto⟩,_,rfl,_,rfl,_,rfl,(by show 3<=sizeLine;decide),fun wt hwt=>?_⟩;have Xt:=Ext.new hwt (.tup [V.str t.1,V.str pt,V.str (goalF pt t)]);have hto2:=Xt _ _ hto;refine⟨to,_,_,rfl,rfl,hto2,(by rw[hA1];exact qAi (by omega)),?_⟩;have nR3:qA8 (upd (upd H' wt (.tup [V.str t.1,V.str pt,V.str (goalF pt t)])) to (.lst (ws.map V.ref++[V.ref wt]))) rl R:=(nR2.ext Xt).set hto2 rne;have wto:wt≠to:=fun z=>by rw[z,hto]at hwt;cases hwt
    have nW3:qA8 (upd (upd H' wt (.tup [V.str t.1,V.str pt,V.str (goalF pt t)])) to (.lst (ws.map V.ref++[V.ref wt]))) to (W++[(t.1,pt,goalF pt t)]):=by
     refine⟨ws++[wt],by rw[upd_same,hA9];rfl,Paired.snoc (Paired.mapP prW fun a u z=>?_) ?_⟩
     ·rw[qAe (fun e=>by rw[e,hto]at z;cases z)];exact Xt _ _ z
     ·rw[qAe wto];exact upd_same
    have E3':Ext H (upd (upd H' wt (.tup [V.str t.1,V.str pt,V.str (goalF pt t)])) to (.lst (ws.map V.ref++[V.ref wt]))):=(E2.trans Xt).over to0 _;revert nR3 nW3 E3';generalize upd (upd H' wt (.tup [V.str t.1,V.str pt,V.str (goalF pt t)])) to (.lst (ws.map V.ref++[V.ref wt]))=H5;intro nR3 nW3 E3';clear hto hto2 prW Xt hwt wto lW;obtain⟨as5,hrl5,_⟩:=id nR3;refine⟨_,rfl,rl,rfl,⟨_,SqL.of hrl5⟩,?_⟩;refine qFl (fun u=>!decide (u.1=t.1)) nR3 lR (fun c u H2 _ e2 hc C B c1 b1=>⟨Sle.set _ (Sle.refl _) (fun u z=>by cases z),_,rfl,c,_,_,_,rfl,rfl,SqT.of hc,(by exact atI_nat (j:=0) rfl),_,rfl,rfl,_,rfl,?_⟩) ?_
    ·have ec:(!decide (V.str u.1=V.str t.1))=!decide (u.1=t.1):=by
      congr 1;exact decide_eq_decide.mpr ⟨fun h=>by injection h,fun h=>by rw[h]⟩
     rw[ec];exact qDa (fun cc=>⟨_,rfl,c1 _ (Ext.refl _) cc⟩) (fun cc=>b1 _ (Ext.refl _) (by simpa using cc))
    intro as6 H6 e6 pr6 l6 hl6;have X6:=Ext.new hl6 (.lst (as6.map V.ref));have hR':t∈R:=(hAf.mp (by rw[et];exact hA3:t∈R.filter (tch pt))).1;have ndR:(nmS R).Nodup:=by rw[way.r];exact nd1.sublist (hB5.map _)
    have ol:=out_len (N:=N) ndR hR';have nW6:=nW3.ext (e6.trans X6);obtain⟨_,hto6,_⟩:=id (nW3.ext e6);exact⟨_,rfl,(outF t.1 R).length,by omega,outF t.1 R,goalF pt t,_,l6,_,_,_,_,rfl,rfl,E3'.trans (e6.trans X6),⟨as6,upd_same,Paired.mapP pr6 fun a u z=>X6 _ _ z⟩,(fun z=>by rw[<-z,hl6]at hto6;cases hto6),nW6,way.next nd1 et⟩
end
end My
namespace L2
open PySem PySem.Spec PyProof.Rows
def Fly (H:Hp) (h0 h:Heap) (e:Addr) (cls:Value):Prop :=
 h0.get? e=none/\H e=none/\∃ (a0:Value) (oe:Obj) (vs:Array Value) (T:Addr) (oT:Obj) (ts:Array Value),h.get? e=some oe/\(oe.cls=cls/\vs[0]?=some a0)/\oe.data = .fields vs/\vs[1]?=some (.ref T)/\T≠e/\h0.get? T=none/\H T=none/\h.get? T=some oT/\oT.data = .fields ts/\ts[3]?=some .none
def CXe (P:Program) (w:World):CXT:=fun outer H s E e s'=>∃ (ea:Addr) (cls:Value) (H':Hp),e = .ref ea/\s'.os=s.os/\AllBare s'.gens/\Un (frs outer) [] H H' s.heap s'.heap/\HOk P w H' s'.heap/\Fly H' s.heap s'.heap ea cls/\E cls none H'
theorem ok_some:∀ {o:HO},qBg P w H h a o->∃ ob,h.get? a=some ob
 | .lst _,x=>by obtain⟨_,_,_,_,e⟩:=x;exact⟨_,e⟩
 | .tup _,x=>by obtain⟨_,_,_,p⟩:=x;obtain⟨ob,e,_⟩:=p;exact⟨_,e⟩
 | .dK _,x=>by obtain⟨_,_,_,_,ob,_,_,e,_⟩:=x;exact⟨_,e⟩
 | .dT _,x=>by obtain⟨_,_,_,_,ob,_,_,e,_⟩:=x;exact⟨_,e⟩
 | .set _ _,x=>by obtain⟨ob,_,_,_,e,_⟩:=x;exact⟨_,e⟩
 | .ins _ _ _,x=>by obtain⟨_,_,_,e,_⟩:=x;exact⟨_,e⟩
 | .own _,x=>x
 | .xd _,x=>by obtain⟨_,⟨ob,_,_,e,_⟩,_⟩:=x;exact⟨_,e⟩
 | .rng _ _,x=>by obtain⟨_,_,_,e⟩:=x;exact⟨_,e⟩
 | .frz _ _,x=>⟨_,x.1⟩
 | .tbl _,x=>⟨_,x⟩
 | .met _ _,x=>⟨_,x⟩
 | .ext _,x=>x.2.1
theorem funs_hid {h b1 b2:Heap}:∀ {l:List Env},h.FunFrames b1 l->(∀ a∈frs l,b2.get? a=none)->h.FunFrames b2 l
 | [],_,_=>trivial
 | env :: r,hl,hn=>by
  obtain⟨k,⟨L,o,f,_,ho,hd⟩,hr⟩:=hl;have m:frs (env :: r)=L :: frs r:=by unfold frs;rw[hBq,f]
  rw[m]at hn;exact⟨k,⟨L,o,f,hn L hA3,ho,hd⟩,funs_hid hr fun a ha=>hn a (hA4 _ ha)⟩
section
variable {P:Program} {w:World} {K:PySem.W.Frag} {mg:Str->Option Value} {base:Heap} {N:List Str} {qual:Str} {scope:Scope} {f:Addr} {cd:Value} {A:Around} {outer:List Env} {s:Shared} {H:Hp} {E:XK}
abbrev cxE (P:Program) (w:World) (K:PySem.W.Frag) (mg:Str->Option Value) (base:Heap) (N:List Str) (qual:Str) (scope:Scope) (f:Addr) (cd:Value) (A:Around) (outer:List Env) (s:Shared) (H:Hp) (E:XK):Cx:=qB5 (CXe P w) P w K mg base N qual scope f cd A outer s H E
theorem left_cx (J:Inv (cxE P w K mg base N qual scope f cd A outer s H E) pins σ H' s') (He:H' ea=none) (Hs:s.heap.get? ea=none)
  (ex:List Addr) (hex:∀ t∈ex,H' t=none/\s.heap.get? t=none) (lf:Heap.LeftW (PySem.W.hideAll s'.heap (ea :: (ex++frs (cxE P w K mg base N qual scope f cd A outer s H E).stack))) (cxE P w K mg base N qual scope f cd A outer s H E).stack ea cls a0 s'.heap h'') (q:E cls none H') :
  CXe P w outer H s E (.ref ea) { s' with heap:=h'' }:=by
 obtain⟨l1,l2,⟨oe,vs,T,oT,ts,t1,t2,t3,t4,t5,t6,t7,t8,t9⟩,l4⟩:=lf;have fr:=J.stack;have frf:=J.stkFree;have kp:∀ b o,s'.heap.get? b=some o->b≠ea->b∉ex->b∉frs (cxE P w K mg base N qual scope f cd A outer s H E).stack->h''.get? b=some o:=fun b o e n1 n2 n3=>l1 b o (hDo _ e (by
  rw[hAa,hAe];rintro(z | z | z)
  ·exact n1 z
  ·exact n2 z
  ·exact n3 z))
 have old:∀ b o,s.heap.get? b=some o->b≠ea/\b∉ex/\b≠(envOfC qual scope s.heap.objs.size f cd).locals:=fun b o e=>by
  refine⟨fun z=>?_,fun z=>?_,fun z=>?_⟩
  ·rw[z,Hs]at e;cases e
  ·rw[(hex b z).2]at e;cases e
  ·have lt:=Heap.lt_size e;rw[z]at lt;exact absurd (hAi lt J.ok.above) (hBp _)
 have stk:∀ b,b∈frs (cxE P w K mg base N qual scope f cd A outer s H E).stack->b=(envOfC qual scope s.heap.objs.size f cd).locals\/b∈frs outer:=fun b hb=>by
  have:frs (cxE P w K mg base N qual scope f cd A outer s H E).stack=(envOfC qual scope s.heap.objs.size f cd).locals :: frs outer:=rfl;rw[this]at hb;exact hAa.mp hb
 have stk':∀ b,b∈frs outer->b∈frs (cxE P w K mg base N qual scope f cd A outer s H E).stack:=fun b hb=>hA4 _ hb
 have sl:∀ b o,s'.heap.get? b=some o->b∈frs (cxE P w K mg base N qual scope f cd A outer s H E).stack->∃ z,h''.get? b=some { o with slots:=z }:=fun b o e hb=>by
  obtain⟨_,o',ho',hd⟩:=fr.mem hb;rw[e]at ho';cases ho';exact l4 b o e hd
 have trk:∀ b u,H' b=some u->b≠ea/\b∉ex/\b∉frs (cxE P w K mg base N qual scope f cd A outer s H E).stack:=fun b u e=>by
  refine⟨fun z=>?_,fun z=>?_,fun z=>?_⟩
  ·rw[z,He]at e;cases e
  ·rw[(hex b z).1]at e;cases e
  ·rw[frf b z]at e;cases e
 refine⟨ea,cls,H',rfl,J.os,J.bare,⟨fun b o e n hb hx=>?_,fun b o e n hb hx=>?_,J.base.free,fun b o e hx=>?_,J.base.tups,J.base.frzs,J.base.tbls⟩,fun a o e=>?_,⟨Hs,He,a0,oe,vs,T,oT,ts,t1,t2,t3,t4,t6,?_,?_,t7,t8,t9⟩,q⟩
 ·obtain⟨o1,o2,o3⟩:=old b o e;exact kp b o (J.base.keep b o e n hb hx) o1 o2 fun z=>(stk b z).elim o3 hb
 ·obtain⟨z,e1⟩:=J.base.slot b o e n hb hx;obtain⟨z2,e2⟩:=sl b _ e1 (stk' b hb);exact⟨z2,e2⟩
 ·obtain⟨o1,o2,o3⟩:=old b o e;obtain⟨o',e1⟩:=J.base.there b o e hx;by_cases hb:b∈frs (cxE P w K mg base N qual scope f cd A outer s H E).stack
  ·obtain⟨z,e2⟩:=sl b o' e1 hb;exact⟨_,e2⟩
  ·exact⟨o',kp b o' e1 o1 o2 hb⟩
 ·refine(J.hok a o e).stay (fun b u hb q'=>?_) (fun b z=>z) fun b xs z=>z
  have hb':∃ v,H' b=some v:=by
   rcases hb with z | z
   ·rw[z];exact⟨_,e⟩
   ·exact⟨_,z⟩
  obtain⟨v,hv⟩:=hb';obtain⟨n1,n2,n3⟩:=trk b v hv;exact kp b u q' n1 n2 n3
 all_goals
  have cs:s'.heap.get? T=none\/T∈ex:=by
   cases z:s'.heap.get? T with
   | none=>exact .inl rfl
   | some o =>
    refine .inr ?_;by_cases h2:T∈ex
    ·exact h2
    ·exfalso;by_cases h3:T∈frs (cxE P w K mg base N qual scope f cd A outer s H E).stack
     ·obtain⟨y,e2⟩:=sl T o z h3;rw[t7]at e2;obtain⟨_,o',ho',hd⟩:=fr.mem h3;rw[z]at ho';cases ho';cases e2;exact hd _ t8
     ·have:=hDo (ea :: (ex++frs (cxE P w K mg base N qual scope f cd A outer s H E).stack)) z (by
       rw[hAa,hAe];rintro(y | y | y)
       ·exact t6 y
       ·exact h2 y
       ·exact h3 y)
      rw[t5]at this;cases this
 ·rcases cs with z | z
  ·cases y:s.heap.get? T with
   | none=>rfl
   | some o =>
    obtain⟨o',e1⟩:=J.base.there T o y (fun z=>by cases z);rw[z]at e1;cases e1
  ·exact(hex T z).2
 ·rcases cs with z | z
  ·cases y:H' T with
   | none=>rfl
   | some u =>
    exfalso;obtain⟨o,ho⟩:=ok_some (J.hok T u y);rw[z]at ho;cases ho
  ·exact(hex T z).1
end
end L2
namespace L2
open PySem PySem.Spec PyProof.Rows
section
variable {P:Program} {w:World} {K:PySem.W.Frag} {mg:Str->Option Value} {base:Heap} {N:List Str} {qual:Str} {scope:Scope} {f:Addr} {cd:Value} {A:Around} {outer:List Env} {s:Shared} {H:Hp} {E:XK}
theorem raise_xe (J:Inv (cxE P w K mg base N qual scope f cd A outer s H E) pins σ H' s2) (hm:Heap.MadeExcOf s2.heap h' ea cls args) (q:E cls none H') :
  (cxE P w K mg base N qual scope f cd A outer s H E).xe (.ref ea) { s2 with heap:=h' }:=by
 have J3:Inv (cxE P w K mg base N qual scope f cd A outer s H E) pins σ H' { s2 with heap:=h' }:=J.kept (t':=s2.toks) hm.keeps;have He:H' ea=none:=by
  cases y:H' ea with
  | none=>rfl
  | some u =>
   obtain⟨o,ho⟩:=ok_some (J.hok ea u y);rw[hm.new]at ho;cases ho
 have Hs:s.heap.get? ea=none:=by
  cases y:s.heap.get? ea with
  | none=>rfl
  | some o =>
   obtain⟨o',e1⟩:=J.base.there ea o y (fun z=>by cases z);rw[hm.new]at e1;cases e1
 obtain⟨t,ht,_,_⟩:=hm.there;show wpAny (model P w) _ (leaving (envOfC qual scope s.heap.objs.size f cd) (.ref ea)) _ _ _;refine wpAny_leaving_firstW (a0:=.ref t) (base:=PySem.W.hideAll h' (ea :: ([]++frs (cxE P w K mg base N qual scope f cd A outer s H E).stack))) (outer:=outer) (s:={ s2 with heap:=h' }) J3.ok.frames (funs_hid J3.stack fun a ha=>hCj _ (hA4 _ ha)) rfl ht (fun b o z=>PySem.W.of_hideAll _ z) (hCj _ hA3) rfl rfl rfl fun h'' lf=>?_
 exact left_cx J3 He Hs [] (fun t ht=>by cases ht) lf q
def tRaise (C:Addr) (E:XK) (t:TA):TS:=fun D σ H=>t σ H fun vs H1=>vs.length<=sizeLine/\E (.ref C) none H1
theorem ps_raise (hh:A.handled=none) (Fn:ExcBaseFacts Bn newId inN bmN) (hBn:bmB.contains (.type Bn)=true) (F:ExcBaseFacts B nid initId bmB) (O:OwnCls x C bmB newId mg base)
  (ha:PA (cxE P w K mg base N qual scope f cd A outer s H E) (e :: es) t) (hg:Gl (cxE P w K mg base N qual scope f cd A outer s H E) x) (hb:bmB.contains (.type "BaseException")=true) (hdb:(x == ("__debug__" : Str))=false:=by decide)
  (he:starEach (e :: es) (cxE P w K mg base N qual scope f cd A outer s H E).env=(false,eval e (cxE P w K mg base N qual scope f cd A outer s H E).env) :: starEach es (cxE P w K mg base N qual scope f cd A outer s H E).env:=by rfl) (hpl:(backTo cpos (starEach (e :: es) (cxE P w K mg base N qual scope f cd A outer s H E).env)).any (·.1)=false:=by rfl) :
  PS (cxE P w K mg base N qual scope f cd A outer s H E) (.Raise (some (.Call (.Name x np) (e :: es) [] cpos)) none pos) (tRaise C E t):=by
 intro pins s1 σ H1 D I h;obtain⟨bm,N',nm,q,bs,hdct,sn,sub,ab,col,dd,k0,k1,k2,k3,k5,mN,hC,hN,hni,T⟩:=O.2;refine wpAny_Raise_call_subU (C:=C) (nm:=nm) (q:=q) (N:=N') (bs:=bs) (bm:=bm) (hdct:=hdct) (sn:=sn) (sub:=sub) (ab:=ab) (col:=col) (dd:=dd) (k0:=k0) (k1:=k1) (k2:=k2) (k3:=k3) (k5:=k5) Fn hBn F (T.hasType hb) hh hpl hni ?_;refine ld_glob I hg O.1 ⟨rfl,?_⟩ hdb;rw[he];refine Calls.evalArgs_plain ?_;have:=ha cpos pins s1 σ H1 _ I h;rw[he]at this;refine thn this fun us s2 ⟨vs,H2,I2,rv,hl,hE⟩=>⟨rfl,by rw[<-rv.length];exact hl,I2.bk _ _ hC,hN.keeps I2.bk,T.keeps I2.bk,fun h' ea hm=>raise_xe I2 hm hE⟩
theorem Fun.okE {x:Str} {st:Stmt} {fd:FuncData} {ps:List Str} {k:Nat} {sp:Sp} (F:Fun K x qual st f fd) (S:FnScope N ps (qAb st)) (len:∀ vs H Q E,sp vs H Q E->vs.length=ps.length)
  (hbody:∀ (cdv:Value) (A:Around) (outer:List Env) (s:Shared) (H:Hp) (vs:List V) (Q:VK) (E:XK),Room k (A.deeper (envOfC qual (qAb st) s.heap.objs.size f cdv))->A.handled=none->sp vs H Q E ->
   ∃ t,PSs (cxE P w K mg base N qual (qAb st) f cdv A outer s H E) (qAo st) t/\t { nx:=fun _ H'=>Q .non H',rt:=Q } (start N vs) H):FnOk P w K mg base (CXe P w) (k+1) f fd ps sp:=by
 obtain⟨oc,od,kV,doc,pm,an,cdv,ct,osl,rfl,lk,hcd⟩:=F.ex;exact fn_of lk hcd S len fun A outer s H vs Q E hr hsp=>hbody cdv A outer s H vs Q E hr hr.hd hsp
end
end L2
namespace L2
open PySem PySem.Spec PyProof.Rows
section
variable {X:Cx} {pins:List (Addr×Obj)} {σ:St} {H:Hp} {s:Shared} {h':Heap}
theorem Inv.move (I:Inv X pins σ H s) (hp:∀ p∈pn++pins',p∈X.pn++pins) (hA:A.frames=X.A.frames) (hc:calm=true->A.handled=none) :
  Inv { X with A:=A,calm:=calm,xe:=xe,pn:=pn } pins' σ H s :=
 ⟨⟨I.ok.mod,I.ok.kind,I.ok.glob,I.ok.blt,I.ok.above,I.ok.inj,I.ok.has,I.ok.cab,hc,hA.trans I.ok.frames,I.ok.stk,I.ok.exf,I.ok.bs,I.ok.bsz,I.ok.noex,I.ok.exfs,I.ok.funs,I.ok.frf⟩,I.os,I.bare,I.base,I.loc,I.cell,I.free,I.freeC,fun p h=>I.pin p (hp p h),I.hok,I.len⟩
structure New (X:Cx) (pins:List (Addr×Obj)) (b:Addr):Prop where
 s0:X.s₀.heap.get? b=none
 loc:b≠X.env.locals
 cel:∀ x c,X.env.cells.lookup x=some c->c≠b
 pin:∀ p∈X.pn++pins,p.1≠b
theorem Inv.new_of (I:Inv X pins σ H s) (hex:X.ex=[]) (e:s.heap.get? b=none):New X pins b:=by
 refine⟨?_,fun z=>?_,fun x c hc z=>?_,fun p hp z=>?_⟩
 ·cases y:X.s₀.heap.get? b with
  | none=>rfl
  | some o =>
   obtain⟨o',e1⟩:=I.base.there b o y (by rw[hex];intro z;cases z);rw[e]at e1;cases e1
 ·obtain⟨m,⟨o,_,_,ho,_⟩,_⟩:=I.loc;rw[<-z,e]at ho;cases ho
 ·obtain⟨v,o,ho,_⟩:=I.cell x c hc;rw[z,e]at ho;cases ho
 ·have:=(I.pin p hp).1;rw[z,e]at this;cases this
theorem Inv.exs (I:Inv X pins σ H s) (hn:∀ b∈ch,New X pins b):Inv { X with ex:=X.ex++ch } pins σ H s :=
 ⟨⟨I.ok.mod,I.ok.kind,I.ok.glob,I.ok.blt,I.ok.above,I.ok.inj,I.ok.has,I.ok.cab,I.ok.hd,I.ok.frames,I.ok.stk,fun b hb=>(hAe.mp hb).elim (I.ok.exf b) fun z=>⟨(hn b z).loc,(hn b z).cel⟩,I.ok.bs,I.ok.bsz,
  fun b o e hb=>(hAe.mp hb).elim (I.ok.noex b o e) fun z=>(by
   have:=(I.ok.bs b o e).1;rw[(hn b z).s0]at this;cases this),
  fun b hb hf=>(hAe.mp hb).elim (fun z=>I.ok.exfs b z hf) fun z=>(by
   obtain⟨_,o,ho,_⟩:=I.ok.funs.mem hf;rw[(hn b z).s0]at ho;cases ho),I.ok.funs,I.ok.frf⟩,I.os,I.bare,
  ⟨fun b o e n hb hx=>I.base.keep b o e n hb fun z=>hx (hAn _ z),fun b o e n hb hx=>I.base.slot b o e n hb fun z=>hx (hAn _ z),fun b o e n hx=>I.base.free b o e n fun z=>hx (hAn _ z),fun b o e hx=>I.base.there b o e fun z=>hx (hAn _ z),I.base.tups,I.base.frzs,I.base.tbls⟩,
  I.loc,I.cell,I.free,I.freeC,I.pin,I.hok,I.len⟩
theorem Inv.unexs (ok:X.Ok) (I:Inv { X with ex:=X.ex++ch } pins σ H s) (hn:∀ b∈ch,New X pins b):Inv X pins σ H s:=by
 have nx:∀ b o,X.s₀.heap.get? b=some o->b∉X.ex->b∉X.ex++ch:=fun b o e hx hb=>(hAe.mp hb).elim hx fun z=>by rw[(hn b z).s0]at e;cases e
 exact⟨ok,I.os,I.bare,⟨fun b o e n hb hx=>I.base.keep b o e n hb (nx b o e hx),fun b o e n hb hx=>I.base.slot b o e n hb (nx b o e hx),fun b o e n hx=>I.base.free b o e n (nx b o e hx),fun b o e hx=>I.base.there b o e (nx b o e hx),I.base.tups,I.base.frzs,I.base.tbls⟩,
  I.loc,I.cell,I.free,I.freeC,I.pin,I.hok,I.len⟩
theorem Inv.flown (J:Inv X pins σ H s) (hn:∀ b∈ch,New X pins b) (hH:∀ b∈ch,H b=none) (st:(PySem.W.hideAll s.heap (ch++frs X.stack)).StaysIn h') (up:s.heap.UpToSlots h'):Inv X pins σ H { s with heap:=h' }:=by
 have kp:∀ b o,s.heap.get? b=some o->b∉ch->b∉frs X.stack->h'.get? b=some o:=fun b o e n1 n2=>st b o (hDo _ e fun z=>(hAe.mp z).elim n1 n2)
 have sl:∀ b o,s.heap.get? b=some o->b∈frs X.stack->∃ z,h'.get? b=some { o with slots:=z }:=fun b o e hb=>by
  obtain⟨_,o',ho',hd⟩:=J.stack.mem hb;rw[e]at ho';cases ho';exact up b o e hd
 have u:Un (frs X.stack) ch H H s.heap h':=⟨fun b o e _ n1 n2=>kp b o e n2 n1,fun b o e _ hb _=>sl b o e hb,fun _ _ _ n _=>n,fun b o e n2=>by
  by_cases hb:b∈frs X.stack
  ·obtain⟨z,e2⟩:=sl b o e hb;exact⟨_,e2⟩
  ·exact⟨o,kp b o e n2 hb⟩,fun _ _ e=>e,fun _ _ _ e=>e,fun b ps e=>⟨#[],by rw[e];simp⟩⟩
 have hok:HOk X.prog X.w H h':=fun a o e=>by
  refine(J.hok a o e).stay (fun b u hb q=>?_) (fun _ z=>z) fun _ _ z=>z
  have hv:∃ v,H b=some v:=hb.elim (fun z=>⟨o,by rw[z];exact e⟩) fun z=>⟨_,z⟩
  obtain⟨v,hv⟩:=hv;exact kp b u q (fun z=>by rw[hH b z]at hv;cases hv) fun z=>by rw[J.stkFree b z]at hv;cases hv
 exact Inv.unexs J.ok ((J.exs hn).call' (s':={ s with heap:=h' }) (ch:=ch) rfl u hok J.bare fun b hb=>⟨.inl (hA6 _ hb),(hn b hb).loc,(hn b hb).cel,(hn b hb).pin⟩) hn
def exO (ea:Addr) (cls:Value):HO:=.ext fun h=>∃ o,h.get? ea=some o/\o.cls=cls
theorem Inv.adopt (J:Inv X pins σ H s) (n:New X pins ea) (he:H ea=none) (ho:∃ o,s.heap.get? ea=some o/\o.cls=cls):Inv X pins σ (upd H ea (exO ea cls)) s:=by
 have ne:∀ b o,H b=some o->b≠ea:=fun b o e z=>by rw[z,he]at e;cases e
 have n0:∀ b o,X.s₀.heap.get? b=some o->b≠ea:=fun b o e z=>by rw[z,n.s0]at e;cases e
 refine⟨J.ok,J.os,J.bare,⟨J.base.keep,J.base.slot,fun b o e nn hx=>?_,J.base.there,fun b xs e=>?_,fun b o u e=>?_,fun b ps e=>?_⟩,J.loc,J.cell,?_,fun x c e=>?_,fun p hp=>?_,fun a o e=>?_,J.len⟩
 ·rw[qAe (n0 b o e)];exact J.base.free b o e nn hx
 ·rw[qAe (ne b _ (J.base.tups b xs e))];exact J.base.tups b xs e
 ·rw[qAe (ne b _ (J.base.frzs b o u e))];exact J.base.frzs b o u e
 ·obtain⟨m,e1⟩:=J.base.tbls b ps e;exact⟨m,by rw[qAe (ne b _ e1)];exact e1⟩
 ·rw[qAe (Ne.symm n.loc)];exact J.free
 ·rw[qAe (n.cel x c e)];exact J.freeC x c e
 ·obtain⟨a1,a2,a3⟩:=J.pin p hp;exact⟨a1,by rw[qAe (n.pin p hp)];exact a2,a3⟩
 ·by_cases z:a=ea
  ·subst z;rw[upd_same]at e;cases e;obtain⟨o,h1,h2⟩:=ho;refine⟨⟨o,h1,h2⟩,⟨o,h1⟩,fun g1 g2 ⟨o',q1,q2⟩ k=>⟨o',k o' q1,q2⟩⟩
  ·rw[qAe z]at e;refine(J.hok a o e).stay (fun _ _ _ q=>q) (fun b q=>?_) fun b xs q=>?_
   ·rw[qAe (ne b _ q)];exact q
   ·rw[qAe (ne b _ q)];exact q
theorem qDy (I:Inv X pins σ H s) (hN:X.N.Nodup) (hi:X.N[i]?=some n) (hx:X.env.scope.names.lookup n=some .local)
  (h:∀ s',Inv X pins (σ.set i none) H s'->Q () s'):wpAny M A (do bindName X.env n .none;unbindBehindTheSuite X.env n pos) Q E s:=by
 have hcls:(X.env.scope.kind == .class || (X.env.scope.kind == .module && X.env.locals != X.env.globals))=false:=by rw[I.ok.kind];rfl
 refine wpAny_bind (wpAny_bindName (qDt I hN hi (.inl hx) (v:=.non) (u:=.none) rfl (fun s1 J=>?_) (.inr hx)));have hiσ:i < σ.length:=by rw[I.len];exact(hAr.mp hi).1
 obtain⟨m,hn,hl⟩:=id J.loc;have hv:∃ v,m n=some v:=by
  obtain⟨u,_,l⟩:=hl i n .non hi (hD8 hiσ) (.inl hx);rcases l with ⟨_,e⟩ | ⟨k,_⟩
  ·exact⟨u,e⟩
  ·have k0:X.env.kindOf n=some .local:=hx;rcases k with k | k <;> (rw[k0]at k;cases k)
 obtain⟨v,hv⟩:=hv;unfold unbindBehindTheSuite;refine wpAny_onRaise (wpAny_unbindName_local hx hn hv hcls fun h' u hn' hs=>?_);have eq:∀ b,b≠X.env.locals->h'.get? b=s1.heap.get? b:=fun b hb=>hs.2 b hb
 obtain⟨oL,_,_,hoL,_⟩:=id hn';have nL:∀ b o,X.s₀.heap.get? b=some o->b≠X.env.locals:=fun b o e=>hAk (hAi (Heap.lt_size e) J.ok.above)
 refine h _ ⟨J.ok,J.os,J.bare,⟨fun b o e n hb hx=>(eq b (nL b o e)).trans (J.base.keep b o e n hb hx),fun b o e n hb hx=>?_,J.base.free,fun b o e hx=>?_,J.base.tups,J.base.frzs,J.base.tbls⟩,⟨_,hn',fun j y v' e1 e2 e3=>?_⟩,fun y c e=>?_,J.free,J.freeC,fun p hp=>?_,fun a o e=>?_,by rw[List.length_set];exact I.len⟩
 ·obtain⟨z,e1⟩:=J.base.slot b o e n hb hx;exact⟨z,(eq b (nL b o e)).trans e1⟩
 ·obtain⟨o',e1⟩:=J.base.there b o e hx;exact⟨o',(eq b (nL b o e)).trans e1⟩
 ·by_cases hj:j=i
  ·subst hj;rw[hD8 hiσ]at e2;cases e2
  ·rw[hCy (Ne.symm hj)]at e2;obtain⟨u',r',q⟩:=hl j y v' e1 (by rw[hCy (Ne.symm hj)];exact e2) e3;refine⟨u',r',?_⟩;rcases q with ⟨k,e⟩ | ⟨k,c,e,o,ho,hd⟩
   ·refine .inl ⟨k,?_⟩;show(if y=n then u else m y)=some u';rw[if_neg (fun (z:y=n)=>hj (nodup_ix hN (by rw[z]at e1;exact e1) hi))];exact e
   ·exact .inr ⟨k,c,e,o,(eq c (J.cne y c e)).trans ho,hd⟩
 ·obtain⟨v,o,ho,hd⟩:=J.cell y c e;exact⟨v,o,(eq c (J.cne y c e)).trans ho,hd⟩
 ·obtain⟨a1,a2,a3,a4⟩:=J.pin p hp;exact⟨(eq p.1 a3).trans a1,a2,a3,a4⟩
 ·refine(J.hok a o e).stay (fun b u hb q=>(eq b fun z=>?_).trans q) (fun _ z=>z) fun _ _ z=>z
  have hv:∃ v,H b=some v:=hb.elim (fun z=>⟨o,by rw[z];exact e⟩) fun z=>⟨_,z⟩
  obtain⟨v,hv⟩:=hv;rw[z,J.free]at hv;cases hv
end
def tTry (N:Nat) (K:PySem.W.Frag) (i:Nat) (C:Addr) (E:XK) (tb ts:TS):TS:=fun D σ H=>tb D σ H/\∀ (cls:Value) (H':Hp) (ea:Addr) (σ':St),E cls none H'->H' ea=none->σ'.length=N ->
 PySem.W.exmOne K cls (.ref C)=some true/\ts { nx:=fun σ2 H2=>D.nx (σ2.set i none) H2,rt:=D.rt,bk:=fun σ2 H2=>D.bk (σ2.set i none) H2,ct:=fun σ2 H2=>D.ct (σ2.set i none) H2 } (σ'.set i (some (.ref ea))) (upd H' ea (exO ea cls))
theorem ps_try
  (hb:∀ xe pn,Passes (CXe X.prog X.w) { X with xe:=xe,pn:=pn } E->PSs { X with xe:=xe,pn:=pn } body tb) (hg:Gl X cn) (hm:X.mg cn=some (.ref C))
  (hs:∀ e,PSs { X with A:=X.A.mark (some e),calm:=false,xe:=fun _ _=>False } (b0 :: suite) ts) (nd:X.N.Nodup) (hi:X.N[i]?=some n) (hx:X.env.scope.names.lookup n=some .local)
  (hex:X.ex=[]) (hst:X.stack=X.env :: X.outer) (hfr:X.env.frame=some X.env.locals) (hd:(cn == ("__debug__" : Str))=false:=by decide) :
  PS X (.Try body [.ExceptHandler (some (.Name cn cp)) (some n) (b0 :: suite) hp] [] [] pos) (tTry X.N.length X.K i C E tb ts):=by
 intro pins s σ H D I ⟨h1,h2⟩;refine wpAny_Try_except ?_;have B:=hb (fun e s'=>∃ pins' σ' H1 s1,Inv { X with pn:=X.pn++pins } pins' σ' H1 s1/\CXe X.prog X.w X.stack H1 s1 E e s') (X.pn++pins) (fun pins' σ' H1 s1 e s' I' c=>⟨pins',σ',H1,s1,I'.move (fun _ z=>z) rfl I'.ok.hd,c⟩)
  [] s σ H D (I.move (fun p hp=>by rw[hBi]at hp;exact hp) rfl I.ok.hd) h1
 have back:∀ {xe:Value->Shared->Prop} {pins':List (Addr×Obj)} {σ':St} {H':Hp} {s':Shared},Inv { X with xe:=xe,pn:=X.pn++pins } pins' σ' H' s'->Inv X pins σ' H' s':=fun J=>J.move (fun p hp=>hAn _ hp) rfl J.ok.hd
 refine wpAny_mono B (fun f s1 q=>?_) fun e s1 q=>?_
 ·cases f with
  | next=>obtain⟨σ',H',J,q⟩:=q;exact wpAny_execs_nil ⟨σ',H',back J,q⟩
  | brk=>obtain⟨σ',H',J,q⟩:=q;exact⟨σ',H',back J,q⟩
  | cont=>obtain⟨σ',H',J,q⟩:=q;exact⟨σ',H',back J,q⟩
  | ret u=>obtain⟨v,σ',H',J,r,q⟩:=q;exact⟨v,σ',H',back J,r,q⟩
 obtain⟨pins',σ',H1,s0,I1,ea,cls,H',rfl,os,bare,un,hok,⟨f1,f2,a0,oe,vs,T,oT,ts',t1,t2,t3,t4,t5,t6,t7,t8,t9,t10⟩,qE⟩:=q;have I0:Inv X pins σ' H1 s0:=back (xe:=X.xe) I1;have J:Inv X pins σ' H' s1:=I0.call' (ch:=[]) os un hok bare (fun b z=>by cases z);have ne:New X pins ea:=I0.new_of hex f1;have nT:New X pins T:=I0.new_of hex t6;have hn:∀ b∈[ea,T],New X pins b:=fun b hb=>by
  rcases hAa.mp hb with z | z
  ·rw[z];exact ne
  ·rw[hA7.mp z];exact nT
 have hH:∀ b∈[ea,T],H' b=none:=fun b hb=>by
  rcases hAa.mp hb with z | z
  ·rw[z];exact f2
  ·rw[hA7.mp z];exact t7
 have fl:Heap.FlyingW (PySem.W.hideAll s1.heap ([ea,T]++frs X.stack)) (X.env :: X.outer) ea cls a0 s1.heap:=by
  refine⟨fun b o z=>PySem.W.of_hideAll _ z,hCj _ (by simp),?_,oe,vs,T,oT,ts',t1,t2,t3,t4,hCj _ (by simp),t5,t8,t9,t10⟩;rw[<-hst];exact funs_hid J.stack fun a ha=>hCj _ (hA6 _ ha)
 refine wpAny_looks_onW (J.ok.frames.trans (by rw[hst])) hfr fl fun g1 hl1 up1=>?_
 refine wpAny_landsW hl1 fun g2 fl2 up2=>?_
 have J2:Inv X pins σ' H' { s1 with heap:=g2 }:=J.flown hn hH fl2.1 (up1.trans up2);obtain⟨hm1,hr1⟩:=h2 cls H' ea σ' qE f2 J.len;refine wpAny_handleBy_cons (codeAny_handlers_test ?_) (by intro q;cases q);refine ld_glob (X:={ X with A:=X.A.mark (some (.ref ea)),calm:=false,xe:=fun _ _=>False }) (J2.move (fun _ z=>z) rfl (fun z=>by cases z)) hg hm ?_ hd;obtain⟨ob,he,hcls⟩:=fl2.there;have LT:PySem.W.Looks (model X.prog X.w) g2 (typeOf (.ref ea)) cls:=by
  rw[<-hcls];exact(PySem.W.Looks.ld he).andThen .now
 refine(PySem.W.exm_one J2.kIn LT hm1).here ?_;refine codeAny_handlers_suite_as ?_;refine lands_againW fl2 fun g3 fl3 up3=>?_
 have J3:Inv X pins σ' H' { s1 with heap:=g3 }:=J.flown hn hH fl3.1 ((up1.trans up2).trans up3);have J4:=J3.adopt (cls:=cls) ne f2 fl3.there;refine qDt J4 nd hi (.inl hx) (v:=.ref ea) rfl (fun s5 J5=>?_) (.inr hx);refine wpAny_mono (hs (.ref ea) pins s5 _ _ _ (J5.move (fun _ z=>z) rfl (fun z=>by cases z)) hr1) (fun f s6 q=>?_) fun _ _ z=>z.elim
 have back2:∀ {σ':St} {H':Hp} {s':Shared},Inv { X with A:=X.A.mark (some (.ref ea)),calm:=false,xe:=fun _ _=>False } pins σ' H' s'->Inv X pins σ' H' s':=fun J=>J.move (fun _ z=>z) rfl I.ok.hd
 cases f with
 | next=>obtain⟨σ2,H2,K2,q⟩:=q;exact qDy (back2 K2) nd hi hx fun s' K3=>⟨_,_,K3,q⟩
 | brk=>obtain⟨σ2,H2,K2,q⟩:=q;exact qDy (back2 K2) nd hi hx fun s' K3=>⟨_,_,K3,q⟩
 | cont=>obtain⟨σ2,H2,K2,q⟩:=q;exact qDy (back2 K2) nd hi hx fun s' K3=>⟨_,_,K3,q⟩
 | ret u=>obtain⟨v,σ2,H2,K2,r,q⟩:=q;exact qDy (back2 K2) nd hi hx fun s' K3=>⟨v,_,_,K3,r,q⟩
end L2
namespace L2
open PySem PySem.Spec PyProof.Rows Builtin Builtin.ObjectAttr Builtin.Getset_descriptor
section
variable {prog:Program} {w:World} {A:Around} {E:Value->Shared->Prop} {s:Shared} {K:PySem.W.Frag} {x D:Addr}
structure XCls (K:PySem.W.Frag) (D:Addr):Prop where
 c:(PySem.W.clsIn K D).isSome=true
 ga:PySem.W.findIn K (.ref D) "__getattribute__" = some (some (.builtin "BaseException.__getattribute__"))
 gt:PySem.W.findIn K (.ref D) "__getattr__" = some none
 cl:PySem.W.findIn K (.ref D) "__class__" = some (some (.builtin "object.__class__"))
 sp:PySem.W.specialIn K (.builtin "object.__class__") "__get__" = some (some (.builtin "getset_descriptor.__get__"))
 tk:PySem.W.takesIn K (.builtin "object.__class__")=some true
 ob:PySem.W.mroIn K D (.type "object")=some true
 be:PySem.W.mroIn K D (.type "BaseException")=some true
theorem find_data (Z:XCls K D) (X:K.In h):PySem.W.Looks M h (find (.ref x) (.ref D) "__class__") (.bind (.builtin "getset_descriptor.__get__") (.builtin "object.__class__")):=by
 have L1:=PySem.W.looks_findIn (M:=M) X Z.cl;have L2:PySem.W.Looks M h (getOf (some (.builtin "object.__class__"))) (some (.builtin "getset_descriptor.__get__")):=PySem.W.looks_specialIn X Z.sp;have L3:=PySem.W.looks_takesIn (M:=M) X Z.tk;exact L1.andThen (L2.andThen ((show PySem.W.Looks M h (dataDescriptor? (some (.builtin "object.__class__")) (some (.builtin "getset_descriptor.__get__"))) (some (.builtin "getset_descriptor.__get__",.builtin "object.__class__")) from L3.andThen .now).andThen (PySem.W.Looks.tag .now)))
theorem x_get (Z:XCls K D) (X:K.In s.heap) (L0:PySem.W.Looks (model prog w) s.heap (typeOf (.ref x)) (.ref D)) (h:R (.ok (.ret (.ref D))) s) :
  codeAny (model prog w) A (.call (.builtin "getset_descriptor.__get__") ⟨[.builtin "object.__class__",.ref x,tp],[]⟩) R s:=by
 obtain⟨hh,g,dr,t,os⟩:=s;have L1:=PySem.W.looks_mroIn (M:=model prog w) X Z.ob;refine codeAny_call_builtin PySem.W.KF.slot_gs.plain PySem.W.KF.entry_gs (PySem.W.KF.slot_gs.check _ _ _ _ _ _ _ _ PySem.W.KF.type_class (PySem.W.KF.args_gs _ _ _) ?_);unfold Builtin.«getset_descriptor.__get__» descrGet;rw[PySem.W.dga_obj];refine wpAny_bind (wpAny_pure ?_);unfold descrGetter descrCheckInstance descrNameAndClass isInstance;simp only[PySem.W.KF.owner_class]
 repeat lk
 refine⟨Code.quiet_builtin _ (by decide +kernel),codeAny_builtin PySem.W.KF.entry_class ?_⟩;unfold Builtin.«object.__class__» shownTypeOf
 repeat lk
 exact h
theorem x_check (Z:XCls K D) (X:K.In s.heap) (L0:PySem.W.Looks M s.heap (typeOf (.ref x)) (.ref D)) (h:Q () s):wpAny M A (checkBuiltinCall "BaseException.__getattribute__" ⟨[.ref x,nameV],[]⟩) Q E s:=by
 obtain⟨hh,g,d,t,os⟩:=s;have hk:builtinKind "BaseException.__getattribute__" = some .slot:=by decide +kernel
 have hsplit:splitId "BaseException.__getattribute__" = some ("BaseException","__getattribute__"):=by decide +kernel
 have ha:=F.args_bexc_ga (.ref x) nameV;have L1:PySem.W.Looks M hh (isInstance (.ref x) (.type "BaseException")) true:=L0.andThen (PySem.W.looks_mroIn X Z.be);simp only[checkBuiltinCall,hk,hsplit];refine wpAny_bind (L1.at ?_)
 repeat (first | wp_step | assumption)
theorem x_entry (Z:XCls K D) (X:K.In s.heap) (L0:PySem.W.Looks (model prog w) s.heap (typeOf (.ref x)) (.ref D)) (h:Q (.done (.ret (.ref D))) s) :
  wpAny (model prog w) A (Builtin.«object.__getattribute__» ⟨[.ref x,.str "__class__" tk],[]⟩) Q E s:=by
 obtain⟨hh,g,d,t,os⟩:=s;have L3:=find_data (x:=x) (M:=model prog w) Z X;refine wpAny_bind (wpAny_pure (wpAny_bind (wpAny_pure (wpAny_bind (L0.at (wpAny_bind (L3.at ?_)))))));show wpAny _ _ (holding [Value.builtin "object.__class__"] (call (.builtin "getset_descriptor.__get__") [.builtin "object.__class__",.ref x,.ref D]) >>= ret) _ _ _;exact wpAny_bind (wpAny_holding (wpAny_call (x_get (s:=⟨hh,g,d,t,os⟩) Z X L0 (wpAny_pure h))))
theorem x_class (Z:XCls K D) (X:K.In s.heap) (L0:PySem.W.Looks (model prog w) s.heap (typeOf (.ref x)) (.ref D)) (h:Q (some (.ref D)) { s with toks:=s.toks+1 }) :
  wpAny (model prog w) A (getAttr? (.ref x) "__class__") Q E s:=by
 obtain⟨hh,g,d,t,os⟩:=s;have L1:=PySem.W.looks_findIn (M:=model prog w) X Z.ga;have L2:=PySem.W.looks_findIn (M:=model prog w) X Z.gt;have hx2:(Value.builtin "BaseException.__getattribute__" == Value.builtin "object.__getattribute__")=false:=by decide +kernel
 have hx1:(onTheHeap (Value.ref D) && Value.builtin "BaseException.__getattribute__" == Value.builtin "object.__getattribute__")=false:=by rw[hx2];rfl
 unfold getAttr? getAttrBy? getAttrBy;refine wpAny_bind (wpAny_mkText (wpAny_bind (wpAny_attempt (wpAny_holding (wpAny_bind (L0.at (wpAny_bind (L1.at ?_))))))));dsimp only;rw[hx1,if_neg hAo];unfold getAttrByItsOwn hookBefore callGetattribute boundAndCalled;rw[if_pos (show onTheHeap (Value.ref D)=true from rfl)];refine wpAny_bind (L2.at ?_);refine wpAny_bind (wpAny_attempt (wpAny_holding ?_));show wpAny _ _ (bindSpecial (.builtin "BaseException.__getattribute__") (.ref x) >>= _) _ _ _;refine wpAny_bind (wpAny_of_eq (F.excAttr_ValueError.ga.bind _) ?_);refine wpAny_call (codeAny_call_builtin F.excAttr_ValueError.ga.plain F.entry_bexc_ga (x_check (s:=⟨hh,g,d,t+1,os⟩) Z X L0 (x_entry (s:=⟨hh,g,d,t+1,os⟩) Z X L0 ?_)));exact PySem.W.handed_on rfl (wpAny_pure h)
theorem kitx_exc (Z:XCls K D):PySem.W.KitX K (.ref x) (.ref D) (fun h=>∃ o,h.get? x=some o/\o.cls = .ref D) where
 ty:=fun M h _ ⟨o,h1,h2⟩=>by rw[<-h2];exact(PySem.W.Looks.ld h1).andThen .now
 it:=fun _ _ X _=>by
  obtain⟨cd,hc⟩:=hCg.mp Z.c;unfold PySem.W.clsIn at hc;split at hc
  ·rename_i c' d' cd' sl' ho;intro A' Q' E' s' k q;unfold isType loadHead;exact wpAny_bind (wpAny_loadPart (k _ _ (X _ _ ho)) (wpAny_pure q))
  ·cases hc
 ne:=fun h tp dd its n sl X htp=>by
  obtain⟨cd,hc⟩:=hCg.mp Z.c;refine Bool.eq_false_iff.mpr fun q=>?_
  have e:D=tp:=Value.ref.inj (beq_iff_eq.mp q);subst e;unfold PySem.W.clsIn at hc;split at hc
  ·rename_i c' d' cd' sl' ho;have z:=(X _ _ ho).symm.trans htp;cases z
  ·cases hc
 ca:=fun {prog w A E Q s} X I k=>x_class Z X (by obtain⟨o,h1,h2⟩:=I;rw[<-h2];exact(PySem.W.Looks.ld h1).andThen .now) k
end
def qGi (K:PySem.W.Frag):List V->Hp->VK->Prop:=fun xs H Q=>∃ (a D:Addr) (y:V) (c:Value) (b:Bool),xs=[.ref a,y]/\H a=some (exO a (.ref D))/\XCls K D/\(∀ u,qBn y u->u=c)/\PySem.W.kitOne K (.ref D) c=some b/\Q (.bl b) H
theorem qA4:qA6 X (.builtin "isinstance") (qGi X.K):=by
 intro pins s σ H xs us Q I r h;obtain⟨a,D,y,c,b,rfl,ha,Z,hc,e,q⟩:=h;obtain⟨u,w',rfl,rx,rc⟩:=vals2 r;cases(show u=Value.ref a from rx);cases hc w' rc;have ok:qBg X.prog X.w H s.heap a (exO a (.ref D)):=I.hok a _ ha;exact hBr (kitx_exc Z) I.kIn ok.1 e (fun z=>nomatch z) fun tk=>⟨.bl b,H,I.tok tk,rfl,q⟩
end L2
namespace My
open PySem L2
abbrev vB:List Value:=[.type "ValueError",.type "Exception",.type "BaseException",.type "object"]
theorem _root_.L2.FnOk.or {P:Program} {w:World} {K:PySem.W.Frag} {mg:Str->Option Value} {base:Heap} {CX:CXT} {k:Nat} {f:Addr} {fd:FuncData} {ps:List Str} {sp sp':Sp} (F:FnOk P w K mg base CX k f fd ps sp) (G:FnOk P w K mg base CX k f fd ps sp'):FnOk P w K mg base CX k f fd ps (fun vs H Q E=>sp vs H Q E\/sp' vs H Q E) :=
 ⟨fun vs H Q E h=>h.elim (F.len vs H Q E) (G.len vs H Q E),fun A outer s H args us vs Q E hr he hb hv h=>h.elim (F.run A outer s H args us vs Q E hr he hb hv) (G.run A outer s H args us vs Q E hr he hb hv)⟩
def NoW (net:List Tr) (row:List Str):Prop:=¬(nmS (qDh net row)=row/\IsOne (qDh net row))
def spWalkX (C:Addr):Sp:=fun vs H Q E=>∃ (p rp:Addr) (net:List Tr) (row:List Str),vs=[.ref p,.ref rp]/\qA8 H p net/\LsS H rp row/\net.length<=12/\TxN net/\SOk row/\NoW net row/\∀ H',Ext H H'->E (.ref C) none H'
def rIsi (K:PySem.W.Frag):List V->Hp->VK->Prop:=fun xs H Q=>∃ x t c b,xs=[x,.ty c]/\TyOf K H x t/\PySem.W.kitOne K t (.type c)=some b/\Q (.bl b) H
theorem boot_VE:bootBuiltins "ValueError" = some (.type "ValueError"):=by decide +kernel
structure Refs (K:PySem.W.Frag) (mg:Str->Option Value) (C R:Addr):Prop where
 z:XCls K C
 re:mg "RoundError" = some (.ref R)
 xr:PySem.W.exmOne K (.ref C) (.ref R)=some true
 nn:mg "NoRound" = some (.ref C)
 ve:mg "ValueError" = none
 kv:PySem.W.kitOne K (.ref C) (.type "ValueError")=some true
 is:mg "isinstance" = none
 a1:∃ c,mg "NoMatch" = some (.ref c)/\PySem.W.kitOne K (.ref C) (.ref c)=some false
 a2:∃ c,mg "NoName" = some (.ref c)/\PySem.W.kitOne K (.ref C) (.ref c)=some false
 a3:∃ c,mg "NoNet" = some (.ref c)/\PySem.W.kitOne K (.ref C) (.ref c)=some false
 a4:∃ c,mg "NoStep" = some (.ref c)/\PySem.W.kitOne K (.ref C) (.ref c)=some false
 a5:∃ c,mg "NoText" = some (.ref c)/\PySem.W.kitOne K (.ref C) (.ref c)=some false
 a6:∃ c,mg "NoTie" = some (.ref c)/\PySem.W.kitOne K (.ref C) (.ref c)=some false
 a7:∃ c,mg "TooMany" = some (.ref c)/\PySem.W.kitOne K (.ref C) (.ref c)=some false
def spCanT:Sp:=fun vs H Q _=>∃ (p rp:Addr) (net:List Tr) (row:List Str),vs=[.ref p,.ref rp]/\qA8 H p net/\LsS H rp row/\net.length<=12/\qDo (nmS net)/\SOk row/\nmS (qDh net row)=row/\Min (qDh net row)/\∀ H',Ext H H'->Q (.bl true) H'
def spCanF:Sp:=fun vs H Q _=>∃ (p rp:Addr) (net:List Tr) (row:List Str),vs=[.ref p,.ref rp]/\qA8 H p net/\LsS H rp row/\net.length<=12/\TxN net/\SOk row/\NoW net row/\∀ H',Ext H H'->Q (.bl false) H'
theorem len5 {α:Type} {l:List α} (h:l.length=5):∃ a b c d e,l=[a,b,c,d,e]:=match l,h with | [a,b,c,d,e],_=>⟨a,b,c,d,e,rfl⟩
abbrev canN:List Str:=["_law_net_here","_law_row_here","_law_found","e","_law_kinds"]
theorem qDb:FnScope canN ["_law_net_here","_law_row_here"] (qAb sLCan):=⟨rfl,rfl,rfl,by decide +kernel,rfl,by decide +kernel,by decide +kernel⟩
section
variable {P:Program} {w:World} {K:PySem.W.Frag} {mg:Str->Option Value} {base:Heap} {f f1 f2 f3 C R:Addr} {fd fd1 fd2 fd3:FuncData} {newId inN:String} {bmN:List Value}
theorem isX_read {H:Hp} {ea c:Addr} {b:Bool} {Q:VK} (Z:XCls K C) (he:H ea=some (exO ea (.ref C))) (k:PySem.W.kitOne K (.ref C) (.ref c)=some b) (q:Q (.bl b) H):qGi K [.ref ea,.ref c] H Q :=
 ⟨ea,C,.ref c,.ref c,b,rfl,he,Z,fun u r=>r,k,q⟩
theorem ok_walkX (F:Fun K "walk" "walk" qFs f fd) (Fn:ExcBaseFacts "ValueError" newId inN bmN) (FB:ExcBaseFacts "ValueError" "ValueError.__new__" "ValueError.__init__" vB) (O:PyProof.Rows.OwnCls "NoRound" C vB newId mg base)
  (G1:Cl P w K mg base CX0 1 f1 fd1 ["net"] spTies "ties_of")
  (G2:Cl P w K mg base CX0 4 f2 fd2 ["net"] spOne "is_one_round"):FnOk P w K mg base (CXe P w) 5 f fd ["net","row"] (spWalkX C):=by
 refine F.okE qCm (fun vs H Q E h=>?_) (fun cdv A outer s H vs Q E hr hh h=>?_)
 ·obtain⟨p,rp,net,row,rfl,_⟩:=h;rfl
 obtain⟨p,rp,net,row,rfl,nt,hrow,hl,tx,okr,no,q⟩:=h;have hr1:=hr.mono (j:=1) (by decide);refine⟨_,pss_cons (ps_lc (i:=2) (N:=wkN) (sc:=qAb qFs) (N':=["tie","row"]) (sub:=[none,some 1]) rfl rfl (CmpOk.of (by decide +kernel)) rfl (qAv (pv 0)) (fun C s H fp=>⟨qAg (i:=0) (by show(["tie","row"]:List Str).Nodup;decide) rfl (Or.inl rfl),(qB8 (qAp (show OpR _ (compareOp .In) (rIn K false) from qCe) (pe_ix (show IxR _ (rIxT K) from qDe) (pv 0) qAd (fun _ _=>rfl)) (pv 1) (by with_unfolding_all rfl))),(pv 0)⟩) qCm.nd rfl (Or.inl rfl)) (pss_cons (qCq (PW.pt (qE6 (qAp (qF5 (qEv hr)) (qAy G1 hr1 rfl .nil qAz (qAa (pv 2) qAc)) (pv 1) (qAw _)) (qFz (qF1 (qF0 (qAy G2 hr rfl .nil qAz (qAa (pv 2) qAc))))))) (qAh (ps_raise hh Fn (by decide) FB O (qAa pe_str qAc) rfl (by decide))) qBl) pss_never),?_⟩;try dsimp only[Cx.wish,qB5]
 obtain⟨as0,hp0,_⟩:=id nt;refine⟨_,rfl,p,rfl,⟨_,SqL.of hp0⟩,?_⟩;refine qFl (fun t=>decide (t.1∈row)) nt hl (fun c t H2 _ e2 hc C B c1 b1=>⟨Sle.set _ (Sle.refl _) (fun u z=>by cases z),_,rfl,c,_,_,_,rfl,rfl,SqT.of hc,(by exact atI_nat (j:=0) rfl),_,rfl,rp,_,rfl,.inl (SqL.of (e2 _ _ hrow)),rfl,flat_strs _,_,rfl,?_⟩) ?_
 ·rw[if_neg (by decide),qEn];exact qDa (fun cc=>⟨_,rfl,c1 _ (Ext.refl _) cc⟩) (fun cc=>b1 _ (Ext.refl _) (by simpa using cc))
 intro as1 H1 e1 pr1 l1 hl1;have X1:=Ext.new hl1 (.lst (as1.map V.ref));have E1:=e1.trans X1;have n1:qA8 (upd H1 l1 (.lst (as1.map V.ref))) l1 (qDh net row):=⟨as1,upd_same,Paired.mapP pr1 fun a t z=>X1 _ _ z⟩;have lN:(qDh net row).length<=12:=hAs (hAt _ _) hl;refine⟨_,rfl,l1,_,rfl,n1,lN,fun r2 H2 e2 r20 h2=>?_⟩;have ok2:SOk ((qDh net row).map fun x=>x.1):=fun x hx=>by
  obtain⟨t,ht,rfl⟩:=hAb.mp hx;exact(tx t (hAf.mp ht).1).1.ok
 refine⟨_,rfl,_,_,qDf h2,qDf ((E1.trans e2) _ _ hrow),qBh ok2,qBh okr,_,rfl,?_⟩;rw[if_pos rfl,qDn];refine qDa (fun c=>?_) (fun c=>?_)
 ·exact iteT ⟨(by show 1<=sizeLine;decide),q _ (E1.trans e2)⟩
 ·have ce:nmS (qDh net row)=row:=by simpa using c
  refine⟨_,rfl,l1,_,rfl,n1.ext e2,lN,fun b H3 e3 hb=>?_⟩;have hb:b=false:=by
   cases b with
   | false=>rfl
   | true=>exact absurd ⟨ce,hb.mp rfl⟩ no
  subst hb;exact⟨false,rfl,iteT ⟨(by show 1<=sizeLine;decide),q _ (E1.trans (e2.trans e3))⟩⟩
theorem ok_lcanT (F:Fun K "_law_can" "_law_can" sLCan f fd) (Z:Refs K mg C R) (G:Cl P w K mg base CX0 5 f1 fd1 ["net","row"] spWalk "walk") (mL:mg "list" = none) (ml:mg "len" = none):FnOk P w K mg base CX0 6 f fd ["_law_net_here","_law_row_here"] spCanT:=by
 refine F.ok qDb (fun vs H Q E h=>?_) (fun cdv A outer s H vs Q E hr h=>?_)
 ·obtain⟨p,rp,net,row,rfl,_⟩:=h;rfl
 obtain⟨p,rp,net,row,rfl,nt,hrow,hl,rs,okr,sn,mi,q⟩:=h;obtain⟨c1,m1,k1⟩:=Z.a1;obtain⟨c2,m2,k2⟩:=Z.a2;obtain⟨c3,m3,k3⟩:=Z.a3;obtain⟨c4,m4,k4⟩:=Z.a4;obtain⟨c5,m5,k5⟩:=Z.a5;obtain⟨c6,m6,k6⟩:=Z.a6;obtain⟨c7,m7,k7⟩:=Z.a7;refine⟨_,pss_cons (ps_try (C:=R) (i:=3) (E:=fun _ _ _=>False) (fun xe pn hP=>(qAh (qAn (i:=2) qDb.nd rfl (Or.inl rfl) (qAy G hr rfl .nil qAz (qAa (pv 0) (qAa (pv 1) qAc)))))) rfl Z.re (fun ev=>(pss_cons (qAn (i:=4) qDb.nd rfl (Or.inl rfl) (qBk (qAa (qAj (show qA6 _ _ (qGi K) from qA4) rfl Z.is qAr (qAa (pv 3) (qAa (qBm (v:=.ref c1) rfl m1 rfl) qAc))) (qAa (qAj (show qA6 _ _ (qGi K) from qA4) rfl Z.is qAr (qAa (pv 3) (qAa (qBm (v:=.ref c2) rfl m2 rfl) qAc))) (qAa (qAj (show qA6 _ _ (qGi K) from qA4) rfl Z.is qAr (qAa (pv 3) (qAa (qBm (v:=.ref c3) rfl m3 rfl) qAc))) (qAa (qAj (show qA6 _ _ (qGi K) from qA4) rfl Z.is qAr (qAa (pv 3) (qAa (qBm (v:=.ref c4) rfl m4 rfl) qAc))) qAc)))))) (pss_cons (qAn (i:=4) qDb.nd rfl (Or.inl rfl) (qAk (show OpR _ _ _ from qDd) (pv 4) (qBk (qAa (qAj (show qA6 _ _ (qGi K) from qA4) rfl Z.is qAr (qAa (pv 3) (qAa (qBm (v:=.ref c5) rfl m5 rfl) qAc))) (qAa (qAj (show qA6 _ _ (qGi K) from qA4) rfl Z.is qAr (qAa (pv 3) (qAa (qBm (v:=.ref c6) rfl m6 rfl) qAc))) (qAa (qAj (show qA6 _ _ (qGi K) from qA4) rfl Z.is qAr (qAa (pv 3) (qAa (qBm (v:=.ref c7) rfl m7 rfl) qAc))) qAc)))))) (pss_cons (qCq (PW.pt (qE6 (qF1 (qF0 (qAj (show qA6 _ _ (qGi K) from qA4) rfl Z.is qAr (qAa (pv 3) (qAa (qBm (v:=.ref C) rfl Z.nn rfl) qAc))))) (qE6 (qF1 (qF0 (qAj (show qA6 _ _ (qGi K) from qA4) rfl Z.is qAr (qAa (pv 3) (qAa (pe_bltn (v:=.ty "ValueError") rfl Z.ve boot_VE rfl) qAc))))) (qFz (qAp (show OpR _ (compareOp .In) (rIn K false) from qCe) pe_bl (pv 4) (by with_unfolding_all rfl)))))) (qAh (qAu pe_non)) qBl) (qAh (qAu pe_bl)))))) qDb.nd rfl rfl rfl rfl rfl) (qAh (qAu (pe_and (qAj (show qA6 _ (.builtin "isinstance") (rIsi K) from call_isinst) rfl Z.is qAr (qAa (pv 2) (qAa (pe_bltn (v:=.ty "list") rfl mL qBj rfl) qAc))) (pe_one (qCr qCs (qAj qAq rfl ml hB9 (qAa (pv 2) qAc)) (qAj qAq rfl ml hB9 (qAa (pv 1) qAc)) (qAw _)))))),?_⟩;try dsimp only[Cx.wish,qB5]
 refine⟨?_,fun cls H' ea σ' hE _ _=>hE.elim⟩;refine⟨_,rfl,_,rfl,p,rp,net,row,rfl,nt,hrow,hl,rs,okr,sn,mi,fun r t0 r0 W H1 e1 r0' nW eN dn=>?_⟩;obtain⟨ws,hws,pw⟩:=id nW;have lw:ws.length=row.length:=by
  have rs1:qDo (nmS (qDh net row)):=rs.sublist (hB5.map _);have pm:(wn W).Perm (nmS (qDh net row)):=by
   have sub:∀ x∈wn W,x∈nmS (qDh net row):=fun x hx=>by
    obtain⟨w',hw,rfl⟩:=hAb.mp hx;obtain⟨t,ht,e,_⟩:=qGc dn.c w' hw;exact hAb.mpr ⟨t,ht,e⟩
   exact(hCb dn.nd (qDc rs1)).mpr fun x=>⟨sub x,fun hx=>by obtain⟨t,ht,rfl⟩:=hAb.mp hx;exact dn.all t ht⟩
  have:=pm.length_eq;rw[sn,hA1]at this;rw[pw.length,this]
 refine⟨_,rfl,_,_,_,true,rfl,.lst hws,kit_same _ _,true,rfl,iteT (B:=_) ?_⟩;refine⟨_,rfl,r,_,rfl,.inl (SqL.of hws),_,rfl,rp,_,rfl,.inl (SqL.of (e1 _ _ hrow)),rfl,?_⟩;rw[hA1,hA1,lw,decide_eq_true rfl];exact q _ e1
theorem ok_lcanF (F:Fun K "_law_can" "_law_can" sLCan f fd) (Z:Refs K mg C R) (G:Cl P w K mg base (CXe P w) 5 f1 fd1 ["net","row"] (spWalkX C) "walk"):FnOk P w K mg base CX0 6 f fd ["_law_net_here","_law_row_here"] spCanF:=by
 refine F.ok qDb (fun vs H Q E h=>?_) (fun cdv A outer s H vs Q E hr h=>?_)
 ·obtain⟨p,rp,net,row,rfl,_⟩:=h;rfl
 obtain⟨p,rp,net,row,rfl,nt,hrow,hl,tx,okr,no,q⟩:=h;obtain⟨c1,m1,k1⟩:=Z.a1;obtain⟨c2,m2,k2⟩:=Z.a2;obtain⟨c3,m3,k3⟩:=Z.a3;obtain⟨c4,m4,k4⟩:=Z.a4;obtain⟨c5,m5,k5⟩:=Z.a5;obtain⟨c6,m6,k6⟩:=Z.a6;obtain⟨c7,m7,k7⟩:=Z.a7;refine⟨_,pss_cons (ps_try (C:=R) (i:=3) (E:=fun cls _ H'=>cls = .ref C/\Ext H H') (fun xe pn hP=>(qAh (qAn (i:=2) qDb.nd rfl (Or.inl rfl) (qAy G hr rfl .nil hP (qAa (pv 0) (qAa (pv 1) qAc)))))) rfl Z.re (fun ev=>(pss_cons (qAn (i:=4) qDb.nd rfl (Or.inl rfl) (qBk (qAa (qAj (show qA6 _ _ (qGi K) from qA4) rfl Z.is qAr (qAa (pv 3) (qAa (qBm (v:=.ref c1) rfl m1 rfl) qAc))) (qAa (qAj (show qA6 _ _ (qGi K) from qA4) rfl Z.is qAr (qAa (pv 3) (qAa (qBm (v:=.ref c2) rfl m2 rfl) qAc))) (qAa (qAj (show qA6 _ _ (qGi K) from qA4) rfl Z.is qAr (qAa (pv 3) (qAa (qBm (v:=.ref c3) rfl m3 rfl) qAc))) (qAa (qAj (show qA6 _ _ (qGi K) from qA4) rfl Z.is qAr (qAa (pv 3) (qAa (qBm (v:=.ref c4) rfl m4 rfl) qAc))) qAc)))))) (pss_cons (qAn (i:=4) qDb.nd rfl (Or.inl rfl) (qAk (show OpR _ _ _ from qDd) (pv 4) (qBk (qAa (qAj (show qA6 _ _ (qGi K) from qA4) rfl Z.is qAr (qAa (pv 3) (qAa (qBm (v:=.ref c5) rfl m5 rfl) qAc))) (qAa (qAj (show qA6 _ _ (qGi K) from qA4) rfl Z.is qAr (qAa (pv 3) (qAa (qBm (v:=.ref c6) rfl m6 rfl) qAc))) (qAa (qAj (show qA6 _ _ (qGi K) from qA4) rfl Z.is qAr (qAa (pv 3) (qAa (qBm (v:=.ref c7) rfl m7 rfl) qAc))) qAc)))))) (pss_cons (qCq (PW.pt (qE6 (qF1 (qF0 (qAj (show qA6 _ _ (qGi K) from qA4) rfl Z.is qAr (qAa (pv 3) (qAa (qBm (v:=.ref C) rfl Z.nn rfl) qAc))))) (qE6 (qF1 (qF0 (qAj (show qA6 _ _ (qGi K) from qA4) rfl Z.is qAr (qAa (pv 3) (qAa (pe_bltn (v:=.ty "ValueError") rfl Z.ve boot_VE rfl) qAc))))) (qFz (qAp (show OpR _ (compareOp .In) (rIn K false) from qCe) pe_bl (pv 4) (by with_unfolding_all rfl)))))) (qAh (qAu pe_non)) qBl) (qAh (qAu pe_bl)))))) qDb.nd rfl rfl rfl rfl rfl) pss_never,?_⟩;try dsimp only[Cx.wish,qB5]
 refine⟨?_,fun cls H' ea σ' hE he hl=>?_⟩
 ·exact⟨_,rfl,_,rfl,p,rp,net,row,rfl,nt,hrow,hl,tx,okr,no,fun H' e=>⟨rfl,e⟩⟩
 ·obtain⟨rfl,e1⟩:=hE;refine⟨Z.xr,?_⟩;obtain⟨x0,x1,x2,x3,x4,rfl⟩:=len5 hl;have hx:upd H' ea (exO ea (.ref C)) ea=some (exO ea (.ref C)):=upd_same;have E1:Ext H (upd H' ea (exO ea (.ref C))):=e1.trans (Ext.new he _);revert hx E1;generalize upd H' ea (exO ea (.ref C))=H1;intro hx E1;have hd:∀ {c:Addr} {Q:VK} {H:Hp} {σ:L2.St} (he:H ea=some (exO ea (.ref C))) (hσ:σ[3]?=some (some (.ref ea))) (k:PySem.W.kitOne K (.ref C) (.ref c)=some false) (q:Q (.bl false) H),tCB (qGi K) (qE2 (tVar 3) (qE2 (tC (V.ref c)) tNil)) σ H Q:=fun he hσ k q=>⟨_,hσ,isX_read Z.z he k q⟩
  refine hd hx rfl k1 (hd hx rfl k2 (hd hx rfl k3 (hd hx rfl k4 ⟨(by show 4<=sizeLine;decide),fun l1 hl1=>?_⟩)));have n1:=Ext.new hl1 (.lst [V.bl false,V.bl false,V.bl false,V.bl false]);have hx1:=n1 _ _ hx;refine⟨_,rfl,hd hx1 rfl k5 (hd hx1 rfl k6 (hd hx1 rfl k7 ⟨(by show 3<=sizeLine;decide),fun l2 hl2=>?_⟩))⟩;have n2:=n1.trans (Ext.new hl2 (.lst [V.bl false,V.bl false,V.bl false]));refine⟨l1,l2,_,_,rfl,rfl,(Ext.new hl2 _) _ _ upd_same,upd_same,(by show 7<=sizeLine;decide),fun l3 hl3=>?_⟩;have n3:=n2.trans (Ext.new hl3 (.lst ([V.bl false,V.bl false,V.bl false,V.bl false]++[V.bl false,V.bl false,V.bl false])));have hx3:=n3 _ _ hx;refine⟨_,rfl,⟨ea,C,.ref C,.ref C,true,rfl,hx3,Z.z,fun u r=>r,(by unfold PySem.W.kitOne;rw[if_pos (beq_iff_eq.mpr rfl)]),true,rfl,iteF ?_⟩⟩;refine⟨_,rfl,⟨ea,C,.ty "ValueError",.type "ValueError",true,rfl,hx3,Z.z,fun u r=>r,Z.kv,true,rfl,iteF ?_⟩⟩;refine⟨_,rfl,l3,_,rfl,.inl (SqL.of upd_same),rfl,rfl,_,rfl,?_⟩;refine iteF ?_;exact q _ (E1.trans n3)
end
end My
namespace My
open PySem L2
theorem isOne_min {N:List Tr} (rs:qDo (nmS N)) (h:IsOne N):Min N:=by
 obtain⟨h1,h2⟩:=h;have nd:=qDc rs;have ne:N≠[]:=fun e=>by rw[e,qCy]at h1;cases h1
 have ev:∀ x,evP N (fun _=>true) x=false:=fun x=>by
  by_cases c:isPt N x
  ·rw[ev_par,<-star_len,h2 x c];rfl
  ·refine qD3 fun t ht _=>?_
   unfold atX;rw[decide_eq_false fun e=>c ⟨t,ht,.inl e.symm⟩,decide_eq_false fun e=>c ⟨t,ht,.inr e.symm⟩];rfl
 refine⟨ne,ev,fun r hr ⟨t,ht,rt⟩ u hu=>?_⟩;obtain⟨k1,k2⟩:=qD6 (lbF N) N;have lb:∀ v∈N,∀ v'∈N,homF N v.2.1=homF N v'.2.1:=fun v hv v' hv'=>by
  have m1:=(k2 (lbF N v)).mpr ⟨v,hv,rfl⟩;have m2:=(k2 (lbF N v')).mpr ⟨v',hv',rfl⟩;have l1:((PCK (lbF N) N).map (·.1)).length=1:=by rw[hA1];exact h1
  obtain⟨y,ey⟩:=List.length_eq_one_iff.mp l1;rw[ey]at m1 m2;exact(hA7.mp m1).trans (hA7.mp m2).symm
 have at':∀ x,(∃ v∈N,(v.2.1=x\/v.2.2=x)/\r v.1=true)->∀ v∈N,(v.2.1=x\/v.2.2=x)->r v.1=true:=fun x ⟨v,hv,hx,rv⟩ v' hv' hx'=>by
  have e2:=ev_par r x N;rw[hr x]at e2;have e2:=of_decide_eq_false e2.symm;have tot:=h2 x ⟨v,hv,hx.elim (fun e=>.inl e.symm) fun e=>.inr e.symm⟩;rw[star_len]at tot;have key:∀ l:List Tr,sR l (fun _=>true) x=sR l r x+(l.map fun t=>if r t.1=true then 0 else enF t x).sum:=fun l=>by
   induction l with
   | nil=>rfl
   | cons a l ih =>
    unfold sR at ih ⊢;rw[hAm,hD4,hAm,hD4,hAm,hD4,ih];cases r a.1 <;> simp <;> omega
  have k:=key N;have ge:∀ (g:Tr->Nat) (l:List Tr),∀ v∈l,g v<=(l.map g).sum:=fun g l=>by
   induction l with
   | nil=>intro v hv;cases hv
   | cons a l ih =>
    intro v hv;rw[hAm,hD4];rcases hAa.mp hv with e | e
    ·rw[e];omega
    ·have:=ih v e;omega
  have p1:∀ v:Tr,(v.2.1=x\/v.2.2=x)->1<=enF v x:=fun v hx=>by
   unfold enF;rcases hx with e | e
   ·rw[if_pos e];omega
   ·rw[if_pos e];omega
  have g1:=ge (fun t=>if r t.1=true then enF t x else 0) N v hv;try dsimp only at g1
  rw[if_pos rv]at g1;have:=p1 v hx;have sr:sR N r x=(N.map fun t=>if r t.1=true then enF t x else 0).sum:=rfl;have z:(N.map fun t=>if r t.1=true then 0 else enF t x).sum=0:=by omega
  cases c:r v'.1 with
  | true=>rfl
  | false =>
   have g2:=ge (fun t=>if r t.1=true then 0 else enF t x) N v' hv';try dsimp only at g2
   rw[c,if_neg (by decide)]at g2;have:=p1 v' hx';omega
 have cl:=closed_lab N (fun x=>∀ v∈N,(v.2.1=x\/v.2.2=x)->r v.1=true) (fun w hw=>⟨fun hS=>at' _ ⟨w,hw,.inr rfl,hS w hw (.inl rfl)⟩,fun hS=>at' _ ⟨w,hw,.inl rfl,hS w hw (.inr rfl)⟩⟩) t.2.1 u.2.1 (lb t ht u hu);exact cl.mp (at' _ ⟨t,ht,.inl rfl,rt⟩) u hu (.inl rfl)
theorem row_of_min {net:List Tr} {ps:List Str} {S M:List Nat} (tb:Tb net ps S M) {row:List Str} (hs:row.Sublist (nmS net)) (mi:Min (qDh net row)):∃ z,row=rowM (nmS net) z/\Lst M z:=by
 have nd:=qDc tb.rs;have ck:∀ t∈net,chi (nmS net) (qA3 (nmS net) row) t.1=decide (t.1∈row):=fun t ht=>qC9 nd _ (hAb.mpr ⟨t,ht,rfl⟩)
 have er:row=rowM (nmS net) (qA3 (nmS net) row):=qFc nd hs (qDv _ _) fun x=>by
  constructor
  ·intro hx;have:=qC9 nd row (hs.subset hx);rw[decide_eq_true hx]at this;exact of_decide_eq_true this
  ·intro hx;have:=qC9 nd row (qFe hx);rw[show chi (nmS net) (qA3 (nmS net) row) x=true from decide_eq_true hx]at this;exact of_decide_eq_true this.symm
 have zl:qA3 (nmS net) row<2^net.length:=by have:=qC5 (nmS net) row;rw[hA1]at this;exact this
 have cy:Cyc net (qA3 (nmS net) row):=⟨zl,fun x=>by
  rw[<-mi.ev x,sub_ev];exact qBu x fun t ht=>by rw[ck t ht,hCl]⟩
 refine⟨_,er,(tb.spn _).mpr cy,fun e0=>?_,fun o ho nz hi=>?_⟩
 ·obtain⟨t,r,et⟩:∃ t r,qDh net row=t :: r:=by cases e:qDh net row with | nil=>exact absurd e mi.ne | cons t r=>exact⟨t,r,rfl⟩
  have tm:t∈qDh net row:=by rw[et];exact hA3
  obtain⟨t1,t2⟩:=hAf.mp tm;have:=ck t t1;rw[e0,t2,show chi (nmS net) 0 t.1=false by show decide _=_;rw[row_zero];rfl]at this;cases this
 ·obtain⟨ol,oe⟩:=(tb.spn o).mp ho;have ol':o<2^(nmS net).length:=by rw[hA1];exact ol
  have oin:∀ n∈nmS net,chi (nmS net) o n=true->n∈row:=fun n hn hc=>by
   obtain⟨i,hi2,e⟩:=List.getElem_of_mem hn;have e':(nmS net)[i]?=some n:=by rw[hA2 hi2,e]
   rw[qGd nd e']at hc;have:=hi _ hc;rw[<-qGd nd e',qC9 nd _ hn]at this;exact of_decide_eq_true this
  obtain⟨n,hn,hc⟩:=chi_ne nd ol' nz;obtain⟨t,ht,rfl⟩:=hAb.mp hn;have all:=mi.mn (chi (nmS net) o) (fun x=>by
   rw[sub_ev,<-oe x];refine qBu x fun u hu=>?_
   cases e:chi (nmS net) o u.1
   ·rfl
   ·rw[hCl,decide_eq_true (oin u.1 (hAb.mpr ⟨u,hu,rfl⟩) e)]) ⟨t,hAf.mpr ⟨ht,decide_eq_true (oin _ hn hc)⟩,hc⟩
  rw[<-qCu nd ol'];refine mask_ext fun n hn=>?_
  constructor
  ·intro h;exact oin n hn (decide_eq_true h)
  ·intro h;obtain⟨u,hu,rfl⟩:=hAb.mp hn;exact of_decide_eq_true (all u (hAf.mpr ⟨hu,decide_eq_true h⟩))
theorem rise_sub {a b:List Str} (ha:qDo a) (hb:qDo b) (h:∀ x∈a,x∈b):a.Sublist b:=by
 have e:a=b.filter fun x=>decide (x∈a):=rise_ext ha (hb.sublist hB5) fun x=>by
  rw[hAf,decide_eq_true_iff];exact⟨fun hx=>⟨h x hx,hx⟩,fun hx=>hx.2⟩
 rw[e];exact hB5
structure RowsR (names:List Str) (F:List (List Str)):Prop where
 ne:∀ r∈F,r≠[]
 rs:∀ r∈F,qDo r
 sub:∀ r∈F,∀ x∈r,x∈names
 l:F.length<=4096
theorem RowsR.len {names:List Str} {F:List (List Str)} (h:RowsR names F) (rn:qDo names) (ln:names.length<=12) {r:List Str} (hr:r∈F):r.length<=12:=hAs (rise_sub (h.rs r hr) rn (h.sub r hr)).length_le ln
def spBent:Sp:=fun vs H Q _=>∃ (pn pr:Addr) (names:List Str) (F:List (List Str)) (b:Int),vs=[.ref pn,.ref pr,.int b]/\LsS H pn names/\qCx H pr F/\names.length<=12/\qDo names/\SOk names/\RowsR names F /\
 ∀ (r:Addr) (row:List Str) (H':Hp),Ext H H'->LsS H' r row->qDo row->(∀ x∈row,x∈names)->Q (.ref r) H'
def spStra:Sp:=fun vs H Q _=>∃ (np pn pr:Addr) (net:List Tr) (F:List (List Str)) (b:Int),vs=[.ref np,.ref pn,.ref pr,.int b]/\qA8 H np net/\LsS H pn (nmS net)/\qCx H pr F/\net.length<=12/\TxN net/\qDo (nmS net)/\RowsR (nmS net) F /\
 ∀ (r:Addr) (row:List Str) (H':Hp),Ext H H'->LsS H' r row->SOk row->row.length<=13->(∃ x∈row,x∉nmS net)->Q (.ref r) H'
theorem cut_to (xs:List V) (p:Nat):cutV xs none (some (p:Int))=xs.take p:=by
 unfold cutV;rw[HT.sIx_nat,HT.sIx_none,List.drop_zero,Nat.sub_zero];rcases Nat.le_total p xs.length with h | h
 ·rw[Nat.min_eq_left h]
 ·rw[Nat.min_eq_right h,hA8 (hA5 _),hA8 h]
theorem cut_from (xs:List V) (p:Nat):cutV xs (some (p:Int)) none=xs.drop p:=by
 unfold cutV;rw[HT.sIx_nat,HT.sIx_none];rcases Nat.le_total p xs.length with h | h
 ·rw[Nat.min_eq_left h,hA8 (by rw[hC1];exact hA5 _)]
 ·rw[Nat.min_eq_right h,List.drop_of_length_le (hA5 _),List.drop_of_length_le h,List.take_nil]
theorem sub_len:∀ {a b:List Str},a.Nodup->(∀ x∈a,x∈b)->a.length<=b.length
 | [],_,_,_=>hAq _
 | x :: a,b,nd,h=>by
  obtain⟨n1,n2⟩:=hAx.mp nd;have hx:=h x hA3;have ih:=sub_len (a:=a) (b:=b.erase x) n2 fun y hy=>(List.mem_erase_of_ne (fun e:y=x=>n1 (by rw[<-e];exact hy))).mpr (h y (hA4 _ hy))
  rw[List.length_erase_of_mem hx]at ih;have:=hCt hx;rw[hB1];omega
theorem qEy (F:List (List Str)):PyData.eqv (rowsD F) (.list [])=decide (F=[]):=eqv_rows F []
theorem qEw {b m:Int} (hm:0<m):∃ k:Nat,b % m=(k:Int)/\(k:Int)<m:=⟨(b % m).toNat,by have:=hBv b (show m≠0 by omega);omega,by have h1:=hBv b (show m≠0 by omega);have h2:=hBf b hm;omega⟩
theorem qDw {names:List Str} (rn:qDo names) (x:Nat):qDo (rowL names x)/\∀ n∈rowL names x,n∈names:=by
 rw[<-rowL_rv];exact⟨rn.sublist (qDv _ _),fun n hn=>qFe hn⟩
section
variable {P:Program} {w:World} {K:PySem.W.Frag} {mg:Str->Option Value} {base:Heap} {f f1 f2 f3 f4 f5 f6 f7 Pt:Addr} {fd fd1 fd2 fd3 fd4 fd5 fd6 fd7:FuncData}
abbrev beN:List Str:=["_law_names_here","_law_rows","_law_big_here","_law_row_here","_law_spot"]
theorem scLBent:FnScope beN ["_law_names_here","_law_rows","_law_big_here"] (qAb qGs):=⟨rfl,rfl,rfl,by decide +kernel,rfl,by decide +kernel,by decide +kernel⟩
theorem ok_bent (F:Fun K "_law_bent" "_law_bent" qGs f fd)
  (G1:Cl P w K mg base CX0 1 f1 fd1 ["_law_names_here","_law_number"] spLRow "_law_row")
  (ml:mg "len" = none) (mso:mg "sorted" = none) (mst:mg "set" = none):FnOk P w K mg base CX0 2 f fd ["_law_names_here","_law_rows","_law_big_here"] spBent:=by
 refine F.ok scLBent (fun vs H Q E h=>?_) (fun cdv A outer s H vs Q E hr h=>?_)
 ·obtain⟨pn,pr,names,F,b,rfl,_⟩:=h;rfl
 obtain⟨pn,pr,names,F,b,rfl,hn,hF,ln,rn,okn,rr,q⟩:=h;refine⟨_,pss_cons (qCq (PW.pt (qE6 (qAp (op_eqD (qEv hr)) (pv 1) (qBk qAc) (qAw _)) (qFz (qAp qCs (qAk qBe (pv 2) qAd) qAd (qAw _))))) (qAh (qAu (qAy G1 hr rfl .nil qAz (qAa (pv 0) (qAa (qAk qBe (qAk qBd (pv 2) qAd) (qAk op_shl qAd (qAj qAq rfl ml hB9 (qAa (pv 0) qAc)))) qAc))))) qBl) (pss_cons (qAn (i:=3) scLBent.nd rfl (Or.inl rfl) (pe_ix ix_list (pv 1) (qAk qBe (qAk qBd (pv 2) qAd) (qAj qAq rfl ml hB9 (qAa (pv 1) qAc))) (fun _ _=>rfl))) (pss_cons (qCq (qAp qCs (qAk qBe (pv 2) qAd) qAd (qAw _)) (pss_cons (qAn (i:=4) scLBent.nd rfl (Or.inl rfl) (qAk qBe (qAk qBd (pv 2) qAd) (qAj qAq rfl ml hB9 (qAa (pv 3) qAc)))) (qAh (qAu (qAk qDd (qC2 sl_list (pv 3) qEi (qEh (pv 4))) (qC2 sl_list (pv 3) (qEh (qAk qBw (pv 4) qAd)) qEi))))) qBl) (pss_cons (qCq (qAp qCs (qAk qBe (pv 2) qAd) qAd (qAw _)) (qAh (qAu (qAj (qB9 rfl) rfl mso qA9 (qAa (qBb (call_setS rfl) rfl mst boot_set' (qAa (qAk qDd (pv 3) (qBk (qAa (pe_ix ix_list (pv 0) (qAk qBe (qAk qBd (pv 2) qAd) (qAj qAq rfl ml hB9 (qAa (pv 0) qAc))) (fun _ _=>rfl)) qAc))) qAc)) qAc)))) qBl) (qAh (qAu (qAj (qB9 rfl) rfl mso qA9 (qAa (qBb (call_setS rfl) rfl mst boot_set' (qAa (qAk qDd (pv 3) (pe_ix ix_list (pv 1) (qAk qBe (qAk qBd (pv 2) qAd) (qAj qAq rfl ml hB9 (qAa (pv 1) qAc))) (fun _ _=>rfl))) qAc)) qAc))))))),?_⟩;try dsimp only[Cx.wish,qB5]
 have okF:∀ r∈F,SOk r:=fun r hr x hx=>okn x (rr.sub r hr x hx)
 obtain⟨as,hpr,pa⟩:=id hF;have la:as.length=F.length:=pa.length;refine⟨_,rfl,hAq _,fun l0 hl0=>?_⟩;have X0:=Ext.new hl0 (.lst []);have h00:upd H l0 (.lst []) l0=some (.lst []):=upd_same;refine⟨_,_,dr_rows (hF.ext X0),dr_nil h00,qDi okF,qGr,_,rfl,?_⟩;rw[if_neg (by decide),qEy];revert X0 h00;generalize upd H l0 (.lst [])=H0;intro X0 h00;refine qDa (fun c=>iteT ?_) (fun c=>?_)
 ·
  refine⟨_,rfl,_,rfl,_,_,rfl,rfl,⟨by decide,by decide⟩,_,rfl,pn,_,rfl,.inl (SqL.of (X0 _ _ hn)),_,_,rfl,rfl,⟨by omega,by rw[hA1];omega,by decide⟩,?_⟩;dsimp only;rw[hA1,shl_nat];have pos:(0:Int)<((2^names.length:Nat):Int):=by have:=Nat.two_pow_pos names.length;omega
  obtain⟨k,hk,_⟩:=qEw (b:=b / 4) pos;refine⟨_,_,rfl,rfl,pos,pn,names,k,?_,X0 _ _ hn,ln,fun r H' e r0 h=>?_⟩
  ·show [V.ref pn,V.int (b / 4 % ((2^names.length:Nat):Int))]=_;rw[hk]
  ·exact q r _ H' (X0.trans e) h (qDw rn k).1 (qDw rn k).2
 refine⟨_,rfl,_,_,rfl,rfl,(by show(0:Int)<4;decide),rfl,_,rfl,?_⟩;refine qDa (fun c2=>?_) (fun c2=>?_)
 ·
  refine⟨_,rfl,_,rfl,_,_,rfl,rfl,⟨by decide,by decide⟩,_,rfl,pn,_,rfl,.inl (SqL.of (X0 _ _ hn)),_,_,rfl,rfl,⟨by omega,by rw[hA1];omega,by decide⟩,?_⟩;dsimp only;rw[hA1,shl_nat];have pos:(0:Int)<((2^names.length:Nat):Int):=by have:=Nat.two_pow_pos names.length;omega
  obtain⟨k,hk,_⟩:=qEw (b:=b / 4) pos;refine⟨_,_,rfl,rfl,pos,pn,names,k,?_,X0 _ _ hn,ln,fun r H' e r0 h=>?_⟩
  ·show [V.ref pn,V.int (b / 4 % ((2^names.length:Nat):Int))]=_;rw[hk]
  ·exact q r _ H' (X0.trans e) h (qDw rn k).1 (qDw rn k).2
 have Fne:F≠[]:=fun e=>c (decide_eq_true e)
 have pF:(0:Int)<(((as.map V.ref).length:Nat):Int):=by
  rw[hA1,la];have:=hCr.mpr Fne;omega
 obtain⟨k,hk,hk2⟩:=qEw (b:=b / 4) pF;rw[hA1,la]at hk2;have hk3:k<F.length:=by omega
 have hrow:=hA2 hk3;obtain⟨c0,hc0⟩:∃ c,as[k]?=some c:=⟨_,hA2 (by omega)⟩;obtain⟨row,hrow,hcr⟩:=qBc pa hc0;have rm:=hAu hrow;have lrow:=rr.len rn ln rm;refine⟨_,rfl,_,rfl,_,_,rfl,rfl,⟨by decide,by decide⟩,_,rfl,pr,_,rfl,.inl (SqL.of (X0 _ _ hpr)),_,_,rfl,rfl,pF,?_⟩;dsimp only;rw[hk];refine⟨pr,_,_,_,rfl,rfl,SqL.of (X0 _ _ hpr),atI_nat (by rw[hAh,hc0];rfl),?_⟩;have hcr0:=X0 _ _ hcr;refine⟨_,rfl,_,_,rfl,rfl,(by show(0:Int)<4;decide),rfl,_,rfl,?_⟩;refine qDa (fun c3=>?_) (fun c3=>?_)
 ·have pr':(0:Int)<(((row.map V.str).length:Nat):Int):=by
   rw[hA1];have:=hCr.mpr (rr.ne row rm);omega
  obtain⟨j,hj,hj2⟩:=qEw (b:=b / 1024) pr';rw[hA1]at hj2;refine⟨_,rfl,_,_,rfl,rfl,⟨by decide,by decide⟩,_,rfl,c0,_,rfl,.inl (SqL.of hcr0),_,_,rfl,rfl,pr',?_⟩;dsimp only;rw[hj];refine⟨_,rfl,_,rfl,j,rfl,c0,_,rfl,SqL.of hcr0,fun l1 hl1=>?_⟩;have X1:=Ext.new hl1 (.lst (cutV (row.map V.str) none (some (j:Int))));refine⟨_,rfl,_,rfl,_,_,rfl,rfl,_,rfl,c0,_,rfl,SqL.of (X1 _ _ hcr0),fun l2 hl2=>?_⟩;have X2:=Ext.new hl2 (.lst (cutV (row.map V.str) (some ((j:Int)+1)) none));have e1:cutV (row.map V.str) none (some (j:Int))=(row.take j).map V.str:=by
   rw[cut_to,List.map_take]
  have e2:cutV (row.map V.str) (some ((j:Int)+1)) none=(row.drop (j+1)).map V.str:=by
   rw[show(j:Int)+1=((j+1:Nat):Int) by omega,cut_from,List.map_drop]
  refine⟨l1,l2,_,_,rfl,rfl,X2 _ _ upd_same,upd_same,?_,fun l3 hl3=>?_⟩
  ·have h1:=qCj (row.map V.str) none (some (j:Int));have h2:=qCj (row.map V.str) (some ((j:Int)+1)) none;rw[hA1]at h1 h2;exact hB3 (qAi (by omega))
  have X3:=Ext.new hl3 (.lst (cutV (row.map V.str) none (some (j:Int))++cutV (row.map V.str) (some ((j:Int)+1)) none));have sub:(row.take j++row.drop (j+1)).Sublist row:=by
   conv=>rhs;rw[<-hDh j row]
   exact(List.Sublist.refl _).append (by rw[<-List.drop_drop];exact List.drop_sublist _ _)
  refine q l3 (row.take j++row.drop (j+1)) _ (X0.trans (X1.trans (X2.trans X3))) ?_ ((rr.rs row rm).sublist sub) fun x hx=>rr.sub row rm x (sub.subset hx)
  unfold LsS;rw[upd_same,e1,e2,hA9]
 refine⟨_,rfl,_,_,rfl,rfl,(by show(0:Int)<4;decide),rfl,_,rfl,?_⟩;refine qDa (fun c4=>?_) (fun c4=>?_)
 ·obtain⟨n0,hn0⟩:∃ x,x∈row:=by cases e:row with | nil=>exact absurd e (rr.ne row rm) | cons x r=>exact⟨x,hA3⟩
  have pN:(0:Int)<(((names.map V.str).length:Nat):Int):=by
   rw[hA1];have:=hCt (rr.sub row rm n0 hn0);omega
  obtain⟨j,hj,hj2⟩:=qEw (b:=b / 1024) pN;rw[hA1]at hj2;have hjl:j<names.length:=by omega
  have hnj:=hA2 hjl;refine⟨_,rfl,_,rfl,_,rfl,_,_,rfl,rfl,⟨by decide,by decide⟩,_,rfl,pn,_,rfl,.inl (SqL.of (X0 _ _ hn)),_,_,rfl,rfl,pN,?_⟩;dsimp only;rw[hj];refine⟨pn,_,_,_,rfl,rfl,SqL.of (X0 _ _ hn),atI_nat (by rw[hAh,hnj];rfl),(by show 1<=sizeLine;decide),fun l1 hl1=>?_⟩;have X1:=Ext.new hl1 (.lst [V.str names[j]]);refine⟨c0,l1,_,_,rfl,rfl,X1 _ _ hcr0,upd_same,(by rw[hA1];exact hB3 (qAi (by show _+1<=1000;omega))),fun l2 hl2=>?_⟩;have X2:=Ext.new hl2 (.lst (row.map V.str++[V.str names[j]]));have h2:LsS (upd (upd H0 l1 (.lst [V.str names[j]])) l2 (.lst (row.map V.str++[V.str names[j]]))) l2 (row++[names[j]]):=by
   unfold LsS;rw[upd_same,hA9];rfl
  refine⟨l2,row++[names[j]],rfl,SqL.of h2,(by rw[hAd];show _+1<1000;omega),fun r ss hr0 ndS leS mem=>?_⟩;have X3:=Ext.new hr0 (SetS P w r ss);rw[hAd]at leS;refine⟨r,ss,rfl,upd_same,(by have:[names[j]].length=1:=rfl;omega),fun r2 ss' hr2 ps so=>?_⟩;have X4:=Ext.new hr2 (.lst (ss'.map V.str));refine q r2 ss' _ (X0.trans (X1.trans (X2.trans (X3.trans X4)))) upd_same (rise_of so (ps.nodup_iff.mpr ndS)) fun x hx=>?_
  rcases hAe.mp ((mem x).mp (ps.mem_iff.mp hx)) with z | z
  ·exact rr.sub row rm x z
  ·rw[hA7.mp z];exact hBw hjl
 ·obtain⟨j,hj,hj2⟩:=qEw (b:=b / 1024) pF;rw[hA1,la]at hj2;have hjl:j<F.length:=by omega
  obtain⟨c1,hc1⟩:∃ c,as[j]?=some c:=⟨_,hA2 (by omega)⟩;obtain⟨row1,hrow1,hcr1⟩:=qBc pa hc1;have rm1:=hAu hrow1;have lrow1:=rr.len rn ln rm1;refine⟨_,rfl,_,rfl,_,rfl,_,_,rfl,rfl,⟨by decide,by decide⟩,_,rfl,pr,_,rfl,.inl (SqL.of (X0 _ _ hpr)),_,_,rfl,rfl,pF,?_⟩;dsimp only;rw[hj];refine⟨pr,_,_,_,rfl,rfl,SqL.of (X0 _ _ hpr),atI_nat (by rw[hAh,hc1];rfl),?_⟩;refine⟨c0,c1,_,_,rfl,rfl,hcr0,X0 _ _ hcr1,(by rw[hA1,hA1];exact hB3 (qAi (by omega))),fun l2 hl2=>?_⟩;have X2:=Ext.new hl2 (.lst (row.map V.str++row1.map V.str));have h2:LsS (upd H0 l2 (.lst (row.map V.str++row1.map V.str))) l2 (row++row1):=by
   unfold LsS;rw[upd_same,hA9]
  refine⟨l2,row++row1,rfl,SqL.of h2,(by rw[hAd];omega),fun r ss hr0 ndS leS mem=>?_⟩;have X3:=Ext.new hr0 (SetS P w r ss);rw[hAd]at leS;refine⟨r,ss,rfl,upd_same,by omega,fun r2 ss' hr2 ps so=>?_⟩;have X4:=Ext.new hr2 (.lst (ss'.map V.str));refine q r2 ss' _ (X0.trans (X2.trans (X3.trans X4))) upd_same (rise_of so (ps.nodup_iff.mpr ndS)) fun x hx=>?_
  rcases hAe.mp ((mem x).mp (ps.mem_iff.mp hx)) with z | z
  ·exact rr.sub row rm x z
  ·exact rr.sub row1 rm1 x z
abbrev srN:List Str:=["_law_net_here","_law_names_here","_law_rows","_law_big_here","_law_some","_law_row_here"]
theorem qFr:FnScope srN ["_law_net_here","_law_names_here","_law_rows","_law_big_here"] (qAb qEs):=⟨rfl,rfl,rfl,by decide +kernel,rfl,by decide +kernel,by decide +kernel⟩
theorem ok_stra (F:Fun K "_law_strange" "_law_strange" qEs f fd)
  (G1:Cl P w K mg base CX0 1 f1 fd1 ["_law_big_here","_law_many"] spNames "_law_names")
  (ml:mg "len" = none) (mso:mg "sorted" = none):FnOk P w K mg base CX0 2 f fd ["_law_net_here","_law_names_here","_law_rows","_law_big_here"] spStra:=by
 refine F.ok qFr (fun vs H Q E h=>?_) (fun cdv A outer s H vs Q E hr h=>?_)
 ·obtain⟨np,pn,pr,net,F,b,rfl,_⟩:=h;rfl
 obtain⟨np,pn,pr,net,F,b,rfl,nt,hn,hF,l12,tx,rn,rr,q⟩:=h;refine⟨_,pss_cons (qAn (i:=4) qFr.nd rfl (Or.inl rfl) (qAk qDd (pe_lc (N:=srN) (sc:=qAb qEs) (N':=["_law_tie"]) (sub:=[none]) rfl rfl (CmpOk.of (by decide +kernel)) rfl (qAv (pv 0)) (fun C s H fp=>⟨qAg (i:=0) (by show(["_law_tie"]:List Str).Nodup;decide) rfl (Or.inl rfl),qA7,(pe_ix (show IxR _ (rIxT K) from qDe) (pv 0) qAd (fun _ _=>rfl))⟩)) (qAy G1 hr rfl .nil qAz (qAa (qAk qBd (pv 3) qAd) (qAa qAd qAc))))) (pss_cons (ps_lc (i:=4) (N:=srN) (sc:=qAb qEs) (N':=["_law_name","_law_names_here"]) (sub:=[none,some 1]) rfl rfl (CmpOk.of (by decide +kernel)) rfl (qAv (pv 4)) (fun C s H fp=>⟨qAg (i:=0) (by show(["_law_name","_law_names_here"]:List Str).Nodup;decide) rfl (Or.inl rfl),(qB8 (qAp (show OpR _ (compareOp .NotIn) (rIn K true) from op_notIn_seq) (pv 0) (pv 1) (by with_unfolding_all rfl))),(pv 0)⟩) qFr.nd rfl (Or.inl rfl)) (pss_cons (qAn (i:=5) qFr.nd rfl (Or.inl rfl) (qBk qAc)) (pss_cons (ps_cutE (qCq (PW.pt (pw_and (qAp (qF5 (qEv hr)) (pv 2) (qBk qAc) (qAw _)) (pw_and1 (qAp op_gt (qAk qBe (pv 3) qAd) qAd (qAw _))))) (qAh (qAn (i:=5) qFr.nd rfl (Or.inl rfl) (pe_ix ix_list (pv 2) (qAk qBe (qAk qBd (pv 3) qAd) (qAj qAq rfl ml hB9 (qAa (pv 2) qAc))) (fun _ _=>rfl)))) qBl)) (qAh (qAu (qAj qEz rfl mso qA9 (qAa (qAk qDd (pv 5) (qBk (qAa (pe_ix ix_list (pv 4) (qAk qBe (qAk qBd (pv 3) qAd) (qAj qAq rfl ml hB9 (qAa (pv 4) qAc))) (fun _ _=>rfl)) qAc))) qAc))))))),?_⟩;try dsimp only[Cx.wish,qB5]
 have okF:∀ r∈F,SOk r:=fun r hr x hx=>by
  obtain⟨t,ht,rfl⟩:=hAb.mp (rr.sub r hr x hx);exact(tx t ht).1.ok
 have lnn:(nmS net).length<=12:=by rw[hA1];exact l12
 obtain⟨ns,hnp,pns⟩:=id nt;have lns:ns.length=net.length:=pns.length;refine⟨_,rfl,np,rfl,⟨_,SqL.of hnp⟩,?_⟩;refine qAt (xs:=ns.map V.ref) (fun j ys H2=>H2=H/\ys=((net.take j).map fun t=>t.2.1).map V.str) ⟨rfl,rfl⟩ (fun j ys H2 _ h=>by rw[h.1];exact SqL.of hnp) ?_ ?_
 ·rintro j v ys H2 hx ⟨rfl,rfl⟩;obtain⟨c,t,rfl,ht,hc⟩:=qCt pns hx;have hj:=qA0 ht;refine⟨Sle.set _ (Sle.refl _) (fun u z=>by cases z),iteT (B:=False) ⟨_,rfl,c,_,_,_,rfl,rfl,SqT.of hc,(by exact atI_nat (j:=1) rfl),?_,nxt (qA0 hx) ⟨rfl,?_⟩⟩⟩
  ·rw[hA1,hA1,hAj];exact qAi (by omega)
  ·rw[qAl ht,hA9,hA9];rfl
 rintro ys H2 ⟨rfl,rfl⟩ l1 hl1;rw[hA1,lns,hA8 (hA5 _)];have X1:=Ext.new hl1 (.lst ((net.map fun t=>t.2.1).map V.str));refine⟨_,rfl,_,_,rfl,rfl,⟨by decide,by decide⟩,b / 1024,14,rfl,by decide,by decide,fun r ss H3 e3 r0 hss lss txs ndss=>?_⟩;have E3:=X1.trans e3;have ndss:=ndss (by decide);have lss:ss.length=14:=lss;refine⟨l1,r,_,_,rfl,rfl,e3 _ _ upd_same,hss,(by rw[hA1,hA1,hA1];exact hB3 (qAi (by omega))),fun l2 hl2=>?_⟩;have X2:=Ext.new hl2 (.lst ((net.map fun t=>t.2.1).map V.str++ss.map V.str));have h2:LsS (upd H3 l2 (.lst ((net.map fun t=>t.2.1).map V.str++ss.map V.str))) l2 ((net.map fun t=>t.2.1)++ss):=by
  unfold LsS;rw[upd_same,hA9]
 have E4:=E3.trans X2;have lall:((net.map fun t=>t.2.1)++ss).length<=26:=by rw[hAd,hA1];omega
 have okA:SOk ((net.map fun t=>t.2.1)++ss):=fun x hx=>by
  rcases hAe.mp hx with z | z
  ·obtain⟨t,ht,rfl⟩:=hAb.mp z;exact(tx t ht).2.1.ok
  ·exact(txs x z).ok
 have some1:∃ x∈(net.map fun t=>t.2.1)++ss,x∉nmS net:=hBo fun c=>by
  have:=sub_len ndss (b:=nmS net) fun x hx=>hBo fun z=>c ⟨x,hA6 _ hx,z⟩
  omega
 revert E4 h2 X2;generalize upd H3 l2 (.lst ((net.map fun t=>t.2.1).map V.str++ss.map V.str))=H4;intro X2 h2 E4;revert h2 lall okA some1;generalize (net.map fun t=>t.2.1)++ss=al;intro lall okA some1 h2;clear X2 hl2 hss txs ndss lss r0 e3 E3 X1 hl1;refine⟨_,rfl,l2,rfl,⟨_,SqL.of h2⟩,?_⟩;refine qAt (xs:=al.map V.str) (fun j ys H5=>H5=H4/\ys=((al.take j).filter fun x=>!decide (x∈nmS net)).map V.str) ⟨rfl,rfl⟩ (fun j ys H5 _ h=>by rw[h.1];exact SqL.of h2) ?_ ?_
 ·rintro j v ys H5 hx ⟨rfl,rfl⟩;obtain⟨x,rfl,hx'⟩:=str_get hx;have hj:=qA0 hx';have sz:=hAt (fun x=>!decide (x∈nmS net)) (al.take j);rw[hAj]at sz;refine⟨Sle.set _ (Sle.refl _) (fun u z=>by cases z),_,rfl,_,rfl,pn,_,rfl,.inl (SqL.of (E4 _ _ hn)),rfl,flat_strs _,_,rfl,?_⟩;rw[if_pos rfl,qEn];refine qDa (fun c=>?_) (fun c=>?_)
  ·refine⟨_,rfl,?_,nxt (qA0 hx) ⟨rfl,?_⟩⟩
   ·rw[hA1];exact qAi (by omega)
   ·rw[filt_t hx' c,hA9];rfl
  ·refine nxt (qA0 hx) ⟨rfl,?_⟩;rw[filt_f hx' (by simpa using c)]
 rintro ys H5 ⟨rfl,rfl⟩ l3 hl3;rw[hA1,hA8 (hA5 _)];have X3:=Ext.new hl3 (.lst ((al.filter fun x=>!decide (x∈nmS net)).map V.str));have h3:LsS (upd H5 l3 (.lst ((al.filter fun x=>!decide (x∈nmS net)).map V.str))) l3 (al.filter fun x=>!decide (x∈nmS net)):=upd_same;have mem3:∀ x∈al.filter (fun x=>!decide (x∈nmS net)),PyData.strOk x=true/\x∉nmS net:=fun x hx=>by
  obtain⟨h1,h2⟩:=hAf.mp hx;exact⟨okA x h1,by simpa using h2⟩
 have pos3:0<(al.filter fun x=>!decide (x∈nmS net)).length:=by
  obtain⟨x,h1,h2⟩:=some1;exact hCt (hAf.mpr ⟨h1,by rw[decide_eq_false h2];rfl⟩)
 have E5:=E4.trans X3;have lsm:(al.filter fun x=>!decide (x∈nmS net)).length<=26:=hAs (hAt _ _) lall;revert E5 h3 X3;generalize upd H5 l3 (.lst ((al.filter fun x=>!decide (x∈nmS net)).map V.str))=H6;intro X3 h3 E5;revert h3 mem3 pos3 lsm;generalize (al.filter fun x=>!decide (x∈nmS net))=sm;intro mem3 pos3 lsm h3;clear X3 hl3 h2 E4 some1 okA lall;refine⟨hAq _,fun l4 hl4=>?_⟩;have X4:=Ext.new hl4 (.lst []);have h4:LsS (upd H6 l4 (.lst [])) l4 []:=upd_same;have h34:=X4 _ _ h3;have E6:=E5.trans X4;revert X4 h4 h34 E6;generalize upd H6 l4 (.lst [])=H7;intro X4 h4 h34 E6;clear X4 hl4 h3 E5;obtain⟨as,hpr,pa⟩:=id hF;have la:as.length=F.length:=pa.length;refine⟨fun σ' H'=>∃ (rw':Addr) (row:List Str),σ'=[some (.ref np),some (.ref pn),some (.ref pr),some (.int b),some (.ref l3),some (.ref rw')]/\Ext H7 H'/\LsS H' rw' row/\(row=[]\/row∈F),?_,?_⟩
 ·refine⟨_,rfl,hAq _,fun l5 hl5=>?_⟩;have X5:=Ext.new hl5 (.lst []);have h5:upd H7 l5 (.lst []) l5=some (.lst []):=upd_same;refine⟨_,_,dr_rows (hF.ext (E6.trans X5)),dr_nil h5,qDi okF,qGr,_,rfl,?_⟩;rw[if_pos rfl,qEy];refine qDa (fun c=>?_) (fun c=>?_)
  ·have Fne:F≠[]:=by simpa using c
   refine⟨_,rfl,_,_,rfl,rfl,(by show(0:Int)<4;decide),_,_,rfl,rfl,_,rfl,?_⟩;refine qDa (fun c2=>?_) (fun c2=>?_)
   ·have pF:(0:Int)<(((as.map V.ref).length:Nat):Int):=by
     rw[hA1,la];have:=hCr.mpr Fne;omega
    obtain⟨k,hk,hk2⟩:=qEw (b:=b / 4) pF;rw[hA1,la]at hk2;obtain⟨c0,hc0⟩:∃ c,as[k]?=some c:=⟨_,hA2 (by omega)⟩;obtain⟨row,hrow,hcr⟩:=qBc pa hc0;refine⟨_,rfl,_,rfl,_,_,rfl,rfl,⟨by decide,by decide⟩,_,rfl,pr,_,rfl,.inl (SqL.of ((E6.trans X5) _ _ hpr)),_,_,rfl,rfl,pF,?_⟩;dsimp only;rw[hk];refine⟨pr,_,_,_,rfl,rfl,SqL.of ((E6.trans X5) _ _ hpr),atI_nat (by rw[hAh,hc0];rfl),?_⟩;exact⟨c0,row,rfl,X5,(E6.trans X5) _ _ hcr,.inr (hAu hrow)⟩
   ·exact⟨l4,[],rfl,X5,X5 _ _ h4,.inl rfl⟩
  ·exact⟨l4,[],rfl,X5,X5 _ _ h4,.inl rfl⟩
 rintro σ' H8 ⟨rw',row,rfl,e8,hrw,hrow⟩;have lrow:row.length<=12:=by
  rcases hrow with e | e
  ·rw[e];exact hAq _
  ·exact rr.len rn lnn e
 have okr:SOk row:=by
  rcases hrow with e | e
  ·rw[e];exact fun x hx=>by cases hx
  ·exact okF row e
 have pS:(0:Int)<(((sm.map V.str).length:Nat):Int):=by rw[hA1];omega
 obtain⟨k,hk,hk2⟩:=qEw (b:=b / 64) pS;rw[hA1]at hk2;have hkl:k<sm.length:=by omega
 have hsk:=hA2 hkl;refine⟨_,rfl,_,rfl,_,rfl,_,_,rfl,rfl,⟨by decide,by decide⟩,_,rfl,l3,_,rfl,.inl (SqL.of (e8 _ _ h34)),_,_,rfl,rfl,pS,?_⟩;dsimp only;rw[hk];refine⟨l3,_,_,_,rfl,rfl,SqL.of (e8 _ _ h34),atI_nat (by rw[hAh,hsk];rfl),(by show 1<=sizeLine;decide),fun l5 hl5=>?_⟩;have X5:=Ext.new hl5 (.lst [V.str sm[k]]);refine⟨rw',l5,_,_,rfl,rfl,X5 _ _ hrw,upd_same,(by rw[hA1];exact hB3 (qAi (by show _+1<=1000;omega))),fun l6 hl6=>?_⟩;have X6:=Ext.new hl6 (.lst (row.map V.str++[V.str sm[k]]));have h6:LsS (upd (upd H8 l5 (.lst [V.str sm[k]])) l6 (.lst (row.map V.str++[V.str sm[k]]))) l6 (row++[sm[k]]):=by
  unfold LsS;rw[upd_same,hA9];rfl
 refine⟨l6,row++[sm[k]],rfl,SqL.of h6,(by rw[hAd];show _+1<64;omega),fun r ss' hr0 ps so=>?_⟩;have X7:=Ext.new hr0 (.lst (ss'.map V.str));have mk:=mem3 _ (hBw hkl);refine q r ss' _ (E6.trans (e8.trans (X5.trans (X6.trans X7)))) upd_same (fun x hx=>?_) (by rw[ps.length_eq,hAd];show _+1<=13;omega) ⟨sm[k],ps.mem_iff.mpr (by simp),mk.2⟩;rcases hAe.mp (ps.mem_iff.mp hx) with z | z
 ·exact okr x z
 ·rw[hA7.mp z];exact mk.1
end
end My
namespace L2
open PySem PySem.Spec PyProof.Rows PySem.SeqAt
def rInD (K:PySem.W.Frag):R2:=fun x y H Q=>∃ ds d,DR K H y (.list ds)/\DR K H x d/\shaped (.list ds)=true/\shaped d=true/\Q (.bl (ds.any fun z=>PyData.eqv z d)) H
theorem op_inD {X:Cx} (hu:X.A.units+65<cLine):OpR X (compareOp .In) (rInD X.K):=by
 intro pins s σ H x y v u Q I rx ry h;obtain⟨ds,d,hy,hx,sy,sx,q⟩:=h;obtain⟨a1,r1⟩:=DR.reads I hx rx;obtain⟨a2,r2⟩:=DR.reads I hy ry;exact in_list_reads r2 r1 (canLay_of_shaped sy) (canLay_of_shaped sx) (room_in_shaped sx hu) ⟨.bl _,H,I,rfl,q⟩
end L2
namespace My
open PySem L2
theorem room65 {k:Nat} {A:Around} (hr:Room k A):A.units+65<cLine:=by have:=hr.un;omega
theorem any_rows (F:List (List Str)) (r:List Str):((F.map qFf).any fun z=>PyData.eqv z (qFf r))=decide (r∈F):=by
 rw[List.any_map,hDa,List.any_eq_true,decide_eq_true_iff];constructor
 ·rintro⟨x,hx,e⟩;have e':PyData.eqv (qFf x) (qFf r)=true:=e;rw[qDn]at e';rw[<-of_decide_eq_true e'];exact hx
 ·intro h;exact⟨r,h,by show PyData.eqv (qFf r) (qFf r)=true;rw[qDn];exact decide_eq_true rfl⟩
theorem Kp.net {H H':Hp} (e:Kp H H') {p:Addr} {net:List Tr} (h:qA8 H p net):qA8 H' p net:=by
 obtain⟨as,h1,h2⟩:=h;exact⟨as,e.lst h1,Paired.mapP h2 fun a t z=>e.k _ _ (fun _ y=>by cases y) z⟩
theorem Kp.sqL {K:PySem.W.Frag} {H H':Hp} {a:Addr} {xs:List V} (e:Kp H H') (h:SqL K H a xs):SqL K H' a xs:=by
 rcases h with h | h
 ·exact .inl (by
   rcases h with h | ⟨b,h⟩
   ·exact .inl (e.lst h)
   ·exact .inr ⟨b,e.k _ _ (fun _ z=>by cases z) h⟩)
 ·exact .inr h
def spLaw (K:PySem.W.Frag) (Pt:Addr):Sp:=fun vs H Q _=>∃ (a:Addr) (ns:List Int),vs=[.ref a]/\SqL K H a (ns.map V.int)/\ns.length<=63/\H Pt=some (.tbl #[])/\∀ H',Q (.bl true) H'
def rLst (K:PySem.W.Frag):List V->Hp->VK->Prop:=fun xs H Q=>∃ p ys,xs=[.ref p]/\(SqL K H p ys\/SqT K H p ys)/\∀ l,H l=none->Q (.ref l) (upd H l (.lst ys))
def spCan:Sp:=fun vs H Q E=>spCanT vs H Q E\/spCanF vs H Q E
section
variable {net:List Tr} {ps:List Str} {S M:List Nat} {FR:List (List Str)} {row:List Str} {H:Hp} {p rp:Addr} {Q:VK} {E:XK}
theorem can_of (tb:Tb net ps S M) (inF:∀ r,r∈FR↔∃ z,r=rowM (nmS net) z/\Lst M z) (nt:qA8 H p net) (hr:LsS H rp row) (ln:net.length<=12) (tx:TxN net) (rr:qDo row) (sub:∀ x∈row,x∈nmS net) (q:∀ H',Ext H H'->Q (.bl (decide (row∈FR))) H'):spCan [.ref p,.ref rp] H Q E:=by
 have nd:=qDc tb.rs;have sl:=rise_sub rr tb.rs sub;have sn:=sub_names nd sl;have okr:SOk row:=fun x hx=>by
  obtain⟨t,ht,rfl⟩:=hAb.mp (sub x hx);exact(tx t ht).1.ok
 by_cases m:row∈FR
 ·rw[decide_eq_true m]at q;obtain⟨z,ez,hz⟩:=(inF row).mp m;obtain⟨mi,_⟩:=min_of tb hz;rw[<-ez]at mi;exact .inl ⟨p,rp,net,row,rfl,nt,hr,ln,tb.rs,okr,sn,mi,q⟩
 ·rw[decide_eq_false m]at q;refine .inr ⟨p,rp,net,row,rfl,nt,hr,ln,tx,okr,fun h=>m ?_,q⟩;have mi:=isOne_min (tb.rs.sublist (hB5.map _):qDo (nmS (qDh net row))) h.2;exact(inF row).mpr (row_of_min tb sl mi)
theorem can_no (nt:qA8 H p net) (hr:LsS H rp row) (ln:net.length<=12) (tx:TxN net) (okr:SOk row) (no:∃ x∈row,x∉nmS net) (q:∀ H',Ext H H'->Q (.bl false) H'):spCan [.ref p,.ref rp] H Q E:=by
 refine .inr ⟨p,rp,net,row,rfl,nt,hr,ln,tx,okr,fun h=>?_,q⟩;obtain⟨x,hx,hn⟩:=no;rw[<-h.1]at hx;obtain⟨t,ht,e⟩:=hAb.mp hx;exact hn (hAb.mpr ⟨t,(hAf.mp ht).1,e⟩)
theorem can_nil (nt:qA8 H p net) (hr:LsS H rp []) (ln:net.length<=12) (tx:TxN net) (q:∀ H',Ext H H'->Q (.bl false) H'):spCan [.ref p,.ref rp] H Q E:=by
 refine .inr ⟨p,rp,net,[],rfl,nt,hr,ln,tx,fun x hx=>(by cases hx),fun h=>?_,q⟩;have e:qDh net []=[]:=List.filter_eq_nil_iff.mpr fun t _=>by simp
 have:=h.2.1;rw[e,qCy]at this;cases this
end
section
variable {P:Program} {w:World} {K:PySem.W.Frag} {mg:Str->Option Value} {base:Heap} {f f1 f2 f3 f4 f5 f6 f7 f8 Pt:Addr} {fd fd1 fd2 fd3 fd4 fd5 fd6 fd7 fd8:FuncData}
abbrev laN:List Str:=["_law_script","_law_net_here","_law_handed","_law_names_here","_law_rows","_law_k","_law_row_here","_law_asked","_law_can_here"]
theorem qE5:FnScope laN ["_law_script"] (qAb sLaw):=⟨rfl,rfl,rfl,by decide +kernel,rfl,by decide +kernel,by decide +kernel⟩
theorem ok_law (F:Fun K "law" "law" sLaw f fd)
  (G1:Cl P w K mg base CX0 3 f1 fd1 ["_law_script","_law_at"] (spNet K) "_law_net")
  (G2:Cl P w K mg base CX0 4 f2 fd2 ["table"] (spRounds Pt) "rounds")
  (G3:Cl P w K mg base CX0 5 f3 fd3 ["net"] spTable "table_of")
  (G4:Cl P w K mg base CX0 2 f4 fd4 ["_law_names_here","_law_rows","_law_big_here"] spBent "_law_bent")
  (G5:Cl P w K mg base CX0 2 f5 fd5 ["_law_net_here","_law_names_here","_law_rows","_law_big_here"] spStra "_law_strange")
  (G6:Cl P w K mg base CX0 6 f6 fd6 ["_law_net_here","_law_row_here"] spCan "_law_can")
  (G8:Cl P w K mg base CX0 2 f8 fd8 ["_law_script","_law_k"] (spBig K) "_law_big")
  (mL:mg "list" = none) (mr:mg "range" = none) (mal:mg "all" = none):FnOk P w K mg base CX0 7 f fd ["_law_script"] (spLaw K Pt):=by
 refine F.ok qE5 (fun vs H Q E h=>?_) (fun cdv A outer s H vs Q E hr6 h=>?_)
 ·obtain⟨a,ns,rfl,_⟩:=h;rfl
 obtain⟨a,ns,rfl,hS,hl,hP,q⟩:=h;have hr2:=hr6.mono (j:=2) (by decide);have hr3:=hr6.mono (j:=3) (by decide);have hr4:=hr6.mono (j:=4) (by decide);have hr5:=hr6.mono (j:=5) (by decide);refine⟨_,pss_cons (qAn (i:=1) qE5.nd rfl (Or.inl rfl) (qAy G1 hr3 rfl .nil qAz (qAa (pv 0) (qAa qAd qAc)))) (pss_cons (qAn (i:=2) qE5.nd rfl (Or.inr rfl) (qBb qBs rfl mL qBj (qAa (pv 1) qAc))) (pss_cons (ps_lc (i:=3) (N:=laN) (sc:=qAb sLaw) (N':=["_law_tie"]) (sub:=[none]) rfl rfl (CmpOk.of (by decide +kernel)) rfl (qAv (pv 1)) (fun C s H fp=>⟨qAg (i:=0) (by show(["_law_tie"]:List Str).Nodup;decide) rfl (Or.inl rfl),qA7,(pe_ix (show IxR _ (rIxT K) from qDe) (pv 0) qAd (fun _ _=>rfl))⟩) qE5.nd rfl (Or.inl rfl)) (pss_cons (qAn (i:=4) qE5.nd rfl (Or.inl rfl) (qAy G2 hr4 rfl .nil qAz (qAa (qAy G3 hr5 rfl .nil qAz (qAa (qBb qBs rfl mL qBj (qAa (pv 1) qAc)) qAc)) qAc))) (pss_cons (qB6 PassesOwn.never rfl (qB2 rfl mr (qAa qAd qAc)) (qAg (i:=5) qE5.nd rfl (Or.inl rfl)) (pss_cons (qAn (i:=6) qE5.nd rfl (Or.inl rfl) (qAy G4 hr2 rfl .nil qAz (qAa (pv 3) (qAa (pv 4) (qAa (qAy G8 hr2 rfl .nil qAz (qAa (pv 0) (qAa (qAk qBw qAd (pv 5)) qAc))) qAc))))) (pss_cons (qAn (i:=7) qE5.nd rfl (Or.inl rfl) (qBb qBs rfl mL qBj (qAa (pv 6) qAc))) (pss_cons (qAn (i:=8) qE5.nd rfl (Or.inl rfl) (qAy G6 hr6 rfl .nil qAz (qAa (pv 2) (qAa (pv 7) qAc)))) (qAh (qCq (PW.pt (qE6 (qAp op_isN (pv 8) pe_non (qAw _)) (qE6 (qAp op_ne (pv 8) (qCr (op_inD (room65 hr6)) (pv 6) (pv 4) (by with_unfolding_all rfl)) (qAw _)) (qE6 (qAp (qF5 (qEv hr6)) (pv 7) (pv 6) (qAw _)) (qFz (qAp (qF5 (qEv hr6)) (pv 2) (pv 1) (qAw _))))))) (qAh (qAu pe_bl)) qBl)))))) (pss_cons (qB6 PassesOwn.never rfl (qB2 rfl mr (qAa qAd qAc)) (qAg (i:=5) qE5.nd rfl (Or.inl rfl)) (pss_cons (qAn (i:=6) qE5.nd rfl (Or.inl rfl) (qAy G5 hr2 rfl .nil qAz (qAa (pv 1) (qAa (pv 3) (qAa (pv 4) (qAa (qAy G8 hr2 rfl .nil qAz (qAa (pv 0) (qAa (qAk qBw qAd (pv 5)) qAc))) qAc)))))) (pss_cons (qAn (i:=7) qE5.nd rfl (Or.inl rfl) (qBb qBs rfl mL qBj (qAa (pv 6) qAc))) (qAh (qCq (PW.pt (qE6 (qAp op_isnB (qAy G6 hr6 rfl .nil qAz (qAa (pv 2) (qAa (pv 7) qAc))) pe_bl (qAw _)) (qE6 (qAp (qF5 (qEv hr6)) (pv 7) (pv 6) (qAw _)) (qFz (qAp (qF5 (qEv hr6)) (pv 2) (pv 1) (qAw _)))))) (qAh (qAu pe_bl)) qBl))))) (qAh (qAu (pe_and (qCr op_isB (qAy G6 hr6 rfl .nil qAz (qAa (pv 2) (qAa (qBk qAc) qAc))) pe_bl (qAw _)) (pe_one (qAj (call_allB rfl) rfl mal boot_all' (qAa (pe_lc (N:=laN) (sc:=qAb sLaw) (N':=["_law_row_here","_law_handed"]) (sub:=[none,some 2]) rfl rfl (CmpOk.of (by decide +kernel)) rfl (qAv (qC2 sl_list (pv 4) qEi (qEh qAd))) (fun C s H fp=>⟨qAg (i:=0) (by show(["_law_row_here","_law_handed"]:List Str).Nodup;decide) rfl (Or.inl rfl),qA7,(qAy G6 hr6 rfl .nil qAz (qAa (pv 1) (qAa (qBb (show qA6 _ (.type "list") (rLst K) from qBs) rfl mL qBj (qAa (pv 0) qAc)) qAc)))⟩)) qAc))))))))))),?_⟩;try dsimp only[Cx.wish,qB5]
 refine⟨_,rfl,a,ns,rfl,hS,fun nr net H1 e1 nr0 nt ln tx rs=>?_⟩;obtain⟨as,hnr,pas⟩:=id nt;have las:as.length=net.length:=pas.length;have lnn:(nmS net).length=net.length:=hA1 ..;refine⟨_,rfl,nr,_,rfl,.inl (SqL.of hnr),fun hd hhd=>?_⟩;have X1:=Ext.new hhd (.lst (as.map V.ref));have nh1:qA8 (upd H1 hd (.lst (as.map V.ref))) hd net:=⟨as,upd_same,Paired.mapP pas fun a t z=>X1 _ _ z⟩;refine⟨_,rfl,nr,rfl,⟨_,SqL.of (X1 _ _ hnr)⟩,?_⟩;refine qAt (xs:=as.map V.ref) (fun j ys H2=>H2=upd H1 hd (.lst (as.map V.ref))/\ys=(nmS (net.take j)).map V.str) ⟨rfl,rfl⟩ (fun j ys H2 _ h=>by rw[h.1];exact SqL.of (X1 _ _ hnr)) ?_ ?_
 ·rintro j v ys H2 hx ⟨rfl,rfl⟩;obtain⟨c,t,rfl,ht,hc⟩:=qCt pas hx;have hj:=qA0 ht;refine⟨Sle.set _ (Sle.refl _) (fun u z=>by cases z),iteT (B:=False) ⟨_,rfl,c,_,_,_,rfl,rfl,SqT.of (X1 _ _ hc),(by exact atI_nat (j:=0) rfl),?_,nxt (qA0 hx) ⟨rfl,?_⟩⟩⟩
  ·rw[hA1,hA1,hAj];exact qAi (by omega)
  ·rw[qAl ht,show nmS (net.take j++[t])=nmS (net.take j)++[t.1] from hA9,hA9];rfl
 rintro ys H2 ⟨rfl,rfl⟩ nl hnl;rw[hA1,las,hA8 (hA5 _)];have X2:=X1.trans (Ext.new hnl (.lst ((nmS net).map V.str)));have hn2:LsS (upd (upd H1 hd (.lst (as.map V.ref))) nl (.lst ((nmS net).map V.str))) nl (nmS net):=upd_same;have nh2:=nh1.ext (Ext.new hnl (.lst ((nmS net).map V.str)));revert X2 hn2 nh2;generalize upd (upd H1 hd (.lst (as.map V.ref))) nl (.lst ((nmS net).map V.str))=H2;intro X2 hn2 nh2;clear nh1 X1 hhd hnl;refine⟨_,rfl,nr,_,rfl,.inl (SqL.of (X2 _ _ hnr)),fun l2 hl2=>?_⟩;have Xl:=Ext.new hl2 (.lst (as.map V.ref));have X3:=X2.trans Xl;refine⟨l2,net,rfl,⟨as,upd_same,Paired.mapP pas fun a t z=>X3 _ _ z⟩,ln,fun T ps S M H3 e3 t0 tf pk rk pS pM dM=>?_⟩;have nd:=qDc rs;have tb:Tb net ps S M:=⟨rs,pk,pS,pM,dM⟩;have lM:M.length<=24:=by
  have h1:=tb.len;omega
 refine⟨T,nmS net,_,rfl,tf.tin,by omega,by rw[hA1];exact lM,.inl ((e1.trans (X3.trans e3)) _ _ hP),fun rr Mr Lr FR H4 eB rr0 hrr pMr pLr soLr pFR soFR tw4=>?_⟩;have E3:=X3.trans e3;obtain⟨tb4,hb4⟩:=My.TabW.tb tw4;have K4:=kp_B eB ((e1.trans E3) _ _ hP) hb4;have nh4:=K4.net (nh2.ext (Xl.trans e3));have nt4:=K4.net (nt.ext E3);have hn4:=K4.ls ((Xl.trans e3) _ _ hn2);have rrM:RR M:=(qGw _).perm pM;have ltM:∀ x∈M,x<2^(nmS net).length:=fun x hx=>by rw[lnn];exact((tb.spn x).mp (.mem hx)).1
 have eM:(M.map (rowM (nmS net))).map (qA3 (nmS net))=M:=by
  rw[hB2]
  conv=>rhs;rw[<-List.map_id M]
  exact hBu fun c hc=>qCu nd (ltM c hc)
 have lMr:=(step_rr pMr).2.2;have pMr':Mr.Perm (red M):=by
  have h:=pMr;rw[eM]at h;exact h
 have rrMr:RR Mr:=(qGw _).perm pMr';have spMr:∀ y,Spn Mr y↔Spn M y:=fun y=>by rw[perm_spn pMr',qFy]
 have ndL:Lr.Nodup:=pLr.nodup_iff.mpr (sumF_nd Mr rrMr);have ltL:Lr.Pairwise (· < ·):=(soLr.and ndL).imp fun {a b} h=>Nat.lt_of_le_of_ne h.1 h.2
 have mL:∀ y,y∈Lr↔Spn M y:=fun y=>by rw[pLr.mem_iff,sumF_spn,spMr]
 have inF:∀ r,r∈FR↔∃ z,r=rowM (nmS net) z/\Lst M z:=fun r=>by
  rw[pFR.mem_iff,hAb];constructor
  ·rintro⟨z,hz,rfl⟩;obtain⟨a1,a2,a3⟩:=(mem_rmF Lr ltL z).mp hz;exact⟨z,rfl,(mL z).mp a1,a2,fun o ho=>a3 o ((mL o).mpr ho)⟩
  ·rintro⟨z,rfl,a1,a2,a3⟩;exact⟨z,(mem_rmF Lr ltL z).mpr ⟨(mL z).mpr a1,a2,fun o ho=>a3 o ((mL o).mp ho)⟩,rfl⟩
 have rowsR:RowsR (nmS net) FR:=by
  refine⟨fun r hr e=>?_,fun r hr=>?_,fun r hr x hx=>?_,?_⟩
  ·obtain⟨z,ez,hz⟩:=(inF r).mp hr;have zl:=((tb.spn z).mp hz.1).1;have:=qCu nd (z:=z) (by rw[lnn];exact zl);rw[<-ez,e,mask_nil]at this;exact hz.2.1 this.symm
  ·obtain⟨z,ez,_⟩:=(inF r).mp hr;rw[ez];exact rs.sublist (qDv _ _)
  ·obtain⟨z,ez,_⟩:=(inF r).mp hr;rw[ez]at hx;exact qFe hx
  ·rw[pFR.length_eq,hA1];refine hAs (rmF_len Lr) ?_;rw[pLr.length_eq,qFb];exact hAs (hC8 (by decide) (show Mr.length<=12 by omega)) (by decide)
 have hS4:SqL K H4 a (ns.map V.int):=K4.sqL (Ext.sqL (e1.trans E3) hS);clear mL eM pMr' rrMr spMr ndL ltL pMr pLr soLr pFR soFR ltM rrM K4 hb4 eB E3 X3 X2 tf t0 e3 hnr pas hl2 e1 Xl hn2 nh2 lMr;clear hS;have okF:∀ r∈FR,SOk r:=fun r hr x hx=>by
  obtain⟨t,ht,rfl⟩:=hAb.mp (rowsR.sub r hr x hx);exact(tx t ht).1.ok
 have okn:SOk (nmS net):=fun x hx=>by
  obtain⟨t,ht,rfl⟩:=hAb.mp hx;exact(tx t ht).1.ok
 refine⟨20,rfl,by decide,by decide,qCh (lo:=0) (n:=20) (fun i σ H'=>∃ x5 x6 x7 x8:Option V,σ=[some (.ref a),some (.ref nr),some (.ref hd),some (.ref nl),some (.ref rr),x5,x6,x7,x8]/\Ext H4 H') ⟨none,none,none,none,rfl,Ext.refl _⟩ ?_ ?_⟩
 ·rintro i σ H' hi ⟨x5,x6,x7,x8,rfl,e⟩;refine⟨_,rfl,_,rfl,_,rfl,_,rfl,_,_,rfl,rfl,a,ns,_,rfl,Ext.sqL e hS4,by omega,by omega,fun v=>?_⟩;refine⟨nl,rr,nmS net,FR,v,rfl,e _ _ hn4,hrr.ext e,by omega,rs,okn,rowsR,fun r row H5 e5 hrow riR subR=>?_⟩;have E5:=e.trans e5;refine⟨_,rfl,r,_,rfl,.inl (SqL.of hrow),fun ak hak=>?_⟩;have Xa:=Ext.new hak (.lst (row.map V.str));have hak1:LsS (upd H5 ak (.lst (row.map V.str))) ak row:=upd_same;have hrow1:=Xa _ _ hrow;have E6:=E5.trans Xa;revert Xa hak1 hrow1 E6;generalize upd H5 ak (.lst (row.map V.str))=H6;intro Xa hak1 hrow1 E6;have okr:SOk row:=fun x hx=>okn x (subR x hx)
  refine⟨_,rfl,_,rfl,can_of tb inF (nh4.ext E6) hak1 ln tx riR subR fun H7 e7=>?_⟩;have E7:=E6.trans e7;refine⟨_,rfl,rfl,_,rfl,?_⟩;rw[show decide (V.bl (decide (row∈FR))=V.non)=false from rfl];refine iteF ?_;refine⟨_,rfl,_,rfl,_,rfl,_,_,dr_rows (hrr.ext E7),qDf (e7 _ _ hrow1),qDi okF,qBh okr,?_⟩;rw[any_rows];refine⟨rfl,_,rfl,?_⟩;rw[decide_eq_true rfl];refine iteF ?_;refine⟨_,rfl,_,rfl,_,_,qDf (e7 _ _ hak1),qDf (e7 _ _ hrow1),qBh okr,qBh okr,_,rfl,?_⟩;rw[if_pos rfl,qDn,decide_eq_true rfl];refine iteF ?_;refine⟨_,rfl,_,rfl,_,_,dr_net (nh4.ext E7),dr_net (nt4.ext E7),qC0 tx,qC0 tx,_,rfl,?_⟩;rw[if_pos rfl,eqv_net];refine iteF ?_;exact⟨_,_,_,_,rfl,E7⟩
 rintro σ H5 ⟨x5,x6,x7,x8,rfl,e5⟩;refine⟨6,rfl,by decide,by decide,qCh (lo:=0) (n:=6) (fun i σ H'=>∃ x5 x6 x7 x8:Option V,σ=[some (.ref a),some (.ref nr),some (.ref hd),some (.ref nl),some (.ref rr),x5,x6,x7,x8]/\Ext H4 H') ⟨_,_,_,_,rfl,e5⟩ ?_ ?_⟩
 ·clear e5;rintro i σ H' hi ⟨x5,x6,x7,x8,rfl,e⟩;refine⟨_,rfl,_,rfl,_,rfl,_,rfl,_,rfl,_,_,rfl,rfl,a,ns,_,rfl,Ext.sqL e hS4,by omega,by omega,fun v=>?_⟩;refine⟨nr,nl,rr,net,FR,v,rfl,nt4.ext e,e _ _ hn4,hrr.ext e,ln,tx,rs,rowsR,fun r row H5 e5 hrow okr lr no=>?_⟩;have E5:=e.trans e5;refine⟨_,rfl,r,_,rfl,.inl (SqL.of hrow),fun ak hak=>?_⟩;have Xa:=Ext.new hak (.lst (row.map V.str));have hak1:LsS (upd H5 ak (.lst (row.map V.str))) ak row:=upd_same;have hrow1:=Xa _ _ hrow;have E6:=E5.trans Xa;revert Xa hak1 hrow1 E6;generalize upd H5 ak (.lst (row.map V.str))=H6;intro Xa hak1 hrow1 E6;refine⟨_,rfl,_,rfl,can_no (nh4.ext E6) hak1 ln tx okr no fun H7 e7=>?_⟩;have E7:=E6.trans e7;refine⟨_,_,rfl,rfl,_,rfl,iteF ?_⟩;refine⟨_,rfl,_,rfl,_,_,qDf (e7 _ _ hak1),qDf (e7 _ _ hrow1),qBh okr,qBh okr,_,rfl,?_⟩;rw[if_pos rfl,qDn,decide_eq_true rfl];refine iteF ?_;refine⟨_,rfl,_,rfl,_,_,dr_net (nh4.ext E7),dr_net (nt4.ext E7),qC0 tx,qC0 tx,_,rfl,?_⟩;rw[if_pos rfl,eqv_net];refine iteF ?_;exact⟨_,_,_,_,rfl,E7⟩
 clear e5;rintro σ H5 ⟨x5,x6,x7,x8,rfl,e5⟩;refine⟨_,rfl,hAq _,fun l0 hl0=>?_⟩;have X0:=Ext.new hl0 (.lst []);have h00:LsS (upd H5 l0 (.lst [])) l0 []:=upd_same;refine can_nil (nh4.ext (e5.trans X0)) h00 ln tx fun H6 e6=>?_
 have E6:=e5.trans (X0.trans e6);refine⟨_,_,rfl,rfl,_,rfl,iteT (B:=_) ?_⟩;obtain⟨bs,hbs,pbs⟩:=id (hrr.ext E6);have lbs:bs.length=FR.length:=pbs.length;refine⟨_,rfl,_,rfl,rr,_,rfl,SqL.of hbs,fun l1 hl1=>?_⟩;have X1:=Ext.new hl1 (.lst (cutV (bs.map V.ref) none (some 3)));have ec:cutV (bs.map V.ref) none (some 3)=(bs.take 3).map V.ref:=by
  rw[show(3:Int)=((3:Nat):Int) from rfl,cut_to,List.map_take]
 rw[ec]at X1 ⊢;have h1:upd H6 l1 (.lst ((bs.take 3).map V.ref)) l1=some (.lst ((bs.take 3).map V.ref)):=upd_same;have p1:Paired (LsS (upd H6 l1 (.lst ((bs.take 3).map V.ref)))) bs FR:=Paired.mapP pbs fun a r z=>X1 _ _ z
 have E7:=E6.trans X1;revert X1 h1 p1 E7;generalize upd H6 l1 (.lst ((bs.take 3).map V.ref))=H7;intro X1 h1 p1 E7;refine⟨l1,rfl,⟨_,SqL.of h1⟩,?_⟩;refine qAt (xs:=(bs.take 3).map V.ref) (fun j ys H8=>Ext H7 H8/\ys=(List.replicate j true).map V.bl) ⟨Ext.refl _,rfl⟩ (fun j ys H8 _ h=>SqL.of (h.1 _ _ h1)) ?_ ?_
 ·rintro j v ys H8 hx ⟨e8,rfl⟩;obtain⟨c,rfl,hc⟩:=ref_get hx;have hj:=qA0 hc;rw[hAj]at hj;have hc':bs[j]?=some c:=by rw[List.getElem?_take_of_lt (by omega)]at hc;exact hc
  obtain⟨row,hrow,hcr⟩:=qBc p1 hc';have rm:=hAu hrow;refine⟨Sle.set _ (Sle.refl _) (fun u z=>by cases z),iteT (B:=False) ⟨_,rfl,_,rfl,c,_,rfl,.inl (SqL.of (e8 _ _ hcr)),fun l2 hl2=>?_⟩⟩;have X2:=Ext.new hl2 (.lst (row.map V.str));have h2:LsS (upd H8 l2 (.lst (row.map V.str))) l2 row:=upd_same;refine can_of tb inF (nh4.ext (E7.trans (e8.trans X2))) h2 ln tx (rowsR.rs row rm) (rowsR.sub row rm) fun H9 e9=>?_
  rw[decide_eq_true rm];refine⟨?_,nxt (qA0 hx) ⟨e8.trans (X2.trans e9),?_⟩⟩
  ·rw[hA1,List.length_replicate];exact qAi (by omega)
  ·rw[List.replicate_succ',hA9];rfl
 ·rintro ys H8 ⟨e8,rfl⟩ l2 hl2;refine⟨l2,List.replicate ((bs.take 3).map V.ref).length true,rfl,SqL.of upd_same,?_⟩;rw[show(List.replicate ((bs.take 3).map V.ref).length true).all id=true by rw[hCu];intro x hx;exact(List.mem_replicate.mp hx).2];exact q _
end
end My
namespace My
open PySem L2
theorem zl1 {α:Type} {l:List α} (h:l.length=1):∃ a,l=[a]:=match l,h with | [a],_=>⟨a,rfl⟩
theorem zl2 {α:Type} {l:List α} (h:l.length=2):∃ a b,l=[a,b]:=match l,h with | [a,b],_=>⟨a,b,rfl⟩
theorem zl3 {α:Type} {l:List α} (h:l.length=3):∃ a b c,l=[a,b,c]:=match l,h with | [a,b,c],_=>⟨a,b,c,rfl⟩
theorem zl4 {α:Type} {l:List α} (h:l.length=4):∃ a b c d,l=[a,b,c,d]:=match l,h with | [a,b,c,d],_=>⟨a,b,c,d,rfl⟩
theorem own_in {K:PySem.W.Frag} {h:Heap} {mg:Str->Option Value} {x:Str} {C:Addr} {bm0:List Value} {newId:String} (X:K.In h) (G:h.Ns mainGlobals mg) (e:PySem.W.nsIn K mainGlobals x=some (some (.ref C))) (q:PySem.W.excIn K C bm0 newId=true):PyProof.Rows.OwnCls x C bm0 newId mg h:=by
 refine⟨hAl X G e,?_⟩;unfold PySem.W.excIn at q;split at q
 ·rename_i dd cd sl ho;split at q
  ·rename_i C' bm k0 k1 k2 k3 n k5 hm hs;simp only[hB7,beq_iff_eq,Bool.not_eq_true']at q;obtain⟨⟨⟨⟨⟨rfl,rfl⟩,hdel⟩,ht⟩,hok⟩,hni⟩:=q;obtain⟨nm,bs,mro,ns,qn,hd,sn,sub,ab,col,del⟩:=cd;dsimp only at hm hdel hok hni;subst hm hdel;obtain⟨l⟩:=sl;simp only at hs;subst hs;exact⟨bm,ns,nm,qn,bs,hd,sn,sub,ab,col,dd,k0,k1,k2,k3,k5,_,X _ _ ho,.of_isNs (PySem.W.isNs_of_in X hok),PySem.W.nsMap_none_of_in X hok hni,PySem.W.tail_of_in X ht⟩
  ·cases q
 ·cases q
theorem all_mk {l:PySem.W.OpenLaw} {w:World} {K:PySem.W.Frag} {h:Heap} {mg:Str->Option Value} {fa f1 f2 f3 f4 f5 f6 f7 f8 f9 f10 f11 f12 f13 f14 f15 f16 f17 f18 f19 f20 f21 f22 f23 f24 f25 f26 f27 f28 f29 f30 f31 f32 f33:Addr} (X:K.In h) (G:h.Ns mainGlobals mg) (hfa:mg "law" = some (.ref fa)) {c T:Addr} (ht:PySem.W.tabIn K "in_order" = some (c,T))
  {od1 an1 od2 an2 od3 an3 od4 an4 od5 an5 od6 an6 od7 an7 od8 an8 od9 an9 od10 an10 od11 an11 od12 an12 od13 an13 od14 an14 od15 an15 od16 an16 od17 an17 od18 an18 od19 an19 od20 an20 od21 an21 od22 an22 od23 an23 od24 an24 od25 an25 od26 an26 od27 an27 od28 an28 od29 an29 od30 an30 od31 an31 od32 an32 od33 an33:Option Addr} {sl1 sl2 sl3 sl4 sl5 sl6 sl7 sl8 sl9 sl10 sl11 sl12 sl13 sl14 sl15 sl16 sl17 sl18 sl19 sl20 sl21 sl22 sl23 sl24 sl25 sl26 sl27 sl28 sl29 sl30 sl31 sl32 sl33:Array (Option Value)} {oc1 kV1 dc1 pm1 cd1 ct1 oc2 kV2 dc2 pm2 cd2 ct2 oc3 kV3 dc3 pm3 cd3 ct3 oc4 kV4 dc4 pm4 cd4 ct4 oc5 kV5 dc5 pm5 cd5 ct5 oc6 kV6 dc6 pm6 cd6 ct6 oc7 kV7 dc7 pm7 cd7 ct7 oc8 kV8 dc8 pm8 cd8 ct8 oc9 kV9 dc9 pm9 cd9 ct9 oc10 kV10 dc10 pm10 cd10 ct10 oc11 kV11 dc11 pm11 cd11 ct11 oc12 kV12 dc12 pm12 cd12 ct12 oc13 kV13 dc13 pm13 cd13 ct13 oc14 kV14 dc14 pm14 cd14 ct14 oc15 kV15 dc15 pm15 cd15 ct15 oc16 kV16 dc16 pm16 cd16 ct16 oc17 kV17 dc17 pm17 cd17 ct17 oc18 kV18 dc18 pm18 cd18 ct18 oc19 kV19 dc19 pm19 cd19 ct19 oc20 kV20 dc20 pm20 cd20 ct20 oc21 kV21 dc21 pm21 cd21 ct21 oc22 kV22 dc22 pm22 cd22 ct22 oc23 kV23 dc23 pm23 cd23 ct23 oc24 kV24 dc24 pm24 cd24 ct24 oc25 kV25 dc25 pm25 cd25 ct25 oc26 kV26 dc26 pm26 cd26 ct26 oc27 kV27 dc27 pm27 cd27 ct27 oc28 kV28 dc28 pm28 cd28 ct28 oc29 kV29 dc29 pm29 cd29 ct29 oc30 kV30 dc30 pm30 cd30 ct30 oc31 kV31 dc31 pm31 cd31 ct31 oc32 kV32 dc32 pm32 cd32 ct32 oc33 kV33 dc33 pm33 cd33 ct33:Value}
  {C R e1 e2 e3 e4 e5 e6 e7:Addr} {cdC:ClassData}
  (a1:PySem.W.nsIn K mainGlobals "mask_of" = some (some (.ref f1))) (l1:K.lookup f1=some ⟨oc1,od1,.func (PySem.W.fnOf "mask_of" "mask_of" (qAs sMask) (qAo sMask) (qAb sMask) .none kV1 dc1 pm1 an1 cd1 ct1),sl1⟩) (c1:PySem.W.codeIn K cd1 "mask_of" = true) (k1:PySem.W.keepIn K (.ref f1)=true)
  (a2:PySem.W.nsIn K mainGlobals "row_of" = some (some (.ref f2))) (l2:K.lookup f2=some ⟨oc2,od2,.func (PySem.W.fnOf "row_of" "row_of" (qAs qFw) (qAo qFw) (qAb qFw) .none kV2 dc2 pm2 an2 cd2 ct2),sl2⟩) (c2:PySem.W.codeIn K cd2 "row_of" = true) (k2:PySem.W.keepIn K (.ref f2)=true)
  (a3:PySem.W.nsIn K mainGlobals "lessened" = some (some (.ref f3))) (l3:K.lookup f3=some ⟨oc3,od3,.func (PySem.W.fnOf "lessened" "lessened" (qAs sLess) (qAo sLess) (qAb sLess) .none kV3 dc3 pm3 an3 cd3 ct3),sl3⟩) (c3:PySem.W.codeIn K cd3 "lessened" = true) (k3:PySem.W.keepIn K (.ref f3)=true)
  (a4:PySem.W.nsIn K mainGlobals "reduced" = some (some (.ref f4))) (l4:K.lookup f4=some ⟨oc4,od4,.func (PySem.W.fnOf "reduced" "reduced" (qAs sRedu) (qAo sRedu) (qAb sRedu) .none kV4 dc4 pm4 an4 cd4 ct4),sl4⟩) (c4:PySem.W.codeIn K cd4 "reduced" = true) (k4:PySem.W.keepIn K (.ref f4)=true)
  (a5:PySem.W.nsIn K mainGlobals "sums" = some (some (.ref f5))) (l5:K.lookup f5=some ⟨oc5,od5,.func (PySem.W.fnOf "sums" "sums" (qAs sSums) (qAo sSums) (qAb sSums) .none kV5 dc5 pm5 an5 cd5 ct5),sl5⟩) (c5:PySem.W.codeIn K cd5 "sums" = true) (k5:PySem.W.keepIn K (.ref f5)=true)
  (a6:PySem.W.nsIn K mainGlobals "lead_of" = some (some (.ref f6))) (l6:K.lookup f6=some ⟨oc6,od6,.func (PySem.W.fnOf "lead_of" "lead_of" (qAs sLead) (qAo sLead) (qAb sLead) .none kV6 dc6 pm6 an6 cd6 ct6),sl6⟩) (c6:PySem.W.codeIn K cd6 "lead_of" = true) (k6:PySem.W.keepIn K (.ref f6)=true)
  (a7:PySem.W.nsIn K mainGlobals "crossed_masks" = some (some (.ref f7))) (l7:K.lookup f7=some ⟨oc7,od7,.func (PySem.W.fnOf "crossed_masks" "crossed_masks" (qAs sCrM) (qAo sCrM) (qAb sCrM) .none kV7 dc7 pm7 an7 cd7 ct7),sl7⟩) (c7:PySem.W.codeIn K cd7 "crossed_masks" = true) (k7:PySem.W.keepIn K (.ref f7)=true)
  (a8:PySem.W.nsIn K mainGlobals "table_from" = some (some (.ref f8))) (l8:K.lookup f8=some ⟨oc8,od8,.func (PySem.W.fnOf "table_from" "table_from" (qAs sTabF) (qAo sTabF) (qAb sTabF) .none kV8 dc8 pm8 an8 cd8 ct8),sl8⟩) (c8:PySem.W.codeIn K cd8 "table_from" = true) (k8:PySem.W.keepIn K (.ref f8)=true)
  (a9:PySem.W.nsIn K mainGlobals "step_masks" = some (some (.ref f9))) (l9:K.lookup f9=some ⟨oc9,od9,.func (PySem.W.fnOf "step_masks" "step_masks" (qAs qFu) (qAo qFu) (qAb qFu) .none kV9 dc9 pm9 an9 cd9 ct9),sl9⟩) (c9:PySem.W.codeIn K cd9 "step_masks" = true) (k9:PySem.W.keepIn K (.ref f9)=true)
  (a10:PySem.W.nsIn K mainGlobals "crossed" = some (some (.ref f10))) (l10:K.lookup f10=some ⟨oc10,od10,.func (PySem.W.fnOf "crossed" "crossed" (qAs qGt) (qAo qGt) (qAb qGt) .none kV10 dc10 pm10 an10 cd10 ct10),sl10⟩) (c10:PySem.W.codeIn K cd10 "crossed" = true) (k10:PySem.W.keepIn K (.ref f10)=true)
  (a11:PySem.W.nsIn K mainGlobals "ties_of" = some (some (.ref f11))) (l11:K.lookup f11=some ⟨oc11,od11,.func (PySem.W.fnOf "ties_of" "ties_of" (qAs sTies) (qAo sTies) (qAb sTies) .none kV11 dc11 pm11 an11 cd11 ct11),sl11⟩) (c11:PySem.W.codeIn K cd11 "ties_of" = true) (k11:PySem.W.keepIn K (.ref f11)=true)
  (a12:PySem.W.nsIn K mainGlobals "points" = some (some (.ref f12))) (l12:K.lookup f12=some ⟨oc12,od12,.func (PySem.W.fnOf "points" "points" (qAs qDk) (qAo qDk) (qAb qDk) .none kV12 dc12 pm12 an12 cd12 ct12),sl12⟩) (c12:PySem.W.codeIn K cd12 "points" = true) (k12:PySem.W.keepIn K (.ref f12)=true)
  (a13:PySem.W.nsIn K mainGlobals "star" = some (some (.ref f13))) (l13:K.lookup f13=some ⟨oc13,od13,.func (PySem.W.fnOf "star" "star" (qAs sStar) (qAo sStar) (qAb sStar) .none kV13 dc13 pm13 an13 cd13 ct13),sl13⟩) (c13:PySem.W.codeIn K cd13 "star" = true) (k13:PySem.W.keepIn K (.ref f13)=true)
  (a14:PySem.W.nsIn K mainGlobals "stars" = some (some (.ref f14))) (l14:K.lookup f14=some ⟨oc14,od14,.func (PySem.W.fnOf "stars" "stars" (qAs qFv) (qAo qFv) (qAb qFv) .none kV14 dc14 pm14 an14 cd14 ct14),sl14⟩) (c14:PySem.W.codeIn K cd14 "stars" = true) (k14:PySem.W.keepIn K (.ref f14)=true)
  (a15:PySem.W.nsIn K mainGlobals "homes" = some (some (.ref f15))) (l15:K.lookup f15=some ⟨oc15,od15,.func (PySem.W.fnOf "homes" "homes" (qAs qEu) (qAo qEu) (qAb qEu) .none kV15 dc15 pm15 an15 cd15 ct15),sl15⟩) (c15:PySem.W.codeIn K cd15 "homes" = true) (k15:PySem.W.keepIn K (.ref f15)=true)
  (a16:PySem.W.nsIn K mainGlobals "pieces" = some (some (.ref f16))) (l16:K.lookup f16=some ⟨oc16,od16,.func (PySem.W.fnOf "pieces" "pieces" (qAs qEe) (qAo qEe) (qAb qEe) .none kV16 dc16 pm16 an16 cd16 ct16),sl16⟩) (c16:PySem.W.codeIn K cd16 "pieces" = true) (k16:PySem.W.keepIn K (.ref f16)=true)
  (a17:PySem.W.nsIn K mainGlobals "met_once" = some (some (.ref f17))) (l17:K.lookup f17=some ⟨oc17,od17,.func (PySem.W.fnOf "met_once" "met_once" (qAs sMet) (qAo sMet) (qAb sMet) .none kV17 dc17 pm17 an17 cd17 ct17),sl17⟩) (c17:PySem.W.codeIn K cd17 "met_once" = true) (k17:PySem.W.keepIn K (.ref f17)=true)
  (a18:PySem.W.nsIn K mainGlobals "table_of" = some (some (.ref f18))) (l18:K.lookup f18=some ⟨oc18,od18,.func (PySem.W.fnOf "table_of" "table_of" (qAs qFt) (qAo qFt) (qAb qFt) .none kV18 dc18 pm18 an18 cd18 ct18),sl18⟩) (c18:PySem.W.codeIn K cd18 "table_of" = true) (k18:PySem.W.keepIn K (.ref f18)=true)
  (a19:PySem.W.nsIn K mainGlobals "is_one_round" = some (some (.ref f19))) (l19:K.lookup f19=some ⟨oc19,od19,.func (PySem.W.fnOf "is_one_round" "is_one_round" (qAs sOne) (qAo sOne) (qAb sOne) .none kV19 dc19 pm19 an19 cd19 ct19),sl19⟩) (c19:PySem.W.codeIn K cd19 "is_one_round" = true) (k19:PySem.W.keepIn K (.ref f19)=true)
  (a20:PySem.W.nsIn K mainGlobals "walk" = some (some (.ref f20))) (l20:K.lookup f20=some ⟨oc20,od20,.func (PySem.W.fnOf "walk" "walk" (qAs qFs) (qAo qFs) (qAb qFs) .none kV20 dc20 pm20 an20 cd20 ct20),sl20⟩) (c20:PySem.W.codeIn K cd20 "walk" = true) (k20:PySem.W.keepIn K (.ref f20)=true)
  (a21:PySem.W.nsIn K mainGlobals "in_order" = some (some (.ref f21))) (l21:K.lookup f21=some ⟨oc21,od21,.func (PySem.W.fnOf "in_order" "in_order" (qAs qEt) (qAo qEt) (qAb qEt) .none kV21 dc21 pm21 an21 cd21 ct21),sl21⟩) (c21:PySem.W.codeIn K cd21 "in_order" = true) (k21:PySem.W.keepIn K (.ref f21)=true)
  (a22:PySem.W.nsIn K mainGlobals "round_masks" = some (some (.ref f22))) (l22:K.lookup f22=some ⟨oc22,od22,.func (PySem.W.fnOf "round_masks" "round_masks" (qAs sRMas) (qAo sRMas) (qAb sRMas) .none kV22 dc22 pm22 an22 cd22 ct22),sl22⟩) (c22:PySem.W.codeIn K cd22 "round_masks" = true) (k22:PySem.W.keepIn K (.ref f22)=true)
  (a23:PySem.W.nsIn K mainGlobals "rounds" = some (some (.ref f23))) (l23:K.lookup f23=some ⟨oc23,od23,.func (PySem.W.fnOf "rounds" "rounds" (qAs qDj) (qAo qDj) (qAb qDj) .none kV23 dc23 pm23 an23 cd23 ct23),sl23⟩) (c23:PySem.W.codeIn K cd23 "rounds" = true) (k23:PySem.W.keepIn K (.ref f23)=true)
  (a24:PySem.W.nsIn K mainGlobals "_law_cell_at" = some (some (.ref f24))) (l24:K.lookup f24=some ⟨oc24,od24,.func (PySem.W.fnOf "_law_cell_at" "_law_cell_at" (qAs sCell) (qAo sCell) (qAb sCell) .none kV24 dc24 pm24 an24 cd24 ct24),sl24⟩) (c24:PySem.W.codeIn K cd24 "_law_cell_at" = true) (k24:PySem.W.keepIn K (.ref f24)=true)
  (a25:PySem.W.nsIn K mainGlobals "_law_big" = some (some (.ref f25))) (l25:K.lookup f25=some ⟨oc25,od25,.func (PySem.W.fnOf "_law_big" "_law_big" (qAs sBig) (qAo sBig) (qAb sBig) .none kV25 dc25 pm25 an25 cd25 ct25),sl25⟩) (c25:PySem.W.codeIn K cd25 "_law_big" = true) (k25:PySem.W.keepIn K (.ref f25)=true)
  (a26:PySem.W.nsIn K mainGlobals "_law_names" = some (some (.ref f26))) (l26:K.lookup f26=some ⟨oc26,od26,.func (PySem.W.fnOf "_law_names" "_law_names" (qAs qFx) (qAo qFx) (qAb qFx) .none kV26 dc26 pm26 an26 cd26 ct26),sl26⟩) (c26:PySem.W.codeIn K cd26 "_law_names" = true) (k26:PySem.W.keepIn K (.ref f26)=true)
  (a27:PySem.W.nsIn K mainGlobals "_law_ends" = some (some (.ref f27))) (l27:K.lookup f27=some ⟨oc27,od27,.func (PySem.W.fnOf "_law_ends" "_law_ends" (qAs sEnds) (qAo sEnds) (qAb sEnds) .none kV27 dc27 pm27 an27 cd27 ct27),sl27⟩) (c27:PySem.W.codeIn K cd27 "_law_ends" = true) (k27:PySem.W.keepIn K (.ref f27)=true)
  (a28:PySem.W.nsIn K mainGlobals "_law_net" = some (some (.ref f28))) (l28:K.lookup f28=some ⟨oc28,od28,.func (PySem.W.fnOf "_law_net" "_law_net" (qAs sNet) (qAo sNet) (qAb sNet) .none kV28 dc28 pm28 an28 cd28 ct28),sl28⟩) (c28:PySem.W.codeIn K cd28 "_law_net" = true) (k28:PySem.W.keepIn K (.ref f28)=true)
  (a29:PySem.W.nsIn K mainGlobals "_law_row" = some (some (.ref f29))) (l29:K.lookup f29=some ⟨oc29,od29,.func (PySem.W.fnOf "_law_row" "_law_row" (qAs sLRow) (qAo sLRow) (qAb sLRow) .none kV29 dc29 pm29 an29 cd29 ct29),sl29⟩) (c29:PySem.W.codeIn K cd29 "_law_row" = true) (k29:PySem.W.keepIn K (.ref f29)=true)
  (a30:PySem.W.nsIn K mainGlobals "_law_can" = some (some (.ref f30))) (l30:K.lookup f30=some ⟨oc30,od30,.func (PySem.W.fnOf "_law_can" "_law_can" (qAs sLCan) (qAo sLCan) (qAb sLCan) .none kV30 dc30 pm30 an30 cd30 ct30),sl30⟩) (c30:PySem.W.codeIn K cd30 "_law_can" = true) (k30:PySem.W.keepIn K (.ref f30)=true)
  (a31:PySem.W.nsIn K mainGlobals "_law_bent" = some (some (.ref f31))) (l31:K.lookup f31=some ⟨oc31,od31,.func (PySem.W.fnOf "_law_bent" "_law_bent" (qAs qGs) (qAo qGs) (qAb qGs) .none kV31 dc31 pm31 an31 cd31 ct31),sl31⟩) (c31:PySem.W.codeIn K cd31 "_law_bent" = true) (k31:PySem.W.keepIn K (.ref f31)=true)
  (a32:PySem.W.nsIn K mainGlobals "_law_strange" = some (some (.ref f32))) (l32:K.lookup f32=some ⟨oc32,od32,.func (PySem.W.fnOf "_law_strange" "_law_strange" (qAs qEs) (qAo qEs) (qAb qEs) .none kV32 dc32 pm32 an32 cd32 ct32),sl32⟩) (c32:PySem.W.codeIn K cd32 "_law_strange" = true) (k32:PySem.W.keepIn K (.ref f32)=true)
  (a33:PySem.W.nsIn K mainGlobals "law" = some (some (.ref f33))) (l33:K.lookup f33=some ⟨oc33,od33,.func (PySem.W.fnOf "law" "law" (qAs sLaw) (qAo sLaw) (qAb sLaw) .none kV33 dc33 pm33 an33 cd33 ct33),sl33⟩) (c33:PySem.W.codeIn K cd33 "law" = true) (k33:PySem.W.keepIn K (.ref f33)=true)
  (z1:PySem.W.nsIn K mainGlobals "ValueError" = some none)
  (z2:PySem.W.nsIn K mainGlobals "abs" = some none)
  (z3:PySem.W.nsIn K mainGlobals "all" = some none)
  (z4:PySem.W.nsIn K mainGlobals "any" = some none)
  (z5:PySem.W.nsIn K mainGlobals "enumerate" = some none)
  (z6:PySem.W.nsIn K mainGlobals "isinstance" = some none)
  (z7:PySem.W.nsIn K mainGlobals "len" = some none)
  (z8:PySem.W.nsIn K mainGlobals "list" = some none)
  (z9:PySem.W.nsIn K mainGlobals "min" = some none)
  (z10:PySem.W.nsIn K mainGlobals "range" = some none)
  (z11:PySem.W.nsIn K mainGlobals "set" = some none)
  (z12:PySem.W.nsIn K mainGlobals "sorted" = some none)
  (z13:PySem.W.nsIn K mainGlobals "sum" = some none)
  (z14:PySem.W.nsIn K mainGlobals "tuple" = some none)
  (z15:PySem.W.nsIn K mainGlobals "zip" = some none)
  (y1:PySem.W.nsIn K mainGlobals "NoRound" = some (some (.ref C))) (y2:PySem.W.excIn K C vB "ValueError.__new__" = true) (y3:PySem.W.nsIn K mainGlobals "RoundError" = some (some (.ref R))) (y4:PySem.W.exmOne K (.ref C) (.ref R)=some true) (y5:PySem.W.kitOne K (.ref C) (.type "ValueError")=some true)
  (x1:PySem.W.clsIn K C=some cdC) (x2:PySem.W.findIn K (.ref C) "__getattribute__" = some (some (.builtin "BaseException.__getattribute__"))) (x3:PySem.W.findIn K (.ref C) "__getattr__" = some none) (x4:PySem.W.findIn K (.ref C) "__class__" = some (some (.builtin "object.__class__")))
  (x5:PySem.W.specialIn K (.builtin "object.__class__") "__get__" = some (some (.builtin "getset_descriptor.__get__"))) (x6:PySem.W.takesIn K (.builtin "object.__class__")=some true) (x7:PySem.W.mroIn K C (.type "object")=some true) (x8:PySem.W.mroIn K C (.type "BaseException")=some true)
  (v1:PySem.W.nsIn K mainGlobals "NoMatch" = some (some (.ref e1))) (w1:PySem.W.kitOne K (.ref C) (.ref e1)=some false)
  (v2:PySem.W.nsIn K mainGlobals "NoName" = some (some (.ref e2))) (w2:PySem.W.kitOne K (.ref C) (.ref e2)=some false)
  (v3:PySem.W.nsIn K mainGlobals "NoNet" = some (some (.ref e3))) (w3:PySem.W.kitOne K (.ref C) (.ref e3)=some false)
  (v4:PySem.W.nsIn K mainGlobals "NoStep" = some (some (.ref e4))) (w4:PySem.W.kitOne K (.ref C) (.ref e4)=some false)
  (v5:PySem.W.nsIn K mainGlobals "NoText" = some (some (.ref e5))) (w5:PySem.W.kitOne K (.ref C) (.ref e5)=some false)
  (v6:PySem.W.nsIn K mainGlobals "NoTie" = some (some (.ref e6))) (w6:PySem.W.kitOne K (.ref C) (.ref e6)=some false)
  (v7:PySem.W.nsIn K mainGlobals "TooMany" = some (some (.ref e7))) (w7:PySem.W.kitOne K (.ref C) (.ref e7)=some false)
  : ∃ fd:FuncData,(∀ (s:Shared) (v:Value),BindsTo s fd ⟨[v],[]⟩ [("_law_script",v)])/\∀ base:Heap,K.In base->base.Ns mainGlobals mg->PySem.W.CodeHd base c T->base.BuiltinsAt mg T->FnOk l.prog w K mg base CX0 7 fa fd ["_law_script"] (spLaw K T):=by
 have e:=hfa.symm.trans (hAl X G a33);cases e;have F1:=qA2 (st:=sMask) l1 c1 k1;have F2:=qA2 (st:=qFw) l2 c2 k2;have F3:=qA2 (st:=sLess) l3 c3 k3;have F4:=qA2 (st:=sRedu) l4 c4 k4;have F5:=qA2 (st:=sSums) l5 c5 k5;have F6:=qA2 (st:=sLead) l6 c6 k6;have F7:=qA2 (st:=sCrM) l7 c7 k7;have F8:=qA2 (st:=sTabF) l8 c8 k8;have F9:=qA2 (st:=qFu) l9 c9 k9;have F10:=qA2 (st:=qGt) l10 c10 k10;have F11:=qA2 (st:=sTies) l11 c11 k11;have F12:=qA2 (st:=qDk) l12 c12 k12;have F13:=qA2 (st:=sStar) l13 c13 k13;have F14:=qA2 (st:=qFv) l14 c14 k14;have F15:=qA2 (st:=qEu) l15 c15 k15;have F16:=qA2 (st:=qEe) l16 c16 k16;have F17:=qA2 (st:=sMet) l17 c17 k17;have F18:=qA2 (st:=qFt) l18 c18 k18;have F19:=qA2 (st:=sOne) l19 c19 k19;have F20:=qA2 (st:=qFs) l20 c20 k20;have F21:=qA2 (st:=qEt) l21 c21 k21;have F22:=qA2 (st:=sRMas) l22 c22 k22;have F23:=qA2 (st:=qDj) l23 c23 k23;have F24:=qA2 (st:=sCell) l24 c24 k24;have F25:=qA2 (st:=sBig) l25 c25 k25;have F26:=qA2 (st:=qFx) l26 c26 k26;have F27:=qA2 (st:=sEnds) l27 c27 k27;have F28:=qA2 (st:=sNet) l28 c28 k28;have F29:=qA2 (st:=sLRow) l29 c29 k29;have F30:=qA2 (st:=sLCan) l30 c30 k30;have F31:=qA2 (st:=qGs) l31 c31 k31;have F32:=qA2 (st:=qEs) l32 c32 k32;have F33:=qA2 (st:=sLaw) l33 c33 k33;have b1:=F1.binds (ps:=["names","row"]) fun _ _ _ _ _ _ us hl=>by obtain⟨_,_,rfl⟩:=zl2 hl;rfl
 have m1:=hAl X G a1;have b2:=F2.binds (ps:=["names","mask"]) fun _ _ _ _ _ _ us hl=>by obtain⟨_,_,rfl⟩:=zl2 hl;rfl
 have m2:=hAl X G a2;have b3:=F3.binds (ps:=["mask","kept"]) fun _ _ _ _ _ _ us hl=>by obtain⟨_,_,rfl⟩:=zl2 hl;rfl
 have m3:=hAl X G a3;have b4:=F4.binds (ps:=["masks"]) fun _ _ _ _ _ _ us hl=>by obtain⟨_,rfl⟩:=zl1 hl;rfl
 have m4:=hAl X G a4;have b5:=F5.binds (ps:=["masks"]) fun _ _ _ _ _ _ us hl=>by obtain⟨_,rfl⟩:=zl1 hl;rfl
 have m5:=hAl X G a5;have b6:=F6.binds (ps:=["mask"]) fun _ _ _ _ _ _ us hl=>by obtain⟨_,rfl⟩:=zl1 hl;rfl
 have m6:=hAl X G a6;have b7:=F7.binds (ps:=["steps","width"]) fun _ _ _ _ _ _ us hl=>by obtain⟨_,_,rfl⟩:=zl2 hl;rfl
 have m7:=hAl X G a7;have b8:=F8.binds (ps:=["names","masks"]) fun _ _ _ _ _ _ us hl=>by obtain⟨_,_,rfl⟩:=zl2 hl;rfl
 have m8:=hAl X G a8;have b9:=F9.binds (ps:=["table"]) fun _ _ _ _ _ _ us hl=>by obtain⟨_,rfl⟩:=zl1 hl;rfl
 have m9:=hAl X G a9;have b10:=F10.binds (ps:=["table"]) fun _ _ _ _ _ _ us hl=>by obtain⟨_,rfl⟩:=zl1 hl;rfl
 have m10:=hAl X G a10;have b11:=F11.binds (ps:=["net"]) fun _ _ _ _ _ _ us hl=>by obtain⟨_,rfl⟩:=zl1 hl;rfl
 have m11:=hAl X G a11;have b12:=F12.binds (ps:=["net"]) fun _ _ _ _ _ _ us hl=>by obtain⟨_,rfl⟩:=zl1 hl;rfl
 have m12:=hAl X G a12;have b13:=F13.binds (ps:=["net","point"]) fun _ _ _ _ _ _ us hl=>by obtain⟨_,_,rfl⟩:=zl2 hl;rfl
 have m13:=hAl X G a13;have b14:=F14.binds (ps:=["net"]) fun _ _ _ _ _ _ us hl=>by obtain⟨_,rfl⟩:=zl1 hl;rfl
 have m14:=hAl X G a14;have b15:=F15.binds (ps:=["net"]) fun _ _ _ _ _ _ us hl=>by obtain⟨_,rfl⟩:=zl1 hl;rfl
 have m15:=hAl X G a15;have b16:=F16.binds (ps:=["net"]) fun _ _ _ _ _ _ us hl=>by obtain⟨_,rfl⟩:=zl1 hl;rfl
 have m16:=hAl X G a16;have b17:=F17.binds (ps:=["net","point"]) fun _ _ _ _ _ _ us hl=>by obtain⟨_,_,rfl⟩:=zl2 hl;rfl
 have m17:=hAl X G a17;have b18:=F18.binds (ps:=["net"]) fun _ _ _ _ _ _ us hl=>by obtain⟨_,rfl⟩:=zl1 hl;rfl
 have m18:=hAl X G a18;have b19:=F19.binds (ps:=["net"]) fun _ _ _ _ _ _ us hl=>by obtain⟨_,rfl⟩:=zl1 hl;rfl
 have m19:=hAl X G a19;have b20:=F20.binds (ps:=["net","row"]) fun _ _ _ _ _ _ us hl=>by obtain⟨_,_,rfl⟩:=zl2 hl;rfl
 have m20:=hAl X G a20;have b21:=F21.binds (ps:=["rows"]) fun _ _ _ _ _ _ us hl=>by obtain⟨_,rfl⟩:=zl1 hl;rfl
 have m21:=hAl X G a21;have b22:=F22.binds (ps:=["steps"]) fun _ _ _ _ _ _ us hl=>by obtain⟨_,rfl⟩:=zl1 hl;rfl
 have m22:=hAl X G a22;have b23:=F23.binds (ps:=["table"]) fun _ _ _ _ _ _ us hl=>by obtain⟨_,rfl⟩:=zl1 hl;rfl
 have m23:=hAl X G a23;have b24:=F24.binds (ps:=["_law_script","_law_k"]) fun _ _ _ _ _ _ us hl=>by obtain⟨_,_,rfl⟩:=zl2 hl;rfl
 have m24:=hAl X G a24;have b25:=F25.binds (ps:=["_law_script","_law_k"]) fun _ _ _ _ _ _ us hl=>by obtain⟨_,_,rfl⟩:=zl2 hl;rfl
 have m25:=hAl X G a25;have b26:=F26.binds (ps:=["_law_big_here","_law_many"]) fun _ _ _ _ _ _ us hl=>by obtain⟨_,_,rfl⟩:=zl2 hl;rfl
 have m26:=hAl X G a26;have b27:=F27.binds (ps:=["_law_big_here","_law_many","_law_spread"]) fun _ _ _ _ _ _ us hl=>by obtain⟨_,_,_,rfl⟩:=zl3 hl;rfl
 have m27:=hAl X G a27;have b28:=F28.binds (ps:=["_law_script","_law_at"]) fun _ _ _ _ _ _ us hl=>by obtain⟨_,_,rfl⟩:=zl2 hl;rfl
 have m28:=hAl X G a28;have b29:=F29.binds (ps:=["_law_names_here","_law_number"]) fun _ _ _ _ _ _ us hl=>by obtain⟨_,_,rfl⟩:=zl2 hl;rfl
 have m29:=hAl X G a29;have b30:=F30.binds (ps:=["_law_net_here","_law_row_here"]) fun _ _ _ _ _ _ us hl=>by obtain⟨_,_,rfl⟩:=zl2 hl;rfl
 have m30:=hAl X G a30;have b31:=F31.binds (ps:=["_law_names_here","_law_rows","_law_big_here"]) fun _ _ _ _ _ _ us hl=>by obtain⟨_,_,_,rfl⟩:=zl3 hl;rfl
 have m31:=hAl X G a31;have b32:=F32.binds (ps:=["_law_net_here","_law_names_here","_law_rows","_law_big_here"]) fun _ _ _ _ _ _ us hl=>by obtain⟨_,_,_,_,rfl⟩:=zl4 hl;rfl
 have m32:=hAl X G a32;have n_ValueError:=hB4 X G z1;have n_abs:=hB4 X G z2;have n_all:=hB4 X G z3;have n_any:=hB4 X G z4;have n_enumerate:=hB4 X G z5;have n_isinstance:=hB4 X G z6;have n_len:=hB4 X G z7;have n_list:=hB4 X G z8;have n_min:=hB4 X G z9;have n_range:=hB4 X G z10;have n_set:=hB4 X G z11;have n_sorted:=hB4 X G z12;have n_sum:=hB4 X G z13;have n_tuple:=hB4 X G z14;have n_zip:=hB4 X G z15;refine⟨PySem.W.fnOf "law" "law" (qAs sLaw) (qAo sLaw) (qAb sLaw) .none kV33 dc33 pm33 an33 cd33 ct33,fun s v=>.of_eq rfl,fun base kb nb hC hB=>?_⟩;have O:=own_in kb nb y1 y2;have Z:Refs K mg C R:=⟨⟨by rw[x1];rfl,x2,x3,x4,x5,x6,x7,x8⟩,hAl X G y3,y4,hAl X G y1,n_ValueError,y5,n_isinstance,⟨e1,hAl X G v1,w1⟩,⟨e2,hAl X G v2,w2⟩,⟨e3,hAl X G v3,w3⟩,⟨e4,hAl X G v4,w4⟩,⟨e5,hAl X G v5,w5⟩,⟨e6,hAl X G v6,w6⟩,⟨e7,hAl X G v7,w7⟩⟩;have g1:=ok_mask (P:=l.prog) (w:=w) (mg:=mg) (base:=base) F1;have g2:=ok_rowOf (P:=l.prog) (w:=w) (base:=base) F2  n_len n_enumerate;have g3:=ok_less (P:=l.prog) (w:=w) (base:=base) F3  n_min;have g4:=ok_redu (P:=l.prog) (w:=w) (base:=base) F4 ⟨g3,b3,k3,m3⟩ n_min n_sorted;have g5:=ok_sums (P:=l.prog) (w:=w) (mg:=mg) (base:=base) F5;have g6:=ok_lead (P:=l.prog) (w:=w) (mg:=mg) (base:=base) F6;have g7:=ok_crM (P:=l.prog) (w:=w) (base:=base) F7 ⟨g6,b6,k6,m6⟩ n_sum n_range;have g8:=ok_tabF (P:=l.prog) (w:=w) (base:=base) F8 ⟨g2,b2,k2,m2⟩ ⟨g4,b4,k4,m4⟩ n_list;have g9:=ok_stepM (P:=l.prog) (w:=w) (base:=base) F9 ⟨g1,b1,k1,m1⟩ ⟨g4,b4,k4,m4⟩;have g10:=ok_cross (P:=l.prog) (w:=w) (base:=base) F10 ⟨g8,b8,k8,m8⟩ ⟨g7,b7,k7,m7⟩ ⟨g9,b9,k9,m9⟩ n_len;have g11:=ok_ties (P:=l.prog) (w:=w) (mg:=mg) (base:=base) F11;have g12:=ok_points (P:=l.prog) (w:=w) (base:=base) F12  n_sorted;have g13:=ok_star (P:=l.prog) (w:=w) (mg:=mg) (base:=base) F13;have g14:=ok_stars (P:=l.prog) (w:=w) (base:=base) F14 ⟨g12,b12,k12,m12⟩ ⟨g13,b13,k13,m13⟩ n_sorted;have g15:=ok_homes (P:=l.prog) (w:=w) (base:=base) F15 ⟨g12,b12,k12,m12⟩;have g16:=ok_pieces (P:=l.prog) (w:=w) (base:=base) F16 ⟨g15,b15,k15,m15⟩ n_list;have g17:=ok_met (P:=l.prog) (w:=w) (mg:=mg) (base:=base) F17;have g18:=ok_table (P:=l.prog) (w:=w) (base:=base) F18 ⟨g10,b10,k10,m10⟩ ⟨g11,b11,k11,m11⟩ ⟨g17,b17,k17,m17⟩ ⟨g12,b12,k12,m12⟩;have g19:=ok_one (P:=l.prog) (w:=w) (base:=base) F19 ⟨g16,b16,k16,m16⟩ ⟨g14,b14,k14,m14⟩ n_len n_all;have g20:=ok_walk (P:=l.prog) (w:=w) (base:=base) F20 ⟨g11,b11,k11,m11⟩ ⟨g19,b19,k19,m19⟩;have g21:=ok_inOrd (P:=l.prog) (w:=w) (base:=base) F21 (code_of F21 a21 ht) hC hB  n_len n_sorted;have g22:=ok_rmas (P:=l.prog) (w:=w) (base:=base) F22 ⟨g5,b5,k5,m5⟩ n_sorted n_any;have g23:=ok_rounds (P:=l.prog) (w:=w) (base:=base) F23 ⟨g21,b21,k21,m21⟩ ⟨g22,b22,k22,m22⟩ ⟨g9,b9,k9,m9⟩ ⟨g2,b2,k2,m2⟩;have g24:=ok_cell (P:=l.prog) (w:=w) (base:=base) F24  n_len;have g25:=ok_big (P:=l.prog) (w:=w) (base:=base) F25 ⟨g24,b24,k24,m24⟩ n_range n_abs;have g26:=ok_names (P:=l.prog) (w:=w) (base:=base) F26  n_range n_len;have g27:=ok_ends (P:=l.prog) (w:=w) (base:=base) F27  n_range n_len n_list;have g28:=ok_net (P:=l.prog) (w:=w) (base:=base) F28 ⟨g25,b25,k25,m25⟩ ⟨g27,b27,k27,m27⟩ ⟨g26,b26,k26,m26⟩ n_len n_zip n_tuple n_sorted;have g29:=ok_lrow (P:=l.prog) (w:=w) (base:=base) F29  n_enumerate;have h20:=ok_walkX (P:=l.prog) (w:=w) (base:=base) F20 PySem.F.excBase_ValueError PySem.F.excBase_ValueError O ⟨g11,b11,k11,m11⟩ ⟨g19,b19,k19,m19⟩;have g30:=L2.FnOk.or (ok_lcanT (P:=l.prog) (w:=w) (base:=base) F30 Z ⟨g20,b20,k20,m20⟩ n_list n_len) (ok_lcanF (P:=l.prog) (w:=w) (base:=base) F30 Z ⟨h20,b20,k20,m20⟩);have g31:=ok_bent (P:=l.prog) (w:=w) (base:=base) F31 ⟨g29,b29,k29,m29⟩ n_len n_sorted n_set;have g32:=ok_stra (P:=l.prog) (w:=w) (base:=base) F32 ⟨g26,b26,k26,m26⟩ n_len n_sorted;exact ok_law F33 ⟨g28,b28,k28,m28⟩ ⟨g23,b23,k23,m23⟩ ⟨g18,b18,k18,m18⟩ ⟨g31,b31,k31,m31⟩ ⟨g32,b32,k32,m32⟩ ⟨g30,b30,k30,m30⟩ ⟨g25,b25,k25,m25⟩ n_list n_range n_all
theorem walk {l:PySem.W.OpenLaw} {q:Program} {loose:List Str} {XP:(Str->Option Value)->Heap->Prop} {YP:World->Heap->Prop} {d dr:DefRec} {K:Params->PySem.W.Frag} (hn:l.most=some 63) (hdf:d.params.defaults=[])
  (hY:∀ (w:World) (h:Heap),YP w h->(K w.params).In h) (hrec:(PyProof.Rows.recsOf q).find? (fun e=>e.name == ("in_order" : Str))=some dr)
  (hK:∀ w:World,∃ c T,PySem.W.tabIn (K w.params) "in_order" = some (c,T)/\PySem.W.noTabs (K w.params)=true)
  (F:∀ (w:World) (mg:Str->Option Value) (fa:Addr) (h:Heap) (c T:Addr),(K w.params).In h->h.Ns mainGlobals mg->mg d.name=some (.ref fa)->PySem.W.tabIn (K w.params) "in_order" = some (c,T) ->
   ∃ fd:FuncData,(∀ (s:Shared) (u:Value),BindsTo s fd ⟨[u],[]⟩ [("_law_script",u)])/\∀ base:Heap,(K w.params).In base->base.Ns mainGlobals mg->PySem.W.CodeHd base c T->base.BuiltinsAt mg T->FnOk l.prog w (K w.params) mg base CX0 7 fa fd ["_law_script"] (spLaw (K w.params) T)) :
  PySem.W.WalkO q loose XP YP l.row.toRowW d [] (fun f vs=>PySem.call f vs) :=
 L2.walk_ofT (n:=63) (k:=7) (x:="_law_script") (CX:=fun _=>CX0) (sp:=fun w T=>spLaw (K w.params) T) hn (by decide) hdf ⟨rfl,by decide,by decide,rfl⟩ hY hrec hK F (fun _ _ _ a ns hl hT hS=>⟨a,ns,rfl,hS,hl,hT,fun _=>rfl⟩) fun _ _ _ _ _ z=>z
theorem tab_mk {K:PySem.W.Frag} {x:Str} {f c T:Addr} {ob ob2:Obj} {fd:FuncData} {vs:Array Value} (a:PySem.W.nsIn K mainGlobals x=some (some (.ref f))) (l:K.lookup f=some ob) (e1:ob.data = .func fd) (e2:fd.code = .ref c) (l2:K.lookup c=some ob2) (e3:ob2.data = .fields vs) (e4:(vs[11]?:Option Value)=some (.ref T)):PySem.W.tabIn K x=some (c,T):=by
 obtain⟨o1,o2,o3,o4⟩:=ob;obtain⟨p1,p2,p3,p4⟩:=ob2;cases e1;cases e3;unfold PySem.W.tabIn;rw[a];dsimp only;rw[l];dsimp only;rw[e2];dsimp only;rw[l2];dsimp only;rw[e4]
end My
namespace PySem.W.Fast
def tw10090283770417850230 := 0
def tw10096897495923986093 := 0
def tw10138204283563537192 := 0
def tw10156290596545794805 := 0
def tw10166990225616502078 := 0
def tw10167850690335362989 := 0
def tw10207576926260965636 := 0
def tw10265150778330473810 := 0
def tw10267444429193957879 := 0
def tw10365495377655895942 := 0
def tw10428447009365563117 := 0
def tw10430790780441768642 := 0
def tw10521601315714813074 := 0
def tw1056268307293050093 := 0
def tw10638114404534126302 := 0
def tw10816318050100633784 := 0
def tw10870600725872243621 := 0
def tw10875222335463757125 := 0
def tw10927821794542634033 := 0
def tw10928671910034344705 := 0
def tw10946515234810150842 := 0
def tw10989996820770375414 := 0
def tw1108260717463955441 := 0
def tw11144788266390040396 := 0
def tw11150484106734643645 := 0
def tw11239228904026601719 := 0
def tw11339481040274296251 := 0
def tw11347747205700612922 := 0
def tw11445482382123944027 := 0
def tw11454844189698704334 := 0
def tw11621347866184537153 := 0
def tw11673644257932735562 := 0
def tw11728761573951686560 := 0
def tw11745672350765595493 := 0
def tw11913831133808510694 := 0
def tw11933871989245844174 := 0
def tw1200683055448149665 := 0
def tw12058393008135449644 := 0
def tw12140519332834428787 := 0
def tw12185574612467807938 := 0
def tw12191830455881495013 := 0
def tw12245418819356365355 := 0
def tw12254382761634334927 := 0
def tw12270845302682911935 := 0
def tw12278463552221345436 := 0
def tw12292821231521678002 := 0
def tw12351599813024643349 := 0
def tw12377392849113780695 := 0
def tw12396484241873012407 := 0
def tw12432154062407371105 := 0
def tw12433349490055799897 := 0
def tw12501064213914241103 := 0
def tw12572844004312377134 := 0
def tw12657498437857995901 := 0
def tw12681287991314146142 := 0
def tw1277250183495122735 := 0
def tw12784235304402192278 := 0
def tw12865820336241692853 := 0
def tw1298626920576808353 := 0
def tw13000653129544478205 := 0
def tw13038666460764906679 := 0
def tw13116846173640287705 := 0
def tw1315155265063463936 := 0
def tw13242063246197170362 := 0
def tw13259466866214070034 := 0
def tw1328493360742332312 := 0
def tw13324770444480135736 := 0
def tw1333273758653302870 := 0
def tw13360329773622378004 := 0
def tw13407099180830894963 := 0
def tw13407217438025313060 := 0
def tw1365115283813243554 := 0
def tw13664193409920208802 := 0
def tw13723236890263635929 := 0
def tw13754854618522841327 := 0
def tw13769390491821250854 := 0
def tw13936044930970698814 := 0
def tw13944197458455378744 := 0
def tw14061908301799814613 := 0
def tw14068853492011725564 := 0
def tw14087162131358203701 := 0
def tw14131760995572229706 := 0
def tw1420188627674578252 := 0
def tw14247854674392700232 := 0
def tw14283040197451650804 := 0
def tw14334861541636144049 := 0
def tw14368483269965750860 := 0
def tw14414658080379845758 := 0
def tw14452843460375243537 := 0
def tw14502529519821950928 := 0
def tw14561298544626321975 := 0
def tw14597125347913399893 := 0
def tw14787778844321367521 := 0
def tw14841410181599557711 := 0
def tw14854729303169357757 := 0
def tw14896864436539818527 := 0
def tw14908968938302324842 := 0
def tw14994016859213267844 := 0
def tw15017136326692914065 := 0
def tw15025951595522634386 := 0
def tw15073232098112692097 := 0
def tw15182684961316796466 := 0
def tw15231332131386760335 := 0
def tw15289175766826968664 := 0
def tw15289761451747687017 := 0
def tw15327022399429602684 := 0
def tw1533261205864433896 := 0
def tw15365193967512203383 := 0
def tw15405623407329651648 := 0
def tw15444236594145216582 := 0
def tw15460628579726562759 := 0
def tw15494704286166656097 := 0
def tw15501756553739346175 := 0
def tw15558814861969503416 := 0
def tw15591582629210708149 := 0
def tw15596052758032831279 := 0
def tw15665263091851386572 := 0
def tw15666505013122995977 := 0
def tw15678574424382595981 := 0
def tw15705479602139230729 := 0
def tw15754934574098916419 := 0
def tw15820367516993370548 := 0
def tw15900306358822458318 := 0
def tw15927175022734088453 := 0
def tw1605897889001651498 := 0
def tw16104438806318700262 := 0
def tw16161825156671281105 := 0
def tw16209590132098368858 := 0
def tw16223836900158406091 := 0
def tw16631278163481157582 := 0
def tw16717900854077107523 := 0
def tw16740374513985068733 := 0
def tw16757255009815479300 := 0
def tw16806376828437619885 := 0
def tw16818342891372211577 := 0
def tw16851654037128970152 := 0
def tw16953535220851885453 := 0
def tw16961641749649076468 := 0
def tw16987487313034505804 := 0
def tw1699004641555104692 := 0
def tw16993841498174437508 := 0
def tw16995673158234497900 := 0
def tw17050028839699201943 := 0
def tw17067791036764778636 := 0
def tw17187621565453994796 := 0
def tw17202596154190528622 := 0
def tw17227683728948879950 := 0
def tw17301389372641440791 := 0
def tw17378936114634856016 := 0
def tw17492600799586098555 := 0
def tw17503059292023512698 := 0
def tw17555031146271284698 := 0
def tw17593211150254347054 := 0
def tw17597421570133451843 := 0
def tw17751185283340899732 := 0
def tw17870201153308512801 := 0
def tw17926331840022302371 := 0
def tw17996968456555611641 := 0
def tw18012056669493747666 := 0
def tw1808340230008149161 := 0
def tw18107086545110284407 := 0
def tw18112111183437149453 := 0
def tw18210432563283363486 := 0
def tw18213067503054035556 := 0
def tw18214139418022645723 := 0
def tw18226241353860399238 := 0
def tw18262193691234874443 := 0
def tw18338512871491691114 := 0
def tw18607147625098265 := 0
def tw1897618264727962232 := 0
def tw1909492305889109139 := 0
def tw1910171986515215575 := 0
def tw1919123658832359115 := 0
def tw1922829361952801042 := 0
def tw193759134798139931 := 0
def tw2005440212123704888 := 0
def tw2139861079419011628 := 0
def tw2149903738430836639 := 0
def tw2267937461365889260 := 0
def tw228915412381858228 := 0
def tw2418170293106245649 := 0
def tw2465790631569422098 := 0
def tw269346217180632704 := 0
def tw2705924615555261159 := 0
def tw2782202529920045976 := 0
def tw2870599764272633162 := 0
def tw2917876473488215330 := 0
def tw2926134111427289452 := 0
def tw2997058847811171140 := 0
def tw3001052178537144754 := 0
def tw3040722505985082261 := 0
def tw3147390528063410754 := 0
def tw3170427094487521836 := 0
def tw3219461846296450643 := 0
def tw3326837842835517292 := 0
def tw3347715766040739896 := 0
def tw3371961528551177618 := 0
def tw3381079011217456850 := 0
def tw3432456319867799421 := 0
def tw3443885779675738151 := 0
def tw3485217279528874519 := 0
def tw3531044743391169724 := 0
def tw3612134777201236806 := 0
def tw3692355437358560320 := 0
def tw3732737325310572197 := 0
def tw3741345117804951788 := 0
def tw3768195018002819684 := 0
def tw3787244600592969829 := 0
def tw384725865464367421 := 0
def tw3856093390872856861 := 0
def tw3860875883623258405 := 0
def tw3861885655055219309 := 0
def tw387955031161958791 := 0
def tw3898480190397691961 := 0
def tw390294323267096077 := 0
def tw3931022387795395740 := 0
def tw403449429243123865 := 0
def tw4045619244086782632 := 0
def tw4077488170750476071 := 0
def tw42054170231194069 := 0
def tw4221677500134701945 := 0
def tw4637771530447557469 := 0
def tw4638026166113962885 := 0
def tw4721036935912392401 := 0
def tw4836612162447738188 := 0
def tw4859642744229766479 := 0
def tw4862316313673645286 := 0
def tw4885153847339786026 := 0
def tw4993550556485718021 := 0
def tw5033546171042454528 := 0
def tw5037050804983943859 := 0
def tw5054611198038641666 := 0
def tw5077229395287964758 := 0
def tw5094237748901863857 := 0
def tw5110933223595165180 := 0
def tw514817377944655011 := 0
def tw5157803409561716185 := 0
def tw5253625684340531540 := 0
def tw525672067316463795 := 0
def tw5268601975892510063 := 0
def tw5286559079778149990 := 0
def tw5301035925934400169 := 0
def tw5325448472192686309 := 0
def tw5354509021917121969 := 0
def tw5426361358174846712 := 0
def tw5433576145630075999 := 0
def tw5563308855270646702 := 0
def tw557607638409814612 := 0
def tw5580409443214747443 := 0
def tw5608655340670002599 := 0
def tw5630394222315989601 := 0
def tw5791691600326254372 := 0
def tw5845565419545140056 := 0
def tw5941879880456271429 := 0
def tw6025255527236583774 := 0
def tw6152064396767651779 := 0
def tw6225531646403615026 := 0
def tw6325071758130122601 := 0
def tw6387829433109113652 := 0
def tw6421779438267192107 := 0
def tw6453016150929370084 := 0
def tw6491997988448390914 := 0
def tw6530817329459166901 := 0
def tw6535801856586099389 := 0
def tw6641155664281091251 := 0
def tw669743836306844415 := 0
def tw6850558604076140909 := 0
def tw6886625113721511477 := 0
def tw6900714783643561331 := 0
def tw6998820868846480791 := 0
def tw7000990792270583567 := 0
def tw7064236786656961527 := 0
def tw7111636365171045709 := 0
def tw7123350761454496455 := 0
def tw7159963436022484701 := 0
def tw7196830697497746865 := 0
def tw7198040174723162481 := 0
def tw7225936731322319611 := 0
def tw7268696564852255434 := 0
def tw7286453180014347245 := 0
def tw7289193720384043639 := 0
def tw7327201455734007128 := 0
def tw7444733567264099677 := 0
def tw7466807911133048018 := 0
def tw757972528479425701 := 0
def tw7622230869947104850 := 0
def tw7700396320755614050 := 0
def tw7720666760566206250 := 0
def tw7731819370044109887 := 0
def tw7786773773532939820 := 0
def tw7787663156828233918 := 0
def tw7854382359102295269 := 0
def tw7935397845499216542 := 0
def tw7948877189863844787 := 0
def tw7963701411930983195 := 0
def tw7980900148027234988 := 0
def tw8038033102428834785 := 0
def tw8075863070053979620 := 0
def tw8128601142878188631 := 0
def tw8139251326828630287 := 0
def tw8200109015811457984 := 0
def tw825234665961199550 := 0
def tw8301236374378476030 := 0
def tw8331601583662054826 := 0
def tw836732679252622465 := 0
def tw8424160766099715640 := 0
def tw8457770398954007716 := 0
def tw8477423037306907579 := 0
def tw8622744096136879888 := 0
def tw8667058113918071867 := 0
def tw8694729229064047000 := 0
def tw8724241755442257834 := 0
def tw8792492002966406695 := 0
def tw886938204272383198 := 0
def tw898422111267938997 := 0
def tw9063180599219293003 := 0
def tw9069313370511770125 := 0
def tw9168820543445643694 := 0
def tw9181494693038753372 := 0
def tw9297806165196434741 := 0
def tw9326922556245602754 := 0
def tw9327465531951310782 := 0
def tw9327466980700504744 := 0
def tw938032409836363100 := 0
def tw947642908560409682 := 0
def tw949326768337612306 := 0
def tw9602732299289518517 := 0
def tw9659372607664485068 := 0
def tw9770115519490329094 := 0
def tw9916836942689793516 := 0
def tw9923833527304632948 := 0
def tw9941953248943843053 := 0
def tw9947430205714170277 := 0
end PySem.W.Fast
open PySem PySem.W PyProof.Rows
set_option maxRecDepth 100000 in
set_option maxHeartbeats 0 in
set_option maxHeartbeats 16000000 in
theorem PySem.Challenge.cw_roundsalone_k24_no_walks_holds : PySem.Challenge.rw_roundsalone_k24_no_walks.Holds := by
 w_on;o_law;k_head;(case hw=>w_witness2)
 k_fill
 refine' My.walk (l:=PySem.Challenge.rw_roundsalone_k24_no_walks) rfl rfl (fun w h Y=>PySem.W.km_in_of Y) ?hr ?Kt ?F
 case hr=>rfl
 case Kt =>
  intro w
  refine'⟨_,_,My.tab_mk ?a ?l ?e1 ?e2 ?l2 ?e3 ?e4,?n⟩
  (case a=>k_is)
  (case l=>k_is)
  (case e1=>rfl)
  (case e2=>rfl)
  (case l2=>k_is)
  (case e3=>rfl)
  (case e4=>rfl)
  (case n=>kernel_rfl)
 case F =>
  intro w mg fa h c T KX G hmg ht
  refine' My.all_mk KX G hmg ht ?a1 ?l1 ?c1 ?k1 ?a2 ?l2 ?c2 ?k2 ?a3 ?l3 ?c3 ?k3 ?a4 ?l4 ?c4 ?k4 ?a5 ?l5 ?c5 ?k5 ?a6 ?l6 ?c6 ?k6 ?a7 ?l7 ?c7 ?k7 ?a8 ?l8 ?c8 ?k8 ?a9 ?l9 ?c9 ?k9 ?a10 ?l10 ?c10 ?k10 ?a11 ?l11 ?c11 ?k11 ?a12 ?l12 ?c12 ?k12 ?a13 ?l13 ?c13 ?k13 ?a14 ?l14 ?c14 ?k14 ?a15 ?l15 ?c15 ?k15 ?a16 ?l16 ?c16 ?k16 ?a17 ?l17 ?c17 ?k17 ?a18 ?l18 ?c18 ?k18 ?a19 ?l19 ?c19 ?k19 ?a20 ?l20 ?c20 ?k20 ?a21 ?l21 ?c21 ?k21 ?a22 ?l22 ?c22 ?k22 ?a23 ?l23 ?c23 ?k23 ?a24 ?l24 ?c24 ?k24 ?a25 ?l25 ?c25 ?k25 ?a26 ?l26 ?c26 ?k26 ?a27 ?l27 ?c27 ?k27 ?a28 ?l28 ?c28 ?k28 ?a29 ?l29 ?c29 ?k29 ?a30 ?l30 ?c30 ?k30 ?a31 ?l31 ?c31 ?k31 ?a32 ?l32 ?c32 ?k32 ?a33 ?l33 ?c33 ?k33 ?z1 ?z2 ?z3 ?z4 ?z5 ?z6 ?z7 ?z8 ?z9 ?z10 ?z11 ?z12 ?z13 ?z14 ?z15 ?y1 ?y2 ?y3 ?y4 ?y5 ?x1 ?x2 ?x3 ?x4 ?x5 ?x6 ?x7 ?x8 ?v1 ?w1 ?v2 ?w2 ?v3 ?w3 ?v4 ?w4 ?v5 ?w5 ?v6 ?w6 ?v7 ?w7
  (case a1=>k_is)
  (case l1=>k_is)
  (case c1=>k_is)
  (case k1=>k_is)
  (case a2=>k_is)
  (case l2=>k_is)
  (case c2=>k_is)
  (case k2=>k_is)
  (case a3=>k_is)
  (case l3=>k_is)
  (case c3=>k_is)
  (case k3=>k_is)
  (case a4=>k_is)
  (case l4=>k_is)
  (case c4=>k_is)
  (case k4=>k_is)
  (case a5=>k_is)
  (case l5=>k_is)
  (case c5=>k_is)
  (case k5=>k_is)
  (case a6=>k_is)
  (case l6=>k_is)
  (case c6=>k_is)
  (case k6=>k_is)
  (case a7=>k_is)
  (case l7=>k_is)
  (case c7=>k_is)
  (case k7=>k_is)
  (case a8=>k_is)
  (case l8=>k_is)
  (case c8=>k_is)
  (case k8=>k_is)
  (case a9=>k_is)
  (case l9=>k_is)
  (case c9=>k_is)
  (case k9=>k_is)
  (case a10=>k_is)
  (case l10=>k_is)
  (case c10=>k_is)
  (case k10=>k_is)
  (case a11=>k_is)
  (case l11=>k_is)
  (case c11=>k_is)
  (case k11=>k_is)
  (case a12=>k_is)
  (case l12=>k_is)
  (case c12=>k_is)
  (case k12=>k_is)
  (case a13=>k_is)
  (case l13=>k_is)
  (case c13=>k_is)
  (case k13=>k_is)
  (case a14=>k_is)
  (case l14=>k_is)
  (case c14=>k_is)
  (case k14=>k_is)
  (case a15=>k_is)
  (case l15=>k_is)
  (case c15=>k_is)
  (case k15=>k_is)
  (case a16=>k_is)
  (case l16=>k_is)
  (case c16=>k_is)
  (case k16=>k_is)
  (case a17=>k_is)
  (case l17=>k_is)
  (case c17=>k_is)
  (case k17=>k_is)
  (case a18=>k_is)
  (case l18=>k_is)
  (case c18=>k_is)
  (case k18=>k_is)
  (case a19=>k_is)
  (case l19=>k_is)
  (case c19=>k_is)
  (case k19=>k_is)
  (case a20=>k_is)
  (case l20=>k_is)
  (case c20=>k_is)
  (case k20=>k_is)
  (case a21=>k_is)
  (case l21=>k_is)
  (case c21=>k_is)
  (case k21=>k_is)
  (case a22=>k_is)
  (case l22=>k_is)
  (case c22=>k_is)
  (case k22=>k_is)
  (case a23=>k_is)
  (case l23=>k_is)
  (case c23=>k_is)
  (case k23=>k_is)
  (case a24=>k_is)
  (case l24=>k_is)
  (case c24=>k_is)
  (case k24=>k_is)
  (case a25=>k_is)
  (case l25=>k_is)
  (case c25=>k_is)
  (case k25=>k_is)
  (case a26=>k_is)
  (case l26=>k_is)
  (case c26=>k_is)
  (case k26=>k_is)
  (case a27=>k_is)
  (case l27=>k_is)
  (case c27=>k_is)
  (case k27=>k_is)
  (case a28=>k_is)
  (case l28=>k_is)
  (case c28=>k_is)
  (case k28=>k_is)
  (case a29=>k_is)
  (case l29=>k_is)
  (case c29=>k_is)
  (case k29=>k_is)
  (case a30=>k_is)
  (case l30=>k_is)
  (case c30=>k_is)
  (case k30=>k_is)
  (case a31=>k_is)
  (case l31=>k_is)
  (case c31=>k_is)
  (case k31=>k_is)
  (case a32=>k_is)
  (case l32=>k_is)
  (case c32=>k_is)
  (case k32=>k_is)
  (case a33=>k_is)
  (case l33=>k_is)
  (case c33=>k_is)
  (case k33=>k_is)
  (case z1=>k_is)
  (case z2=>k_is)
  (case z3=>k_is)
  (case z4=>k_is)
  (case z5=>k_is)
  (case z6=>k_is)
  (case z7=>k_is)
  (case z8=>k_is)
  (case z9=>k_is)
  (case z10=>k_is)
  (case z11=>k_is)
  (case z12=>k_is)
  (case z13=>k_is)
  (case z14=>k_is)
  (case z15=>k_is)
  (case y1=>k_is)
  (case y2=>k_exc)
  (case y3=>k_is)
  (case y4=>kts_exm)
  (case y5=>kit_is)
  (case x1=>k_is)
  (case x2=>k_is)
  (case x3=>k_is)
  (case x4=>k_is)
  (case x5=>k_is)
  (case x6=>k_is)
  (case x7=>k_is)
  (case x8=>k_is)
  (case v1=>k_is)
  (case w1=>kit_is)
  (case v2=>k_is)
  (case w2=>kit_is)
  (case v3=>k_is)
  (case w3=>kit_is)
  (case v4=>k_is)
  (case w4=>kit_is)
  (case v5=>k_is)
  (case w5=>kit_is)
  (case v6=>k_is)
  (case w6=>kit_is)
  (case v7=>k_is)
  (case w7=>kit_is)
#print axioms PySem.Challenge.cw_roundsalone_k24_no_walks_holds
