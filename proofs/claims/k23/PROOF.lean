import PyProof.Rows.All
import Wide.All
import OpenK.AllK
import Wide.FinOn
import Lean
import PyProof.EqAt
import PyProof.EqKinds
import PyProof.TupleCall
import KE.KSortKey
import KE.KLam
import KE.KRevIter
import PyProof.FactsAll.range_2
import KE.KSortTup
import PyProof.ReprBulk
import PyProof.FString5
import PyProof.SetRoads
import PyProof.P3In
import PySem.Challenge.RW_roundsalone_k23_walks
set_option Elab.async false
set_option linter.all false
set_option maxHeartbeats 16000000
set_option maxRecDepth 100000
abbrev hA1:=@List.length_map
abbrev hA2:=@List.mem_cons_self
abbrev hA3:=@List.getElem?_eq_getElem
abbrev hA4:=@List.mem_cons_of_mem
abbrev hA5:=@Nat.le_refl
abbrev hA6:=@List.mem_append_right
abbrev hA7:=@List.mem_singleton
abbrev hA8:=@List.take_of_length_le
abbrev hA9:=@List.mem_cons
abbrev hAa:=@List.map_append
abbrev hAb:=@List.mem_map
abbrev hAc:=@List.length_append
abbrev hAd:=@List.size_toArray
abbrev hAe:=@List.getD_eq_getElem?_getD
abbrev hAf:=@List.mem_append
abbrev hAg:=@List.mem_filter
abbrev hAh:=@List.length_take
abbrev hAi:=@Nat.lt_of_lt_of_le
abbrev hAj:=@List.getElem?_map
abbrev hAk:=@Nat.ne_of_lt
abbrev hAl:=@List.map_cons
abbrev hAm:=@List.mem_append_left
abbrev hAn:=@Bool.false_ne_true
abbrev hAo:=@Array.getElem?_toList
abbrev hAp:=@List.getElem?_eq_some_iff
abbrev hAq:=@Nat.testBit_xor
abbrev hAr:=@List.mem_of_getElem?
abbrev hAs:=@Option.some.inj
abbrev hAt:=@Nat.zero_le
abbrev hAu:=@PySem.W.mg_of
abbrev hAv:=@Nat.le_trans
abbrev hAw:=@List.length_filter_le
abbrev hAx:=@Nat.le_succ
abbrev hAy:=@List.length_cons
abbrev hAz:=@List.pairwise_append
abbrev hB0:=@List.nodup_cons
abbrev hB1:=@List.length_eq_zero_iff
abbrev hB2:=@Array.length_toList
abbrev hB3:=@Nat.eq_of_testBit_eq
abbrev hB4:=@List.map_map
abbrev hB5:=@Nat.testBit_zero
abbrev hB6:=@List.mem_map_of_mem
abbrev hB7:=@Nat.testBit_two_pow
abbrev hB8:=@Nat.lt_succ_of_lt
abbrev hB9:=@PySem.W.mg_none_of
abbrev hBa:=@Bool.and_eq_true
abbrev hBb:=@PySem.mem_of_lookup
abbrev hBc:=@Array.perm_iff_toList_perm
abbrev hBd:=@List.perm_ext_iff_of_nodup
abbrev hBe:=@Nat.mod_two_eq_zero_or_one
abbrev hBf:=@List.getElem_mem
abbrev hBg:=@List.append_assoc
abbrev hBh:=@Nat.le_of_lt
abbrev hBi:=@List.getElem?_eq_none
abbrev hBj:=@List.mem_range
abbrev hBk:=@List.filter_sublist
abbrev hBl:=@Nat.lt_succ_self
abbrev hBm:=@List.pairwise_cons
abbrev hBn:=@Array.toList_append
abbrev hBo:=@PySem.F.plainAttrs_list
abbrev hBp:=@List.getElem?_append_left
abbrev hBq:=@Array.toList_push
abbrev hBr:=@Array.getElem?_eq_getElem
abbrev hBs:=@Classical.byContradiction
abbrev hBt:=@List.pairwise_map
abbrev hBu:=@Int.emod_lt_of_pos
abbrev hBv:=@PySem.F.slot_list_append
abbrev hBw:=@PySem.F.type_list_append
abbrev hBx:=@Array.getD_eq_getD_getElem?
abbrev hBy:=@List.map_congr_left
abbrev hBz:=@PySem.boot_len
abbrev hC0:=@Nat.lt_irrefl
abbrev hC1:=@Nat.xor_assoc
abbrev hC2:=@List.getElem?_append_right
abbrev hC3:=@List.filter_append
abbrev hC4:=@PySem.W.kia_one
abbrev hC5:=@List.append_nil
abbrev hC6:=@Nat.not_lt_zero
abbrev hC7:=@Nat.lt_pow_two_of_testBit
abbrev hC8:=@List.nodup_append
abbrev hC9:=@List.nodup_nil
abbrev hCa:=@Option.map_some
abbrev hCb:=@PySem.F.called_set
abbrev hCc:=@Int.emod_nonneg
abbrev hCd:=@Nat.ne_of_gt
abbrev hCe:=@List.length_drop
abbrev hCf:=@List.not_mem_nil
abbrev hCg:=@List.foldl_append
abbrev hCh:=@List.any_cons
abbrev hCi:=@List.Perm.refl
abbrev hCj:=@List.sum_cons
abbrev hCk:=@Bool.false_eq_true
abbrev hCl:=@Nat.xor_lt_two_pow
abbrev hCm:=@List.lookup_cons
abbrev hCn:=@List.take_append_of_le_length
abbrev hCo:=@Nat.pow_le_pow_right
abbrev hCp:=@List.pairwise_singleton
abbrev hCq:=@Int.toNat_natCast
abbrev hCr:=@List.length_range
abbrev hCs:=@List.ext_getElem?
abbrev hCt:=@List.filterMap_cons
abbrev hCu:=@PyProof.Rows.callWith_type1
abbrev hCv:=@PySem.W.cellsFrom_some
abbrev hCw:=@List.all_eq_true
abbrev hCx:=@List.mem_reverse
abbrev hCy:=@Bool.true_and
abbrev hCz:=@List.drop_eq_getElem_cons
abbrev hD0:=@Nat.shiftRight_eq_div_pow
abbrev hD1:=@List.mem_of_mem_take
abbrev hD2:=@Option.isSome_iff_exists
abbrev hD3:=@List.take_left'
abbrev hD4:=@List.drop_left'
abbrev hD5:=@Nat.lt_or_ge
abbrev hD6:=@Nat.xor_self
abbrev hD7:=@Nat.zero_xor
abbrev hD8:=@Int.toNat_of_nonneg
abbrev hD9:=@Int.le_refl
abbrev hDa:=@Nat.le_add_right
abbrev hDb:=@List.map_snd_zip
abbrev hDc:=@Nat.testBit_lt_two_pow
abbrev hDd:=@Nat.lt_of_le_of_lt
abbrev hDe:=@List.find?_cons
abbrev hDf:=@List.cons_lt_cons_iff
abbrev hDg:=@Nat.xor_comm
abbrev hDh:=@Nat.testBit_and
abbrev hDi:=@Int.le_of_lt
abbrev hDj:=@List.take_sublist
abbrev hDk:=@List.mem_of_mem_drop
abbrev hDl:=@Array.toList_inj
abbrev hDm:=@Array.toList_map
abbrev hDn:=@Array.toList_zip
abbrev hDo:=@Nat.lt_log2_self
abbrev hDp:=@List.filter_eq_self
namespace L2
open PySem PySem.Spec PyProof.Rows
abbrev Key:=Sum Int Str
def keyIs:Key->Value->Bool
 | .inl k,v=>Value.isInt k v
 | .inr x,v=>Value.isStrOf x v
def keyH (w:World):Key->Int
 | .inl k=>hashInt k
 | .inr x=>hashStr w x
theorem keyIs_shape:∀ {k:Key} {v:Value},keyIs k v=true->(∃ i t,k=Sum.inl i/\v=Value.int i t)\/(∃ x t,k=Sum.inr x/\v=Value.str x t)
 | .inl i,v,h=>by
  obtain ⟨t,e⟩:=Value.isInt_shape (k:=i) (v:=v) h
  exact .inl ⟨i,t,rfl,e⟩
 | .inr x,v,h=>by
  obtain ⟨t,e⟩:=Value.isStrOf_shape (x:=x) (v:=v) h
  exact .inr ⟨x,t,rfl,e⟩
theorem keyIs_int (i:Int) (t:Tok):keyIs (.inl i) (.int i t)=true:=by simp [keyIs,Value.isInt]
theorem keyIs_str (x:Str) (t:Tok):keyIs (.inr x) (.str x t)=true:=by simp [keyIs,Value.isStrOf]
theorem key_ll (a b:Int):decide ((Sum.inl a:Key)=Sum.inl b)=(a == b):=by
 by_cases e:a=b
 ·subst e;simp
 ·have h:¬(Sum.inl a:Key)=Sum.inl b:=fun q=>e (Sum.inl.inj q)
  rw [decide_eq_false h]
  exact (beq_eq_false_iff_ne.mpr e).symm
theorem key_rr (a b:Str):decide ((Sum.inr a:Key)=Sum.inr b)=decide (a=b):=by
 by_cases e:a=b
 ·subst e;simp
 ·have h:¬(Sum.inr a:Key)=Sum.inr b:=fun q=>e (Sum.inr.inj q)
  rw [decide_eq_false h,decide_eq_false e]
theorem key_lr (a:Int) (b:Str):decide ((Sum.inl a:Key)=Sum.inr b)=false:=decide_eq_false (fun q=>nomatch q)
theorem key_rl (a:Str) (b:Int):decide ((Sum.inr a:Key)=Sum.inl b)=false:=decide_eq_false (fun q=>nomatch q)
def qAz (prog:Program) (w:World):PySem.KeyKind prog w Key where
 is:=keyIs
 hash:=keyH w
 inj:=fun v a b ha hb=>by
  rcases keyIs_shape ha with ⟨i,t,rfl,rfl⟩ | ⟨x,t,rfl,rfl⟩
  ·rcases keyIs_shape hb with ⟨j,u,rfl,e⟩ | ⟨y,u,rfl,e⟩
   ·injection e with e1 _;rw [e1]
   ·exact nomatch e
  ·rcases keyIs_shape hb with ⟨j,u,rfl,e⟩ | ⟨y,u,rfl,e⟩
   ·exact nomatch e
   ·injection e with e1 _;rw [e1]
 byValue:=fun k v h=>by
  rcases keyIs_shape h with ⟨i,t,rfl,rfl⟩ | ⟨x,t,rfl,rfl⟩ <;> rfl
 pyHash:=fun hv h=>by
  rcases keyIs_shape hv with ⟨i,t,rfl,rfl⟩ | ⟨x,t,rfl,rfl⟩
  ·exact wpAny_pyHash_int h
  ·exact wpAny_pyHash_str h
 eqBool:=fun hu hv h=>by
  rcases keyIs_shape hu with ⟨i,t,rfl,rfl⟩ | ⟨x,t,rfl,rfl⟩
  ·rcases keyIs_shape hv with ⟨j,u,rfl,rfl⟩ | ⟨y,u,rfl,rfl⟩
   ·rw [key_ll] at h;exact wpAny_eqBool_int h
   ·rw [key_lr] at h;exact SeqAt.EqAt.int_str i t y u _ _ _ _ h
  ·rcases keyIs_shape hv with ⟨j,u,rfl,rfl⟩ | ⟨y,u,rfl,rfl⟩
   ·rw [key_rl] at h;exact SeqAt.EqAt.str_int x t j u _ _ _ _ h
   ·rw [key_rr] at h;exact wpAny_eqBool_str h
 «strs»:=fun k x t v h=>by
  rcases keyIs_shape h with ⟨i,u,rfl,e⟩ | ⟨y,u,rfl,e⟩
  ·exact nomatch e
  ·injection e with e1 _
   subst e1
   cases v <;> rfl
theorem mixKind_int (prog:Program) (w:World) (i:Int) (t:Tok):(qAz prog w).is (.inl i) (.int i t)=true:=keyIs_int i t
theorem mixKind_str (prog:Program) (w:World) (x:Str) (t:Tok):(qAz prog w).is (.inr x) (.str x t)=true:=keyIs_str x t
end L2
namespace L2
open PySem PySem.Spec PyProof.Rows
inductive V where
 | non | bl (b:Bool) | int (i:Int) | str (x:Str) | byt (b:Array UInt8) | flt (b:UInt64) | ref (a:Addr) | ty (n:String)
 deriving DecidableEq
def qBg:V->Value->Prop
 | .non,u=>u=Value.none
 | .bl b,u=>u=Value.bool b
 | .int i,u=>∃ t,u=Value.int i t
 | .str x,u=>∃ t,u=Value.str x t
 | .byt b,u=>∃ t,u=Value.bytes b t
 | .flt b,u=>∃ t,u=Value.float b t
 | .ref a,u=>u=Value.ref a
 | .ty n,u=>u=Value.type n
abbrev qA6:List V->List Value->Prop:=Paired qBg
theorem qA6.length {xs:List V} {us:List Value} (r:qA6 xs us):xs.length=us.length:=Paired.length r
theorem qA6.get:∀ {xs:List V} {us:List Value} {i:Nat} {x:V},qA6 xs us->xs[i]?=some x->∃ u,us[i]?=some u/\qBg x u
 | _,_,_,_,.nil,e=>by simp at e
 | _,_,0,_,.cons r _,e=>by simp at e;subst e;exact ⟨_,rfl,r⟩
 | _,_,i+1,x,.cons _ t,e=>by
  obtain ⟨u,h1,h2⟩:=qA6.get (i:=i) (x:=x) t (by simpa using e)
  exact ⟨u,by simpa using h1,h2⟩
theorem qA6.append:∀ {xs ys:List V} {us ws:List Value},qA6 xs us->qA6 ys ws->qA6 (xs++ys) (us++ws)
 | _,_,_,_,.nil,s=>s
 | _,_,_,_,.cons r t,s=>.cons r (qA6.append t s)
theorem qA6.take:∀ {xs:List V} {us:List Value} (n:Nat),qA6 xs us->qA6 (xs.take n) (us.take n)
 | _,_,0,_=>.nil
 | _,_,_+1,.nil=>.nil
 | _,_,n+1,.cons r t=>.cons r (qA6.take n t)
theorem qA6.drop:∀ {xs:List V} {us:List Value} (n:Nat),qA6 xs us->qA6 (xs.drop n) (us.drop n)
 | _,_,0,r=>r
 | _,_,_+1,.nil=>.nil
 | _,_,n+1,.cons _ t=>qA6.drop n t
def RelO:Option V->Option Value->Prop
 | some v,some u=>qBg v u
 | none,none=>True
 | _,_=>False
def KV {κ:Type}:List (κ×V)->List (κ×Value)->Prop:=Paired fun (p:κ×V) (q:κ×Value)=>p.1=q.1/\qBg p.2 q.2
def kV:Key->V
 | .inl i=>.int i
 | .inr x=>.str x
inductive HO where
  | lst (xs:List V)
  | tup (xs:List V)
  | dK (kvs:List (Key×V)) | dT (kvs:List (List Key×V))
  | set (S:Int->Bool) (n:Nat)
  | ins (C dx:Addr) (fs:List (Str×V))
  | own (x:Addr)
  | xd (fs:List (Str×V))
  | met (f x:Addr)
  | rng (lo hi:Int)
  | frz (o:Obj) (u:HO)
  | tbl (ps:Array Value)
  | ext (φ:Heap->Prop)
abbrev Hp:=Addr->Option HO
def upd (H:Hp) (a:Addr) (o:HO):Hp:=fun b=>if b=a then some o else H b
theorem upd_same {H:Hp} {a:Addr} {o:HO}:upd H a o a=some o:=by unfold upd;rw [if_pos rfl]
theorem qAe {H:Hp} {a b:Addr} {o:HO} (h:b≠a):upd H a o b=H b:=by unfold upd;rw [if_neg h]
theorem ne_of {H:Hp} {a b:Addr} {o u:HO} (h:H a=some o) (h':H b=some u) (d:o≠u):a≠b:=by
 intro e;subst e;rw [h] at h';exact d (hAs h')
theorem qAd {H:Hp} {a b:Addr} {o:HO} (h:H a=some o) (h':H b=none):a≠b:=by
 intro e;subst e;rw [h] at h';cases h'
section
variable (P:Program) (w:World)
def qBf (H:Hp) (h:Heap) (a:Addr):HO->Prop
 | .lst xs=>xs.length<=sizeLine/\∃ (its:List Value) (n:Nat),qA6 xs its/\h.get? a=some { cls:=.type "list",data:=.seq its.toArray n }
 | .tup xs=>xs.length<=sizeLine/\∃ its:List Value,qA6 xs its/\IsTup h a its.toArray
 | .dK kvs=>kvs.length<=sizeLine/\(a == sysModules)=false/\∃ vs,KV kvs vs/\h.DictOf (qAz P w) a vs
 | .dT kvs=>kvs.length<=sizeLine/\(a == sysModules)=false/\∃ xs:List (List Key×Addr×Value),
   Paired (fun (p:List Key×V) (q:List Key×Addr×Value)=>p.1=q.1/\H q.2.1=some (.tup (p.1.map kV))/\qBg p.2 q.2.2) kvs xs /\
   ∃ o es ep,h.get? a=some o/\o.ExactDict/\o.data = .dict es ep/\es.toList=xs.map (entryOfKey (tupleKind (qAz P w)))/\(xs.map (·.1)).Nodup
 | .set S n=>h.SetOf (intKind P w) a S n
 | .ins C dx fs=>H dx=some (.own a)/\fs.length<=1000/\dx≠a/\h.get? a=some (PySem.W.instObj C dx) /\
   ∃ mA,h.Ns1 dx mA/\(∀ f,RelO (fs.lookup f) (mA f))/\PySem.Within mA (fs.map (·.1))
 | .own _=>∃ o,h.get? a=some o
 | .xd fs=>∃ mA,h.Ns1 a mA/\∀ f,RelO (fs.lookup f) (mA f)
 | .rng lo hi=>∃ t u v,h.get? a=some { cls:=.type "range",data:=.fields #[.int lo t,.int hi u,.int 1 v] }
 | .frz o u=>h.get? a=some o/\qBf H h a u
 | .tbl ps=>h.get? a=some { cls:=.none,data:=.fields ps }
 | .met f x=>h.get? a=some (PySem.W.methodObj (.ref f) (.ref x))
 | .ext φ=>φ h/\(∃ o,h.get? a=some o)/\∀ h1 h2:Heap,φ h1->(∀ o,h1.get? a=some o->h2.get? a=some o)->φ h2
def HOk (H:Hp) (h:Heap):Prop:=∀ a o,H a=some o->qBf P w H h a o
end
section
variable {P:Program} {w:World} {H H':Hp} {h h':Heap} {a:Addr} {o:HO}
theorem qBf.lt (x:qBf P w H h a o):a<h.objs.size:=by
 cases o with
 | lst xs=>obtain ⟨_,_,_,_,e⟩:=x;exact Heap.lt_size e
 | tup xs=>obtain ⟨_,_,_,p⟩:=x;exact p.lt
 | dK kvs=>obtain ⟨_,_,_,_,o,_,_,e,_⟩:=x;exact Heap.lt_size e
 | dT kvs=>obtain ⟨_,_,_,_,o,_,_,e,_⟩:=x;exact Heap.lt_size e
 | set S n=>obtain ⟨o,_,_,_,e,_⟩:=x;exact Heap.lt_size e
 | ins C dx fs=>obtain ⟨_,_,_,e,_⟩:=x;exact Heap.lt_size e
 | own y=>obtain ⟨_,e⟩:=x;exact Heap.lt_size e
 | xd fs=>obtain ⟨_,⟨_,_,_,e,_⟩,_⟩:=x;exact Heap.lt_size e
 | rng lo hi=>obtain ⟨_,_,_,e⟩:=x;exact Heap.lt_size e
 | frz ob u=>obtain ⟨e,_⟩:=x;exact Heap.lt_size e
 | tbl ps=>exact Heap.lt_size (show h.get? a=some _ from x)
 | met f y=>exact Heap.lt_size (show h.get? a=some _ from x)
 | ext φ=>obtain ⟨_,⟨_,e⟩,_⟩:=x;exact Heap.lt_size e
theorem Paired.mapP {α β:Type} {F G:α->β->Prop}:∀ {l₁:List α} {l₂:List β},Paired F l₁ l₂->(∀ a b,F a b->G a b)->Paired G l₁ l₂
 | _,_,.nil,_=>.nil
 | _,_,.cons r t,f=>.cons (f _ _ r) (Paired.mapP t f)
theorem qBf.stay (x:qBf P w H h a o) (k:∀ b u,(b=a\/H b=some (.own a))->h.get? b=some u->h'.get? b=some u)
  (ho:∀ b,H b=some (.own a)->H' b=some (.own a)) (ht:∀ b xs,H b=some (.tup xs)->H' b=some (.tup xs)):qBf P w H' h' a o:=by
 induction o with
 | lst xs=>obtain ⟨z,its,n,r,e⟩:=x;exact ⟨z,its,n,r,k _ _ (.inl rfl) e⟩
 | tup xs=>obtain ⟨z,its,r,ob,e,c⟩:=x;exact ⟨z,its,r,ob,k _ _ (.inl rfl) e,c⟩
 | dK kvs=>obtain ⟨z,y,vs,r,ob,es,ep,e,c⟩:=x;exact ⟨z,y,vs,r,ob,es,ep,k _ _ (.inl rfl) e,c⟩
 | dT kvs =>
  obtain ⟨z,y,xs,r,ob,es,ep,e,c⟩:=x
  exact ⟨z,y,xs,Paired.mapP r fun p q z=>⟨z.1,ht _ _ z.2.1,z.2.2⟩,ob,es,ep,k _ _ (.inl rfl) e,c⟩
 | set S n=>obtain ⟨ob,es,ep,t,e,c⟩:=x;exact ⟨ob,es,ep,t,k _ _ (.inl rfl) e,c⟩
 | ins C dx fs =>
  obtain ⟨d,z,ne,e,mA,⟨od,es,ep,e2,c⟩,r⟩:=x
  exact ⟨ho _ d,z,ne,k _ _ (.inl rfl) e,mA,⟨od,es,ep,k _ _ (.inr d) e2,c⟩,r⟩
 | own y=>obtain ⟨ob,e⟩:=x;exact ⟨ob,k _ _ (.inl rfl) e⟩
 | xd fs=>obtain ⟨mA,⟨od,es,ep,e,c⟩,r⟩:=x;exact ⟨mA,⟨od,es,ep,k _ _ (.inl rfl) e,c⟩,r⟩
 | rng lo hi=>obtain ⟨t,u,v,e⟩:=x;exact ⟨t,u,v,k _ _ (.inl rfl) e⟩
 | frz ob u ih=>obtain ⟨e,q⟩:=x;exact ⟨k _ _ (.inl rfl) e,ih q⟩
 | tbl ps =>
  have e:h.get? a=some { cls:=.none,data:=.fields ps }:=x
  show h'.get? a=some { cls:=.none,data:=.fields ps }
  exact k a _ (.inl rfl) e
 | met f y =>
  have e:h.get? a=some (PySem.W.methodObj (.ref f) (.ref y)):=x
  show h'.get? a=some (PySem.W.methodObj (.ref f) (.ref y))
  exact k a _ (.inl rfl) e
 | ext φ=>obtain ⟨p,⟨o,e⟩,st⟩:=x;exact ⟨st _ _ p fun o q=>k _ _ (.inl rfl) q,⟨o,k _ _ (.inl rfl) e⟩,st⟩
theorem HOk.lt (x:HOk P w H h) (e:H a=some o):a<h.objs.size:=(x a o e).lt
theorem HOk.fresh (x:HOk P w H h) (e:h.objs.size<=a):H a=none:=by
 cases q:H a with
 | none=>rfl
 | some u=>exact absurd (hAi (x.lt q) e) (hC0 _)
theorem HOk.kept (x:HOk P w H h) (k:∀ b u,h.get? b=some u->h'.get? b=some u):HOk P w H h':=fun a o e =>
 (x a o e).stay (fun b u _ q=>k b u q) (fun _ q=>q) fun _ _ q=>q
theorem HOk.laid (x:HOk P w H h) (k:∀ b u,h.get? b=some u->h'.get? b=some u) (hp:h.objs.size<=a) (new:qBf P w (upd H a o) h' a o):HOk P w (upd H a o) h':=fun b u e=>by
 have hn:=x.fresh hp
 by_cases hb:b=a
 ·subst hb;rw [upd_same] at e;cases e;exact new
 ·rw [qAe hb] at e
  exact (x b u e).stay (fun c v _ q=>k c v q) (fun c q=>by rw [qAe (qAd q hn)];exact q) fun c xs q=>by rw [qAe (qAd q hn)];exact q
end
def Rd (H:Hp) (a:Addr) (u:HO):Prop:=H a=some u\/∃ o,H a=some (.frz o u)
theorem Rd.ok {P:Program} {w:World} {H:Hp} {h:Heap} {a:Addr} {u:HO} (r:Rd H a u) (x:HOk P w H h):qBf P w H h a u:=by
 rcases r with r | ⟨o,r⟩
 ·exact x a u r
 ·obtain ⟨_,q⟩:=x a _ r
  exact q
def Mut:Option HO->Prop
 | some (.lst _)=>True
 | some (.dK _)=>True
 | some (.dT _)=>True
 | some (.set _ _)=>True
 | some (.ins _ _ _)=>True
 | some (.ext _)=>True
 | _=>False
section
variable {P:Program} {w:World} {H:Hp} {h h':Heap} {x e:Addr} {o':HO}
theorem HOk.write (ok:HOk P w H h) (mu:Mut (H x)) (he:e=x\/H e=some (.own x)) (k:∀ b u,b≠e->h.get? b=some u->h'.get? b=some u) (heo:∃ u,h'.get? e=some u)
  (new:qBf P w (upd H x o') h' x o'):HOk P w (upd H x o') h':=fun b u q=>by
 have nown:∀ c y,H c=some (.own y)->c≠x:=fun c y r z=>by subst z;rw [r] at mu;exact mu
 have ntup:∀ c xs,H c=some (.tup xs)->c≠x:=fun c xs r z=>by subst z;rw [r] at mu;exact mu
 by_cases hb:b=x
 ·subst hb;rw [upd_same] at q;cases q;exact new
 ·rw [qAe hb] at q
  by_cases hbe:b=e
  ·have q':H b=some (.own x):=by
    rcases he with z | z
    ·exact absurd (hbe.trans z) hb
    ·rw [hbe];exact z
   rw [q] at q';cases q'
   obtain ⟨v,hv⟩:=heo
   exact ⟨v,by rw [hbe];exact hv⟩
  ·refine (ok b u q).stay (fun c v hc r=>k c v ?_ r) (fun c r=>by rw [qAe (nown c b r)];exact r) fun c xs r=>by rw [qAe (ntup c xs r)];exact r
   rcases hc with rfl | hc
   ·exact hbe
   ·rintro rfl
    rcases he with z | z
    ·exact nown c b hc z
    ·rw [hc] at z;cases z;exact hb rfl
end
structure Un (fs ex:List Addr) (H H':Hp) (h h':Heap):Prop where
 keep:∀ b o,h.get? b=some o->H b=none->b∉fs->b∉ex->h'.get? b=some o
 slot:∀ b o,h.get? b=some o->H b=none->b∈fs->b∉ex->∃ sl,h'.get? b=some { o with slots:=sl }
 free:∀ b o,h.get? b=some o->H b=none->b∉ex->H' b=none
 there:∀ b o,h.get? b=some o->b∉ex->∃ o',h'.get? b=some o'
 tups:∀ b xs,H b=some (.tup xs)->H' b=some (.tup xs)
 frzs:∀ b o u,H b=some (.frz o u)->H' b=some (.frz o u)
 tbls:∀ b ps,H b=some (.tbl ps)->∃ more,H' b=some (.tbl (ps++more))
section
variable {fs fs' ex ex':List Addr} {H H1 H2:Hp} {h h1 h2 h':Heap} {a x e:Addr} {o:HO}
theorem Un.any (u:Un fs ex H H1 h h1) {b:Addr} {ob:Obj} (q:h.get? b=some ob) (n:H b=none) (hx:b∉ex):∃ sl,h1.get? b=some { ob with slots:=sl }:=by
 by_cases hb:b∈fs
 ·exact u.slot b ob q n hb hx
 ·exact ⟨ob.slots,u.keep b ob q n hb hx⟩
theorem Un.kept (k:∀ b u,h.get? b=some u->h'.get? b=some u):Un fs ex H H h h' :=
 ⟨fun b ob q _ _ _=>k b ob q,fun b ob q _ _ _=>⟨ob.slots,k b ob q⟩,fun _ _ _ n _=>n,fun b ob q _=>⟨ob,k b ob q⟩,fun _ _ q=>q,fun _ _ _ q=>q,fun _ ps q=>⟨#[],by rw [q];simp⟩⟩
theorem Un.refl:Un fs ex H H h h:=Un.kept fun _ _ q=>q
theorem Un.laid (k:∀ b u,h.get? b=some u->h'.get? b=some u) (hp:h.objs.size<=a) (hn:H a=none):Un fs ex H (upd H a o) h h' where
 keep:=fun b u q _ _ _=>k b u q
 slot:=fun b u q _ _ _=>⟨u.slots,k b u q⟩
 free:=fun b u q n _=>by rw [qAe (hAk (hAi (Heap.lt_size q) hp))];exact n
 there:=fun b u q _=>⟨u,k b u q⟩
 tups:=fun b xs q=>by rw [qAe (qAd q hn)];exact q
 frzs:=fun b u xs q=>by rw [qAe (qAd q hn)];exact q
 tbls:=fun b ps q=>⟨#[],by rw [qAe (qAd q hn),q];simp⟩
theorem Un.write (mu:Mut (H x)) (he:e=x\/H e=some (.own x)) (k:∀ b u,b≠e->h.get? b=some u->h'.get? b=some u) (heo:∃ u,h'.get? e=some u):Un fs ex H (upd H x o) h h':=by
 have hx:∀ b,H b=none->b≠x:=fun b n z=>by subst z;rw [n] at mu;exact mu
 have hb:∀ b,H b=none->b≠e:=fun b n z=>by
  subst z
  rcases he with r | r
  ·exact hx b n r
  ·rw [n] at r;cases r
 have hm:∀ b u,H b=some u->¬Mut (some u)->b≠x:=fun b u q nm z=>by subst z;rw [q] at mu;exact nm mu
 refine ⟨fun b u q n _ _=>k b u (hb b n) q,fun b u q n _ _=>⟨u.slots,k b u (hb b n) q⟩,fun b u q n _=>by rw [qAe (hx b n)];exact n,fun b u q _=>?_,
  fun b xs q=>by rw [qAe (hm b _ q fun z=>z)];exact q,fun b u xs q=>by rw [qAe (hm b _ q fun z=>z)];exact q,fun b ps q=>⟨#[],by rw [qAe (hm b _ q fun z=>z),q];simp⟩⟩
 by_cases hbe:b=e
 ·subst hbe;exact heo
 ·exact ⟨u,k b u hbe q⟩
end
def trk (h:Heap) (H:Hp):List Addr:=(List.range h.objs.size).filter fun a=>(H a).isSome
def hidT (h:Heap) (H:Hp):Heap:=PySem.W.hideAll h (trk h H)
theorem hidT_size (h:Heap) (H:Hp):(hidT h H).objs.size=h.objs.size:=PySem.W.hideAll_size _ _
theorem hidT_get {h:Heap} {H:Hp} {b:Addr} {o:Obj} (e:h.get? b=some o) (n:H b=none):(hidT h H).get? b=some o :=
 PySem.W.hideAll_get _ e fun hm=>by
  have q:(H b).isSome=true:=(hAg.mp hm).2
  rw [n] at q;simp at q
theorem of_hidT {h:Heap} {H:Hp} {b:Addr} {o:Obj} (e:(hidT h H).get? b=some o):h.get? b=some o/\H b=none:=by
 have e':h.get? b=some o:=PySem.W.of_hideAll (trk h H) e
 refine ⟨e',?_⟩
 cases q:H b with
 | none=>rfl
 | some x =>
  have hm:b∈trk h H:=hAg.mpr ⟨hBj.mpr (Heap.lt_size e'),by simp [q]⟩
  have z:(hidT h H).get? b=none:=PySem.W.hideAll_none (trk h H) hm
  rw [z] at e;cases e
def allNews (g h:Heap) (L:Addr):List (Addr×Obj):=(List.range h.objs.size).filterMap fun a=>if a=L\/(g.get? a).isSome=true then none else (h.get? a).map fun o=>(a,o)
def rest (g h:Heap) (L d:Addr):List (Addr×Obj):=(allNews g h L).filter fun p=>decide (p.1≠d)
end L2
namespace L2
open PySem PySem.Spec PyProof.Rows
structure Mod (K:PySem.W.Frag) (mg:Str->Option Value) (base:Heap):Prop where
 kin:K.In base
 glob:base.Ns mainGlobals mg
 blt:∃ mb,base.Ns builtinsNs mb/\∀ x:Str,x≠"__name__"->mb x=bootBuiltins x
 nolimit:base.NoLimit
structure Cx where
 prog:Program
 w:World
 K:PySem.W.Frag
 mg:Str->Option Value
 base:Heap
 A:Around
 N:List Str
 s₀:Shared
 H₀:Hp
 env:Env
 outer:List Env
 stack:List Env
 ex:List Addr
 fn:Str->Bool
 calm:Bool
 pn:List (Addr×Obj)
 xe:Value->Shared->Prop
def frs (l:List Env):List Addr:=l.filterMap (·.frame)
abbrev Cx.fs (X:Cx):List Addr:=frs X.outer
def Vis (sc:Scope) (x:Str):Prop:=sc.names.lookup x=some .local\/sc.names.lookup x=some .cell\/sc.names.lookup x=some .free
def Loc (sc:Scope) (x:Str):Prop:=sc.names.lookup x=some .local\/sc.names.lookup x=some .cell
def Look (env:Env) (h:Heap) (m:Str->Option Value) (x:Str) (u:Value):Prop :=
 (env.kindOf x=some .local/\m x=some u)\/((env.kindOf x=some .cell\/env.kindOf x=some .free)/\∃ c,env.cells.lookup x=some c/\h.IsCell c (some u))
structure Cx.Ok (X:Cx):Prop where
 mod:Mod X.K X.mg X.base
 kind:X.env.scope.kind = .function
 glob:X.env.globals=mainGlobals
 blt:X.env.builtins=builtinsNs
 above:X.s₀.heap.objs.size<=X.env.locals
 inj:∀ x y c,X.env.cells.lookup x=some c->X.env.cells.lookup y=some c->x=y
 has:∀ x,(X.env.kindOf x=some .cell\/X.env.kindOf x=some .free)->∃ c,X.env.cells.lookup x=some c
 cab:∀ x c,X.fn x=true->X.env.cells.lookup x=some c->X.s₀.heap.objs.size<=c
 hd:X.calm=true->X.A.handled=none
 frames:X.A.frames=some X.stack
 stk:X.stack=X.outer\/(X.stack=X.env :: X.outer/\X.env.frame=some X.env.locals)
 exf:∀ b∈X.ex,b≠X.env.locals/\∀ x c,X.env.cells.lookup x=some c->c≠b
 bs:∀ b o,X.base.get? b=some o->X.s₀.heap.get? b=some o/\X.H₀ b=none
 bsz:X.base.objs.size<=X.s₀.heap.objs.size
 noex:∀ b o,X.base.get? b=some o->b∉X.ex
 exfs:∀ b∈X.ex,b∉X.fs
 funs:X.s₀.heap.FunFrames X.base X.outer
 frf:∀ b∈X.fs,X.H₀ b=none
structure Inv (X:Cx) (pins:List (Addr×Obj)) (σ:List (Option V)) (H:Hp) (s:Shared):Prop where
 ok:X.Ok
 os:s.os=X.s₀.os
 bare:AllBare s.gens
 base:Un X.fs X.ex X.H₀ H X.s₀.heap s.heap
 loc:∃ m,s.heap.Ns X.env.locals m/\∀ (i:Nat) (x:Str) (v:V),X.N[i]?=some x->σ[i]?=some (some v)->Vis X.env.scope x->∃ u,qBg v u/\Look X.env s.heap m x u
 cell:∀ x c,X.env.cells.lookup x=some c->∃ v,s.heap.IsCell c v
 free:H X.env.locals=none
 freeC:∀ x c,X.env.cells.lookup x=some c->H c=none
 pin:∀ p∈X.pn++pins,s.heap.get? p.1=some p.2/\H p.1=none/\p.1≠X.env.locals/\p.1∉X.fs/\∀ v,p.2.data≠.cell v
 hok:HOk X.prog X.w H s.heap
 len:σ.length=X.N.length
section
variable {X:Cx} {pins:List (Addr×Obj)} {σ:List (Option V)} {H H':Hp} {s:Shared} {h':Heap}
theorem Cx.Ok.nofr (ok:X.Ok) {b:Addr} {o:Obj} (e:X.base.get? b=some o):b∉X.fs:=fun hb=>by
 have:=(ok.funs.mem hb).1
 rw [e] at this;cases this
theorem Inv.bs (I:Inv X pins σ H s):∀ b o,X.base.get? b=some o->s.heap.get? b=some o/\H b=none:=fun b o e =>
 ⟨I.base.keep b o (I.ok.bs b o e).1 (I.ok.bs b o e).2 (I.ok.nofr e) (I.ok.noex b o e),I.base.free b o (I.ok.bs b o e).1 (I.ok.bs b o e).2 (I.ok.noex b o e)⟩
theorem Inv.bk (I:Inv X pins σ H s):∀ b o,X.base.get? b=some o->s.heap.get? b=some o:=fun b o e=>(I.bs b o e).1
theorem Inv.mod (I:Inv X pins σ H s):Mod X.K X.mg X.base:=I.ok.mod
theorem Inv.kIn (I:Inv X pins σ H s):X.K.In s.heap:=I.ok.mod.kin.keeps I.bk
theorem Inv.lt (I:Inv X pins σ H s):X.env.locals<s.heap.objs.size:=let ⟨_,hn,_⟩:=I.loc;hn.lt
theorem Inv.sz (I:Inv X pins σ H s):X.s₀.heap.objs.size<=s.heap.objs.size:=hAv I.ok.above (hBh I.lt)
theorem Inv.nofs (I:Inv X pins σ H s) {a:Addr} (h:s.heap.objs.size<=a):a∉X.fs:=fun hb=>by
 obtain ⟨_,o,ho,_⟩:=I.ok.funs.mem hb
 exact absurd (hAi (Heap.lt_size ho) (hAv I.sz h)) (hC0 _)
theorem Inv.cne (I:Inv X pins σ H s):∀ x c,X.env.cells.lookup x=some c->c≠X.env.locals:=fun x c e z=>by
 obtain ⟨v,o,ho,hd⟩:=I.cell x c e
 obtain ⟨m,⟨o',es,ep,ho',hd',_⟩,_⟩:=I.loc
 rw [z,ho'] at ho;cases ho;rw [hd'] at hd;cases hd
theorem Inv.funs (I:Inv X pins σ H s):s.heap.FunFrames X.base X.outer:=by
 have all:∀ (l:List Env),(∀ b∈frs l,b∈X.fs)->X.s₀.heap.FunFrames X.base l->s.heap.FunFrames X.base l:=by
  intro l
  induction l with
  | nil=>intro _ _;trivial
  | cons env r ih =>
   intro hs hl
   obtain ⟨hk,⟨L,o,hf,hn,ho,hd⟩,hr⟩:=hl
   have hL:L∈X.fs:=hs L (by unfold frs;rw [hCt,hf];exact hA2)
   obtain ⟨sl,e⟩:=I.base.slot L o ho (I.ok.frf L hL) hL fun z=>I.ok.exfs L z hL
   exact ⟨hk,⟨L,_,hf,hn,e,hd⟩,ih (fun b hb=>hs b (by unfold frs;rw [hCt,hf];exact hA4 _ hb)) hr⟩
 exact all X.outer (fun _ hb=>hb) I.ok.funs
theorem Inv.stack (I:Inv X pins σ H s):s.heap.FunFrames X.base X.stack:=by
 rcases I.ok.stk with e | ⟨e,hf⟩
 ·rw [e];exact I.funs
 ·rw [e]
  obtain ⟨m,hn,_⟩:=I.loc
  refine .cons (by rw [I.ok.kind];decide) hf hn ?_ I.funs
  exact Heap.get?_none_of_le (hAv I.ok.bsz I.ok.above)
theorem Inv.stkSub (I:Inv X pins σ H s):∀ b∈frs X.stack,b∈X.env.locals :: X.fs:=fun b hb=>by
 rcases I.ok.stk with e | ⟨e,hf⟩
 ·rw [e] at hb;exact hA4 _ hb
 ·rw [e] at hb
  unfold frs at hb
  rw [hCt,hf] at hb
  exact hb
theorem Inv.stkFree (I:Inv X pins σ H s):∀ b∈frs X.stack,H b=none:=fun b hb=>by
 rcases hA9.mp (I.stkSub b hb) with e | hb
 ·rw [e];exact I.free
 ·obtain ⟨_,o,ho,_⟩:=I.ok.funs.mem hb
  exact I.base.free b o ho (I.ok.frf b hb) fun z=>I.ok.exfs b z hb
theorem Inv.step {g':Array GenState} {t':Nat} {d':Drawn} {ch:List Addr} (I:Inv X pins σ H s)
  (hch:∀ b∈ch,(b∈X.ex\/X.s₀.heap.objs.size<=b)/\b≠X.env.locals/\(∀ x c,X.env.cells.lookup x=some c->c≠b)/\∀ p∈X.pn++pins,p.1≠b)
  (keep:∀ b o,b≠X.env.locals->b∉X.fs->b∉ch->s.heap.get? b=some o->H b=none->h'.get? b=some o)
  (slot:∀ b o,b≠X.env.locals->b∈X.fs->b∉ch->s.heap.get? b=some o->H b=none->∃ sl,h'.get? b=some { o with slots:=sl }) (free:∀ b o,b∉ch->s.heap.get? b=some o->H b=none->H' b=none)
  (there:∀ b o,b∉ch->s.heap.get? b=some o->∃ o',h'.get? b=some o')
  (tups:∀ b xs,H b=some (.tup xs)->H' b=some (.tup xs)) (frzs:∀ b o u,H b=some (.frz o u)->H' b=some (.frz o u)) (tbls:∀ b ps,H b=some (.tbl ps)->∃ more,H' b=some (.tbl (ps++more)))
  (ns:∀ m,s.heap.Ns X.env.locals m->h'.Ns X.env.locals m) (hok:HOk X.prog X.w H' h') (hg:AllBare g') :
  Inv X pins σ H' { s with heap:=h',gens:=g',drawn:=d',toks:=t' }:=by
 have neL:∀ b o,X.s₀.heap.get? b=some o->b≠X.env.locals:=fun b o e=>hAk (hAi (Heap.lt_size e) I.ok.above)
 have neC:∀ b o,X.s₀.heap.get? b=some o->b∉X.ex->b∉ch:=fun b o e hx hb=>by
  rcases (hch b hb).1 with z | z
  ·exact hx z
  ·exact absurd (hAi (Heap.lt_size e) z) (hC0 _)
 have cellK:∀ x c,X.env.cells.lookup x=some c->∀ v,s.heap.IsCell c v->h'.IsCell c v:=fun x c e v ⟨o,ho,hd⟩=>by
  have nch:c∉ch:=fun z=>(hch c z).2.2.1 x c e rfl
  by_cases hc:c∈X.fs
  ·obtain ⟨sl,q⟩:=slot c o (I.cne x c e) hc nch ho (I.freeC x c e)
   exact ⟨_,q,hd⟩
  ·exact ⟨o,keep c o (I.cne x c e) hc nch ho (I.freeC x c e),hd⟩
 refine ⟨I.ok,I.os,hg,⟨fun b o e n hb hx=>?_,fun b o e n hb hx=>?_,fun b o e n hx=>?_,fun b o e hx=>?_,fun b xs e=>tups b xs (I.base.tups b xs e),fun b o xs e=>frzs b o xs (I.base.frzs b o xs e),fun b ps e=>?_⟩,?_,fun x c e=>?_,?_,fun x c e=>?_,fun p hp=>?_,hok,I.len⟩
 ·exact keep b o (neL b o e) hb (neC b o e hx) (I.base.keep b o e n hb hx) (I.base.free b o e n hx)
 ·obtain ⟨sl,e1⟩:=I.base.slot b o e n hb hx
  obtain ⟨sl',e2⟩:=slot b _ (neL b o e) hb (neC b o e hx) e1 (I.base.free b o e n hx)
  exact ⟨sl',e2⟩
 ·obtain ⟨o',e1⟩:=I.base.there b o e hx
  exact free b o' (neC b o e hx) e1 (I.base.free b o e n hx)
 ·obtain ⟨o',e1⟩:=I.base.there b o e hx
  exact there b o' (neC b o e hx) e1
 ·obtain ⟨m1,e1⟩:=I.base.tbls b ps e
  obtain ⟨m2,e2⟩:=tbls b _ e1
  exact ⟨m1++m2,by rw [e2,Array.append_assoc]⟩
 ·obtain ⟨m,hn,hl⟩:=I.loc
  refine ⟨m,ns m hn,fun i x v e1 e2 e3=>?_⟩
  obtain ⟨u,r,l⟩:=hl i x v e1 e2 e3
  refine ⟨u,r,?_⟩
  rcases l with l | ⟨k,c,e,z⟩
  ·exact .inl l
  ·exact .inr ⟨k,c,e,cellK x c e _ z⟩
 ·obtain ⟨v,z⟩:=I.cell x c e
  exact ⟨v,cellK x c e v z⟩
 ·obtain ⟨m,⟨o,_,_,ho,_⟩,_⟩:=I.loc
  exact free _ o (fun z=>(hch _ z).2.1 rfl) ho I.free
 ·obtain ⟨v,o,ho,hd⟩:=I.cell x c e
  exact free c o (fun z=>(hch c z).2.2.1 x c e rfl) ho (I.freeC x c e)
 ·obtain ⟨e,n,ne,nf,d⟩:=I.pin p hp
  have nch:p.1∉ch:=fun z=>(hch p.1 z).2.2.2 p hp rfl
  exact ⟨keep p.1 p.2 ne nf nch e n,free p.1 p.2 nch e n,ne,nf,d⟩
theorem Inv.un {t':Nat} (I:Inv X pins σ H s) (u:Un X.fs [] H H' s.heap h') (hok:HOk X.prog X.w H' h'):Inv X pins σ H' { s with heap:=h',toks:=t' }:=by
 obtain ⟨m,⟨o,es,ep,ho,r⟩,_⟩:=id I.loc
 obtain ⟨sl,hL⟩:=u.any ho I.free (by simp)
 exact I.step (g':=s.gens) (d':=s.drawn) (ch:=[]) (fun _ z=>nomatch z) (fun b o _ hb _ e n=>u.keep b o e n hb (by simp)) (fun b o _ hb _ e n=>u.slot b o e n hb (by simp)) (fun b o _ e n=>u.free b o e n (by simp)) (fun b o _ e=>u.there b o e (by simp)) u.tups u.frzs u.tbls (fun m' hm=>by
  obtain ⟨o',es',ep',ho',r'⟩:=hm
  rw [ho] at ho';cases ho'
  exact ⟨_,es',ep',hL,r'⟩) hok I.bare
theorem Inv.call {g':Array GenState} {t':Nat} {d':Drawn} {ch:List Addr} (I:Inv X pins σ H s) (u:Un (frs X.stack) ch H H' s.heap h') (hok:HOk X.prog X.w H' h') (hg:AllBare g')
  (hch:∀ b∈ch,(b∈X.ex\/X.s₀.heap.objs.size<=b)/\b≠X.env.locals/\(∀ x c,X.env.cells.lookup x=some c->c≠b)/\∀ p∈X.pn++pins,p.1≠b) :
  Inv X pins σ H' { s with heap:=h',gens:=g',drawn:=d',toks:=t' }:=by
 obtain ⟨m,⟨o,es,ep,ho,r⟩,_⟩:=id I.loc
 obtain ⟨sl,hL⟩:=u.any ho I.free fun z=>(hch _ z).2.1 rfl
 exact I.step (ch:=ch) hch (fun b o hL hb hc e n=>u.keep b o e n (fun z=>(hA9.mp (I.stkSub b z)).elim hL hb) hc) (fun b o _ _ hc e n=>u.any e n hc) (fun b o hc e n=>u.free b o e n hc) (fun b o hc e=>u.there b o e hc) u.tups u.frzs u.tbls (fun m' hm=>by
  obtain ⟨o',es',ep',ho',r'⟩:=hm
  rw [ho] at ho';cases ho'
  exact ⟨_,es',ep',hL,r'⟩) hok hg
theorem Inv.turned {t':Nat} {it:Addr} (I:Inv X pins σ H s) (k:∀ b o,b≠it->s.heap.get? b=some o->h'.get? b=some o) (hn:H it=none) (hL:it≠X.env.locals)
  (h1:it∈X.ex\/X.s₀.heap.objs.size<=it) (h2:∀ x c,X.env.cells.lookup x=some c->c≠it) (h3:∀ p∈X.pn++pins,p.1≠it):Inv X pins σ H { s with heap:=h',toks:=t' }:=by
 have nit:∀ b u,H b=some u->b≠it:=fun b u e z=>by rw [z,hn] at e;cases e
 refine I.step (g':=s.gens) (d':=s.drawn) (ch:=[it]) (fun b hb=>?_) (fun b o _ _ hc e _=>k b o (fun z=>hc (by simp [z])) e) (fun b o _ _ hc e _=>⟨o.slots,k b o (fun z=>hc (by simp [z])) e⟩) (fun _ _ _ _ n=>n)
  (fun b o hc e=>⟨o,k b o (fun z=>hc (by simp [z])) e⟩) (fun _ _ e=>e) (fun _ _ _ e=>e) (fun b ps e=>⟨#[],by rw [e];simp⟩) (fun m hm=>?_) (fun b u e=>?_) I.bare
 ·have e:b=it:=by simpa using hb
  subst e
  exact ⟨h1,hL,h2,h3⟩
 ·obtain ⟨o,es,ep,ho,r⟩:=hm
  exact ⟨o,es,ep,k _ o (Ne.symm hL) ho,r⟩
 ·refine (I.hok b u e).stay (fun c v hc q=>k c v ?_ q) (fun _ q=>q) fun _ _ q=>q
  rcases hc with z | z
  ·rw [z];exact nit b u e
  ·exact nit c _ z
theorem Inv.tok (I:Inv X pins σ H s) (t:Nat):Inv X pins σ H { s with toks:=t }:=I.un (h':=s.heap) (t':=t) Un.refl I.hok
theorem Inv.kept {t':Nat} (I:Inv X pins σ H s) (k:∀ b u,s.heap.get? b=some u->h'.get? b=some u):Inv X pins σ H { s with heap:=h',toks:=t' }:=I.un (Un.kept k) (I.hok.kept k)
theorem Inv.laid {a:Addr} {o:HO} {t':Nat} (I:Inv X pins σ H s) (k:∀ b u,s.heap.get? b=some u->h'.get? b=some u) (hp:s.heap.objs.size<=a) (new:qBf X.prog X.w (upd H a o) h' a o) :
  Inv X pins σ (upd H a o) { s with heap:=h',toks:=t' }:=I.un (Un.laid k hp (I.hok.fresh hp)) (I.hok.laid k hp new)
theorem Inv.write {x e:Addr} {o:HO} {t':Nat} (I:Inv X pins σ H s) (mu:Mut (H x)) (he:e=x\/H e=some (.own x)) (k:∀ b u,b≠e->s.heap.get? b=some u->h'.get? b=some u) (heo:∃ u,h'.get? e=some u)
  (new:qBf X.prog X.w (upd H x o) h' x o):Inv X pins σ (upd H x o) { s with heap:=h',toks:=t' }:=I.un (Un.write mu he k heo) (I.hok.write mu he k heo new)
theorem Inv.weak {σ':List (Option V)} (I:Inv X pins σ H s) (hl:σ'.length=σ.length) (w:∀ (i:Nat) v,σ'[i]?=some (some v)->σ[i]?=some (some v)):Inv X pins σ' H s :=
 ⟨I.ok,I.os,I.bare,I.base,let ⟨m,hn,hl'⟩:=I.loc;⟨m,hn,fun i x v e1 e2 e3=>hl' i x v e1 (w i v e2) e3⟩,I.cell,I.free,I.freeC,I.pin,I.hok,hl.trans I.len⟩
theorem Inv.pins_of {pins':List (Addr×Obj)} (I:Inv X pins σ H s) (h:∀ p∈pins',s.heap.get? p.1=some p.2/\H p.1=none/\p.1≠X.env.locals/\p.1∉X.fs/\∀ v,p.2.data≠.cell v):Inv X pins' σ H s :=
 ⟨I.ok,I.os,I.bare,I.base,I.loc,I.cell,I.free,I.freeC,fun p hp=>(hAf.mp hp).elim (fun z=>I.pin p (hAm _ z)) (h p),I.hok,I.len⟩
theorem nodup_ix {N:List Str} (hN:N.Nodup) {i j:Nat} {x:Str} (a:N[i]?=some x) (b:N[j]?=some x):i=j:=by
 obtain ⟨h1,e1⟩:=hAp.mp a
 obtain ⟨h2,e2⟩:=hAp.mp b
 exact (List.getElem_inj hN).mp (e1.trans e2.symm)
theorem qE1 {M:Model} {A:Around} {E:Value->Shared->Prop} {i:Nat} {x:Str} {v:V} {u:Value} {Q:Unit->Shared->Prop} (I:Inv X pins σ H s) (hN:X.N.Nodup) (hi:X.N[i]?=some x) (hx:Loc X.env.scope x) (r:qBg v u)
  (h:∀ s',Inv X pins (σ.set i (some v)) H s'->(∃ a,Heap.SameBut a s.heap s'.heap/\(a=X.env.locals\/X.env.cells.lookup x=some a))->Q () s') (hf:X.fn x=true\/X.env.scope.names.lookup x=some .local:=by first | exact .inl rfl | exact .inr rfl | assumption):wpAny M A (storeName X.env x u) Q E s:=by
 obtain ⟨m,hn,hl⟩:=id I.loc
 have hcls:(X.env.scope.kind == .class || (X.env.scope.kind == .module && X.env.locals != X.env.globals))=false:=by rw [I.ok.kind];rfl
 have hiσ:i < σ.length:=by rw [I.len];exact (hAp.mp hi).1
 have cne:=I.cne
 have tracked:∀ {a:Addr} {h':Heap},(∃ o,s.heap.get? a=some o/\H a=none)->Heap.SameBut a s.heap h'->HOk X.prog X.w H h':=fun {a h'} ha hs b ob e=>by
  obtain ⟨_,_,hfree⟩:=ha
  refine (I.hok b ob e).stay (fun c w' hc q=>(hs.2 c ?_).trans q) (fun _ q=>q) fun _ _ q=>q
  rintro rfl
  rcases hc with rfl | hc
  ·rw [hfree] at e;cases e
  ·rw [hfree] at hc;cases hc
 rcases hx with hk | hk
 ·refine wpAny_storeName_local hk hn (fun h' hn' hs=>?_) hcls
  obtain ⟨oL,_,_,hoL,_⟩:=id hn
  refine h _ ⟨I.ok,I.os,I.bare,⟨fun b o e n hb hx=>?_,fun b o e n hb hx=>?_,I.base.free,fun b o e hx=>?_,I.base.tups,I.base.frzs,I.base.tbls⟩,⟨_,hn',fun j y v' e1 e2 e3=>?_⟩,fun y c e=>?_,I.free,I.freeC,fun p hp=>?_,tracked ⟨oL,hoL,I.free⟩ hs,by simpa using I.len⟩ ⟨_,hs,.inl rfl⟩
  ·exact (hs.2 b (hAk (hAi (Heap.lt_size e) I.ok.above))).trans (I.base.keep b o e n hb hx)
  ·obtain ⟨sl,e1⟩:=I.base.slot b o e n hb hx
   exact ⟨sl,(hs.2 b (hAk (hAi (Heap.lt_size e) I.ok.above))).trans e1⟩
  ·obtain ⟨o',e1⟩:=I.base.there b o e hx
   exact ⟨o',(hs.2 b (hAk (hAi (Heap.lt_size e) I.ok.above))).trans e1⟩
  ·by_cases hj:j=i
   ·subst hj
    rw [hi] at e1;cases e1
    rw [List.getElem?_set_self hiσ] at e2
    cases e2
    exact ⟨u,r,.inl ⟨hk,by simp⟩⟩
   ·rw [List.getElem?_set_ne (Ne.symm hj)] at e2
    obtain ⟨u',r',q⟩:=hl j y v' e1 e2 e3
    refine ⟨u',r',?_⟩
    rcases q with ⟨k,e⟩ | ⟨k,c,e,z⟩
    ·refine .inl ⟨k,?_⟩
     have:y≠x:=fun e=>hj (nodup_ix hN e1 (e▸hi))
     simp [this,e]
    ·exact .inr ⟨k,c,e,z.sameBut hs (cne y c e)⟩
  ·obtain ⟨w',z⟩:=I.cell y c e
   exact ⟨w',z.sameBut hs (cne y c e)⟩
  ·obtain ⟨e,n,ne,nf,d⟩:=I.pin p hp
   exact ⟨(hs.2 p.1 ne).trans e,n,ne,nf,d⟩
 ·have hfn:X.fn x=true:=by
   rcases hf with z | z
   ·exact z
   ·rw [z] at hk;cases hk
  obtain ⟨c,hc⟩:=I.ok.has x (.inl hk)
  obtain ⟨w',z⟩:=I.cell x c hc
  refine wpAny_storeName_cell I.ok.kind hk hc z (fun h' hc' hs=>?_)
  obtain ⟨oc,hoc,hocd⟩:=id z
  refine h { s with heap:=h' } ⟨I.ok,I.os,I.bare,⟨fun b o e n hb hx=>?_,fun b o e n hb hx=>?_,I.base.free,fun b o e hx=>?_,I.base.tups,I.base.frzs,I.base.tbls⟩,⟨m,hn.sameBut hs (Ne.symm (cne x c hc)),fun j y v' e1 e2 e3=>?_⟩,fun y c' e=>?_,I.free,I.freeC,fun p hp=>?_,tracked ⟨oc,hoc,I.freeC x c hc⟩ hs,by simpa using I.len⟩ ⟨c,hs,.inr hc⟩
  ·exact (hs.2 b (hAk (hAi (Heap.lt_size e) (I.ok.cab x c hfn hc)))).trans (I.base.keep b o e n hb hx)
  ·obtain ⟨sl,e1⟩:=I.base.slot b o e n hb hx
   exact ⟨sl,(hs.2 b (hAk (hAi (Heap.lt_size e) (I.ok.cab x c hfn hc)))).trans e1⟩
  ·obtain ⟨o',e1⟩:=I.base.there b o e hx
   exact ⟨o',(hs.2 b (hAk (hAi (Heap.lt_size e) (I.ok.cab x c hfn hc)))).trans e1⟩
  ·by_cases hj:j=i
   ·subst hj
    rw [hi] at e1;cases e1
    rw [List.getElem?_set_self hiσ] at e2
    cases e2
    exact ⟨u,r,.inr ⟨.inl hk,c,hc,hc'⟩⟩
   ·rw [List.getElem?_set_ne (Ne.symm hj)] at e2
    obtain ⟨u',r',q⟩:=hl j y v' e1 e2 e3
    refine ⟨u',r',?_⟩
    rcases q with q | ⟨k,c',e,z'⟩
    ·exact .inl q
    ·refine .inr ⟨k,c',e,z'.sameBut hs ?_⟩
     rintro rfl
     exact hj (nodup_ix hN e1 (I.ok.inj _ _ _ e hc▸hi))
  ·by_cases hcc:c'=c
   ·subst hcc;exact ⟨_,hc'⟩
   ·obtain ⟨w2,z2⟩:=I.cell y c' e
    exact ⟨w2,z2.sameBut hs hcc⟩
  ·obtain ⟨e,n,ne,nf,d⟩:=I.pin p hp
   refine ⟨(hs.2 p.1 ?_).trans e,n,ne,nf,d⟩
   intro q
   rw [q,hoc] at e
   have q':oc=p.2:=hAs e
   exact d w' (by rw [<-q'];exact hocd)
theorem store_ok {M:Model} {A:Around} {E:Value->Shared->Prop} {i:Nat} {x:Str} {v:V} {u:Value} {Q:Unit->Shared->Prop} (I:Inv X pins σ H s) (hN:X.N.Nodup) (hi:X.N[i]?=some x) (hx:Loc X.env.scope x) (r:qBg v u)
  (h:∀ s',Inv X pins (σ.set i (some v)) H s'->Q () s') (hf:X.fn x=true\/X.env.scope.names.lookup x=some .local:=by first | exact .inl rfl | exact .inr rfl | assumption):wpAny M A (storeName X.env x u) Q E s :=
 qE1 I hN hi hx r (fun s' I' _=>h s' I') hf
theorem Inv.call' {s':Shared} {ch:List Addr} (I:Inv X pins σ H s) (ho:s'.os=s.os) (u:Un (frs X.stack) ch H H' s.heap s'.heap) (hok:HOk X.prog X.w H' s'.heap) (hg:AllBare s'.gens)
  (hch:∀ b∈ch,(b∈X.ex\/X.s₀.heap.objs.size<=b)/\b≠X.env.locals/\(∀ x c,X.env.cells.lookup x=some c->c≠b)/\∀ p∈X.pn++pins,p.1≠b):Inv X pins σ H' s':=by
 obtain ⟨h',g',d',t',o'⟩:=s'
 have e:o'=s.os:=ho
 subst e
 exact I.call (g':=g') (t':=t') (d':=d') u hok hg hch
end
abbrev XK:=Value->Option Addr->Hp->Prop
abbrev St:=List (Option V)
abbrev VK:=V->Hp->Prop
abbrev TE:=St->Hp->VK->Prop
abbrev TT:=St->Hp->(Bool->Hp->Prop)->Prop
abbrev TA:=St->Hp->(List V->Hp->Prop)->Prop
structure Ends where
 nx:St->Hp->Prop
 rt:VK
 bk:St->Hp->Prop:=fun _ _=>False
 ct:St->Hp->Prop:=fun _ _=>False
abbrev TS:=Ends->St->Hp->Prop
def EP (X:Cx) (pins:List (Addr×Obj)) (σ:St) (Q:VK) (u:Value) (s':Shared):Prop:=∃ v H',Inv X pins σ H' s'/\qBg v u/\Q v H'
def TP (X:Cx) (pins:List (Addr×Obj)) (σ:St) (Q:Bool->Hp->Prop) (b:Bool) (s':Shared):Prop:=∃ H',Inv X pins σ H' s'/\Q b H'
def AP (X:Cx) (pins:List (Addr×Obj)) (σ:St) (Q:List V->Hp->Prop) (us:List Value) (s':Shared):Prop:=∃ vs H',Inv X pins σ H' s'/\qA6 vs us/\Q vs H'
def SP (X:Cx) (pins:List (Addr×Obj)) (D:Ends) (f:Flow) (s':Shared):Prop :=
 match f with
 | .next=>∃ σ' H',Inv X pins σ' H' s'/\D.nx σ' H'
 | .brk=>∃ σ' H',Inv X pins σ' H' s'/\D.bk σ' H'
 | .cont=>∃ σ' H',Inv X pins σ' H' s'/\D.ct σ' H'
 | .ret u=>∃ v σ' H',Inv X pins σ' H' s'/\qBg v u/\D.rt v H'
def PE (X:Cx) (e:Expr) (t:TE):Prop :=
 ∀ (pins:List (Addr×Obj)) (s:Shared) (σ:St) (H:Hp) (Q:VK),Inv X pins σ H s->t σ H Q->wpAny (model X.prog X.w) X.A (eval e X.env) (EP X pins σ Q) X.xe s
def PT (X:Cx) (e:Expr) (t:TT):Prop :=
 ∀ (pins:List (Addr×Obj)) (s:Shared) (σ:St) (H:Hp) (Q:Bool->Hp->Prop),Inv X pins σ H s->t σ H Q->wpAny (model X.prog X.w) X.A (isTrue e X.env (eval e X.env)) (TP X pins σ Q) X.xe s
def PW (X:Cx) (e:Expr) (t:TT):Prop :=
 ∀ (whole:Sem Value) (pins:List (Addr×Obj)) (s:Shared) (σ:St) (H:Hp) (Q:Bool->Hp->Prop),Inv X pins σ H s->t σ H Q->wpAny (model X.prog X.w) X.A (isTrue e X.env whole) (TP X pins σ Q) X.xe s
theorem PW.pt {X:Cx} {e:Expr} {t:TT} (h:PW X e t):PT X e t:=h _
def PA (X:Cx) (es:List Expr) (t:TA):Prop :=
 ∀ (pos:Pos) (pins:List (Addr×Obj)) (s:Shared) (σ:St) (H:Hp) (Q:List V->Hp->Prop),Inv X pins σ H s->t σ H Q->wpAny (model X.prog X.w) X.A (spliced (backTo pos (starEach es X.env))) (AP X pins σ Q) X.xe s
def PS (X:Cx) (st:Stmt) (t:TS):Prop :=
 ∀ (pins:List (Addr×Obj)) (s:Shared) (σ:St) (H:Hp) (D:Ends),Inv X pins σ H s->t D σ H->wpAny (model X.prog X.w) X.A (exec st X.env) (SP X pins D) X.xe s
def PSs (X:Cx) (st:List Stmt) (t:TS):Prop :=
 ∀ (pins:List (Addr×Obj)) (s:Shared) (σ:St) (H:Hp) (D:Ends),Inv X pins σ H s->t D σ H->wpAny (model X.prog X.w) X.A (execs st X.env) (SP X pins D) X.xe s
theorem thn {α:Type} {t:Sem α} {Q Q':α->Shared->Prop} {M:Model} {A:Around} {E:Value->Shared->Prop} {s:Shared} (h:wpAny M A t Q E s) (hQ:∀ a s,Q a s->Q' a s):wpAny M A t Q' E s:=wpAny_mono h hQ fun _ _ x=>x
end L2
namespace L2
open PySem PySem.Spec PyProof.Rows
section
variable {X:Cx}
def tVar (i:Nat):TE:=fun σ H Q=>∃ v,σ[i]?=some (some v)/\Q v H
def tC (v:V):TE:=fun _ H Q=>Q v H
theorem pe_var {i:Nat} {x:Str} {pos:Pos} (hN:X.N[i]?=some x) (hv:Vis X.env.scope x) (hd:(x == ("__debug__" : Str))=false:=by decide) (hcd:(x == ("__classdict__" : Str))=false:=by decide):PE X (.Name x pos) (tVar i):=by
 intro pins s σ H Q I h
 obtain ⟨v,e,h⟩:=h
 obtain ⟨m,hn,hl⟩:=I.loc
 obtain ⟨u,r,l⟩:=hl i x v hN e hv
 have fin:EP X pins σ Q u s:=⟨v,H,I,r,h⟩
 rcases l with ⟨hk,hm⟩ | ⟨hk,c,hc,hcell⟩
 ·exact wpAny_Name (wpAny_loadName_local I.ok.kind hk hn hm fin) hd
 ·rcases hk with hk | hk
  ·exact wpAny_Name (wpAny_loadName_cell I.ok.kind hk hc hcell fin) hd
  ·exact wpAny_Name (wpAny_loadName_free I.ok.kind hk hc hcell fin hcd) hd
theorem qAg {i j pos}:PE X (.Constant (.int i) j pos) (tC (.int i)):=fun _ _ _ H _ I h=>wpAny_Constant_int ⟨.int i,H,I.tok _,⟨_,rfl⟩,h⟩
theorem pe_bl {b j pos}:PE X (.Constant (.bool b) j pos) (tC (.bl b)):=fun _ _ _ H _ I h=>Constant_bool ⟨.bl b,H,I,rfl,h⟩
theorem pe_non {j pos}:PE X (.Constant .none j pos) (tC .non):=fun _ _ _ H _ I h=>Constant_none ⟨.non,H,I,rfl,h⟩
theorem pe_str {x j pos}:PE X (.Constant (.str x) j pos) (tC (.str x)):=fun _ _ _ H _ I h=>Calls.Constant_str ⟨.str x,H,I.tok _,⟨_,rfl⟩,h⟩
def Gl (X:Cx) (x:Str):Prop:=X.env.kindOf x=some .globalImplicit
theorem ld_glob {E:Value->Shared->Prop} {pins:List (Addr×Obj)} {s:Shared} {σ:St} {H:Hp} {x:Str} {u:Value} {pos:Pos} {Q:Value->Shared->Prop} (I:Inv X pins σ H s) (hg:Gl X x) (hm:X.mg x=some u) (h:Q u s)
  (hd:(x == ("__debug__" : Str))=false:=by decide):wpAny (model X.prog X.w) X.A (eval (.Name x pos) X.env) Q E s :=
 Calls.Name_function_global I.ok.kind hg (Calls.loadGlobal_global (by rw [I.ok.glob];exact I.mod.glob.keeps I.bk) hm h) hd
theorem qEh {E:Value->Shared->Prop} {pins:List (Addr×Obj)} {s:Shared} {σ:St} {H:Hp} {x:Str} {u:Value} {pos:Pos} {Q:Value->Shared->Prop} (I:Inv X pins σ H s) (hg:Gl X x) (hm:X.mg x=none) (hv:bootBuiltins x=some u) (h:Q u s)
  (hn:x≠"__name__":=by decide) (hd:(x == ("__debug__" : Str))=false:=by decide):wpAny (model X.prog X.w) X.A (eval (.Name x pos) X.env) Q E s:=by
 obtain ⟨mb,h1,h2⟩:=I.mod.blt
 exact Calls.Name_function_global I.ok.kind hg (Calls.loadGlobal_builtin (by rw [I.ok.glob];exact I.mod.glob.keeps I.bk) hm (by rw [I.ok.blt];exact h1.keeps I.bk) ((h2 x hn).trans hv) h) hd
theorem pe_bltn {x:Str} {v:V} {u:Value} {pos:Pos} (hg:Gl X x) (hm:X.mg x=none) (hv:bootBuiltins x=some u) (r:qBg v u) (hn:x≠"__name__":=by decide) (hd:(x == ("__debug__" : Str))=false:=by decide):PE X (.Name x pos) (tC v) :=
 fun _ _ _ H _ I h=>qEh I hg hm hv ⟨v,H,I,r,h⟩ hn hd
variable {a b:Expr} {ta tb:TE} {pos:Pos}
def tB (t:TE):TT:=fun σ H Q=>t σ H fun x H1=>∃ c,x = .bl c/\Q c H1
theorem pt_val {e:Expr} {t:TE} (h:PE X e t) (he:∀ whole,isTrue e X.env whole=(do let v ← whole;standAt e.pos;holding [v] (truthy v)):=by intro _;rfl):PT X e (tB t):=by
 intro pins s σ H Q I hw
 refine isTrue_plain (thn (h pins s σ H _ I hw) fun v s1 ⟨x,H1,I1,r1,q1⟩=>?_) (he _)
 obtain ⟨d,rfl,q⟩:=q1
 cases r1
 exact wpAny_truthy_bool ⟨H1,I1,q⟩
variable {tA tB':TT} {rest:List Expr}
def tAnd (t u:TT):TT:=fun σ H Q=>t σ H fun c H1=>if c=true then u σ H1 Q else Q false H1
def tOr (t u:TT):TT:=fun σ H Q=>t σ H fun c H1=>if c=true then Q true H1 else u σ H1 Q
def tNot (t:TT):TT:=fun σ H Q=>t σ H fun c H1=>Q (!c) H1
theorem pw_and1 (ha:PT X a tA):PW X (.BoolOp .And [a] pos) tA:=by
 intro wh pins s σ H Q I h
 refine isTrue_and (thn (ha pins s σ H Q I h) fun c s1 e=>?_)
 cases c with
 | true=>exact isTrue_and_nil e
 | false=>exact e
theorem pw_or1 (ha:PT X a tA):PW X (.BoolOp .Or [a] pos) tA:=by
 intro wh pins s σ H Q I h
 refine isTrue_or (thn (ha pins s σ H Q I h) fun c s1 e=>?_)
 cases c with
 | false=>exact isTrue_or_nil e
 | true=>exact e
theorem pw_and (ha:PT X a tA) (hb:PW X (.BoolOp .And (b :: rest) pos) tB'):PW X (.BoolOp .And (a :: b :: rest) pos) (tAnd tA tB'):=by
 intro wh pins s σ H Q I h
 refine isTrue_and (thn (ha pins s σ H _ I h) fun c s1 ⟨H1,I1,q1⟩=>?_)
 cases c with
 | true=>exact hb wh pins s1 σ H1 Q I1 q1
 | false=>exact ⟨H1,I1,q1⟩
theorem pw_or (ha:PT X a tA) (hb:PW X (.BoolOp .Or (b :: rest) pos) tB'):PW X (.BoolOp .Or (a :: b :: rest) pos) (tOr tA tB'):=by
 intro wh pins s σ H Q I h
 refine isTrue_or (thn (ha pins s σ H _ I h) fun c s1 ⟨H1,I1,q1⟩=>?_)
 cases c with
 | true=>exact ⟨H1,I1,q1⟩
 | false=>exact hb wh pins s1 σ H1 Q I1 q1
theorem pt_not (ha:PT X a tA):PT X (.UnaryOp .Not a pos) (tNot tA):=by
 intro pins s σ H Q I h
 exact isTrue_not (ha pins s σ H (fun c H1=>Q (!c) H1) I h)
def tAndV (ta tb:TE):TE:=fun σ H Q=>ta σ H fun x H1=>∃ c,x = .bl c/\if c=true then tb σ H1 Q else Q (.bl false) H1
theorem pe_one {op} {t:TE} (h:PE X a t):PE X (.BoolOp op [a] pos) t:=fun pins s σ H Q I hw=>BoolOp_one (h pins s σ H Q I hw)
theorem pe_and (ha:PE X a ta) (hb:PE X (.BoolOp .And (b :: rest) pos) tb):PE X (.BoolOp .And (a :: b :: rest) pos) (tAndV ta tb):=by
 intro pins s σ H Q I h
 refine BoolOp_and (thn (ha pins s σ H _ I h) fun v s1 ⟨x,H1,I1,r1,q1⟩=>?_)
 obtain ⟨c,rfl,q1⟩:=q1
 cases r1
 refine wpAny_truthy_bool ?_
 cases c with
 | true=>exact hb pins s1 σ H1 Q I1 q1
 | false=>exact ⟨.bl false,H1,I1,rfl,q1⟩
def tIf (t:TT) (ta tb:TE):TE:=fun σ H Q=>t σ H fun c H1=>if c=true then ta σ H1 Q else tb σ H1 Q
theorem qEt {c:Expr} (hc:PT X c tA) (ha:PE X a ta) (hb:PE X b tb):PE X (.IfExp c a b pos) (tIf tA ta tb):=by
 intro pins s σ H Q I h
 refine wpAny_IfExp (thn (hc pins s σ H _ I h) fun d s1 ⟨H1,I1,q1⟩=>?_)
 cases d with
 | true=>exact ha pins s1 σ H1 Q I1 q1
 | false=>exact hb pins s1 σ H1 Q I1 q1
end
end L2
namespace L2
open PySem PySem.Spec PyProof.Rows
def SqL (K:PySem.W.Frag) (H:Hp) (a:Addr) (xs:List V):Prop :=
 Rd H a (.lst xs) \/
  ∃ (o:Obj) (its:Array Value) (n:Nat),K.lookup a=some o/\o.cls = .type "list"/\o.dict=none/\o.data = .seq its n/\its.size<=sizeLine/\qA6 xs its.toList
def SqT (K:PySem.W.Frag) (H:Hp) (a:Addr) (xs:List V):Prop :=
 Rd H a (.tup xs) \/
  ∃ (o:Obj) (its:Array Value) (n:Nat),K.lookup a=some o/\o.cls = .type "tuple"/\o.data = .seq its n/\its.size<=sizeLine/\qA6 xs its.toList
def absV:Value->Option V
 | .none=>some .non
 | .bool b=>some (.bl b)
 | .int i _=>some (.int i)
 | .str x _=>some (.str x)
 | .bytes b _=>some (.byt b)
 | .float b _=>some (.flt b)
 | .ref a=>some (.ref a)
 | .type n=>some (.ty n)
 | _=>none
theorem qBg.abs {x:V} {u:Value} (r:qBg x u):absV u=some x:=by
 cases x with
 | non=>cases r;rfl
 | bl _=>cases r;rfl
 | int _=>obtain ⟨t,rfl⟩:=r;rfl
 | str _=>obtain ⟨t,rfl⟩:=r;rfl
 | byt _=>obtain ⟨t,rfl⟩:=r;rfl
 | flt _=>obtain ⟨t,rfl⟩:=r;rfl
 | ref _=>cases r;rfl
 | ty _=>cases r;rfl
theorem qBg.inj {x y:V} {u:Value} (r:qBg x u) (q:qBg y u):x=y:=hAs (r.abs.symm.trans q.abs)
theorem qA6.inj:∀ {xs ys:List V} {us:List Value},qA6 xs us->qA6 ys us->xs=ys
 | _,_,_,.nil,.nil=>rfl
 | _,_,_,.cons r t,.cons r' t'=>by rw [r.inj r',qA6.inj t t']
section
variable {X:Cx} {pins:List (Addr×Obj)} {σ:St} {H:Hp} {s:Shared} {a:Addr} {xs ys:List V}
theorem SqL.of {K:PySem.W.Frag} (h:H a=some (.lst xs)):SqL K H a xs:=.inl (.inl h)
theorem SqT.of {K:PySem.W.Frag} (h:H a=some (.tup xs)):SqT K H a xs:=.inl (.inl h)
theorem Inv.list (I:Inv X pins σ H s) (h:SqL X.K H a xs):∃ its:List Value,qA6 xs its/\PlainL s.heap a its.toArray/\xs.length<=sizeLine:=by
 rcases h with h | ⟨o,its,n,hk,hc,hd,hs,hz,r⟩
 ·obtain ⟨z,its,n,r,e⟩:=h.ok I.hok
  exact ⟨its,r,⟨_,n,e,rfl,rfl,rfl⟩,z⟩
 ·refine ⟨its.toList,r,⟨o,n,I.kIn a o hk,hc,hd,by simpa using hs⟩,?_⟩
  have e:=r.length
  simp only [hB2] at e
  omega
theorem Inv.tuple (I:Inv X pins σ H s) (h:SqT X.K H a xs):∃ its:List Value,qA6 xs its/\IsTup s.heap a its.toArray/\xs.length<=sizeLine:=by
 rcases h with h | ⟨o,its,n,hk,hc,hs,hz,r⟩
 ·obtain ⟨z,its,r,p⟩:=h.ok I.hok
  exact ⟨its,r,p,z⟩
 ·refine ⟨its.toList,r,⟨o,I.kIn a o hk,hc,n,by simpa using hs⟩,?_⟩
  have e:=r.length
  simp only [hB2] at e
  omega
theorem Inv.list_inj (I:Inv X pins σ H s) (h:SqL X.K H a xs) (h':SqL X.K H a ys):xs=ys:=by
 obtain ⟨its,r,⟨o,n,e,_,_,d⟩,_⟩:=I.list h
 obtain ⟨its',r',⟨o',n',e',_,_,d'⟩,_⟩:=I.list h'
 rw [e] at e';cases e'
 rw [d] at d'
 injection d' with d1 _
 have:its=its':=by simpa using congrArg Array.toList d1
 subst this
 exact r.inj r'
theorem Inv.tuple_inj (I:Inv X pins σ H s) (h:SqT X.K H a xs) (h':SqT X.K H a ys):xs=ys:=by
 obtain ⟨its,r,⟨o,e,_,n,d⟩,_⟩:=I.tuple h
 obtain ⟨its',r',⟨o',e',_,n',d'⟩,_⟩:=I.tuple h'
 rw [e] at e';cases e'
 rw [d] at d'
 injection d' with d1 _
 have:its=its':=by simpa using congrArg Array.toList d1
 subst this
 exact r.inj r'
end
abbrev Cx.wish (X:Cx) (E:Value->Shared->Prop):Cx:={ X with xe:=E }
abbrev Cx.nox (X:Cx):Cx:=X.wish fun _ _=>False
theorem Cx.Ok.wish {X:Cx} (ok:X.Ok) (E:Value->Shared->Prop):(X.wish E).Ok :=
 ⟨ok.mod,ok.kind,ok.glob,ok.blt,ok.above,ok.inj,ok.has,ok.cab,ok.hd,ok.frames,ok.stk,ok.exf,ok.bs,ok.bsz,ok.noex,ok.exfs,ok.funs,ok.frf⟩
theorem Cx.Ok.unwish {X:Cx} {E:Value->Shared->Prop} (ok:(X.wish E).Ok):X.Ok :=
 ⟨ok.mod,ok.kind,ok.glob,ok.blt,ok.above,ok.inj,ok.has,ok.cab,ok.hd,ok.frames,ok.stk,ok.exf,ok.bs,ok.bsz,ok.noex,ok.exfs,ok.funs,ok.frf⟩
section
variable {X:Cx} {pins:List (Addr×Obj)} {σ:St} {H:Hp} {s:Shared} {E:Value->Shared->Prop}
theorem Inv.wish (I:Inv X pins σ H s) (E:Value->Shared->Prop):Inv (X.wish E) pins σ H s:=⟨I.ok.wish E,I.os,I.bare,I.base,I.loc,I.cell,I.free,I.freeC,I.pin,I.hok,I.len⟩
theorem Inv.unwish (I:Inv (X.wish E) pins σ H s):Inv X pins σ H s:=⟨I.ok.unwish,I.os,I.bare,I.base,I.loc,I.cell,I.free,I.freeC,I.pin,I.hok,I.len⟩
theorem SP.unwish {D:Ends} {f:Flow} {s':Shared} (h:SP (X.wish E) pins D f s'):SP X pins D f s':=by
 cases f with
 | next=>obtain ⟨σ',H',I,q⟩:=h;exact ⟨σ',H',I.unwish,q⟩
 | brk=>obtain ⟨σ',H',I,q⟩:=h;exact ⟨σ',H',I.unwish,q⟩
 | cont=>obtain ⟨σ',H',I,q⟩:=h;exact ⟨σ',H',I.unwish,q⟩
 | ret u=>obtain ⟨v,σ',H',I,r,q⟩:=h;exact ⟨v,σ',H',I.unwish,r,q⟩
theorem PSs.nox {st:List Stmt} {t:TS} (h:PSs X.nox st t):PSs X st t:=fun pins s σ H D I hw =>
 wpAny_mono (h pins s σ H D (I.wish _) hw) (fun _ _ q=>q.unwish) fun _ _ z=>False.elim z
end
section
variable {X:Cx} {st:Stmt} {rest:List Stmt} {t u:TS} {e:Expr} {te:TE} {pos:Pos}
def tNext:TS:=fun D σ H=>D.nx σ H
def tSeq (t u:TS):TS:=fun D σ H=>t { D with nx:=u D } σ H
theorem qBr:PSs X [] tNext:=fun _ _ σ H _ I h=>wpAny_execs_nil ⟨σ,H,I,h⟩
theorem pss_cons (h1:PS X st t) (h2:PSs X rest u):PSs X (st :: rest) (tSeq t u):=by
 intro pins s σ H D I h
 refine wpAny_execs_cons (thn (h1 pins s σ H { D with nx:=u D } I h) fun f s1 q=>?_)
 cases f with
 | next =>
  obtain ⟨σ',H',I',q⟩:=q
  exact h2 pins s1 σ' H' D I' q
 | ret v=>exact q
 | brk=>exact q
 | cont=>exact q
theorem qAi (h1:PS X st t):PSs X [st] t:=by
 intro pins s σ H D I h
 refine wpAny_execs_cons (thn (h1 pins s σ H D I h) fun f s1 q=>?_)
 cases f with
 | next=>exact wpAny_execs_nil q
 | ret v=>exact q
 | brk=>exact q
 | cont=>exact q
theorem Inv.quiet {pins:List (Addr×Obj)} {σ:St} {H:Hp} {s:Shared} (I:Inv X pins σ H s):interactive X.env=false:=by simp [interactive,I.ok.kind]
def tDrop (te:TE):TS:=fun D σ H=>te σ H fun _ H1=>D.nx σ H1
theorem qCs (he:PE X e te) (hs:swapsWith e none pos.line X.env=pure false:=by rfl):PS X (.Expr e pos) (tDrop te):=by
 intro pins s σ H D I h
 exact wpAny_Expr_any (thn (he pins s σ H _ I h) fun v s1 ⟨x,H1,I1,r1,q1⟩=>⟨σ,H1,I1,q1⟩) I.quiet hs
def tRet (te:TE):TS:=fun D σ H=>te σ H D.rt
theorem qAv (he:PE X e te):PS X (.Return (some e) pos) (tRet te):=by
 intro pins s σ H D I h
 exact wpAny_Return_some (thn (he pins s σ H _ I h) fun v s1 ⟨x,H1,I1,r1,q1⟩=>⟨x,σ,H1,I1,r1,q1⟩)
def tIfS (c:TT) (t u:TS):TS:=fun D σ H=>c σ H fun b H1=>if b=true then t D σ H1 else u D σ H1
theorem qD1 {c:Expr} {a b:List Stmt} {tc:TT} (hc:PT X c tc) (ha:PSs X a t) (hb:PSs X b u):PS X (.If c a b pos) (tIfS tc t u):=by
 intro pins s σ H D I h
 refine wpAny_If (thn (hc pins s σ H _ I h) fun d s1 ⟨H1,I1,q1⟩=>?_)
 cases d with
 | true=>exact ha pins s1 σ H1 D I1 q1
 | false=>exact hb pins s1 σ H1 D I1 q1
def tNever:TS:=fun _ _ _=>False
theorem ps_never:PS X st tNever:=fun _ _ _ _ _ _ h=>h.elim
end
abbrev TG:=V->St->Hp->(St->Hp->Prop)->Prop
abbrev TGs:=List V->St->Hp->(St->Hp->Prop)->Prop
def PG (X:Cx) (target:Expr) (t:TG):Prop :=
 ∀ (pins:List (Addr×Obj)) (s:Shared) (σ:St) (H:Hp) (v:V) (u:Value) (Q:St->Hp->Prop),Inv X pins σ H s->qBg v u->t v σ H Q ->
  wpAny (model X.prog X.w) X.A (assign target X.env u) (fun _ s'=>∃ σ' H',Inv X pins σ' H' s'/\Q σ' H') X.xe s
def PGs (X:Cx) (ts:List Expr) (t:TGs):Prop :=
 ∀ (pins:List (Addr×Obj)) (s:Shared) (σ:St) (H:Hp) (vs:List V) (us:List Value) (Q:St->Hp->Prop),Inv X pins σ H s->qA6 vs us->t vs σ H Q ->
  wpAny (model X.prog X.w) X.A (assignInOrder ((assignEach ts X.env).map (·.2)) us) (fun _ s'=>∃ σ' H',Inv X pins σ' H' s'/\Q σ' H') X.xe s
abbrev TIp:=V->V->Hp->VK->Prop
def PIp (X:Cx) (op:Operator) (t:TIp):Prop :=
 ∀ (pins:List (Addr×Obj)) (s:Shared) (σ:St) (H:Hp) (x y:V) (v u:Value) (Q:VK),Inv X pins σ H s->qBg x v->qBg y u->t x y H Q ->
  wpAny (model X.prog X.w) X.A (inplaceOp op v u) (EP X pins σ Q) X.xe s
section
variable {X:Cx} {pos:Pos}
def gName (i:Nat):TG:=fun v σ H Q=>Q (σ.set i (some v)) H
theorem qAf {i:Nat} {x:Str} (hN:X.N.Nodup) (hi:X.N[i]?=some x) (hx:Loc X.env.scope x) (hf:X.fn x=true\/X.env.scope.names.lookup x=some .local:=by first | exact .inl rfl | exact .inr rfl | assumption):PG X (.Name x pos) (gName i):=by
 intro pins s σ H v u Q I r h
 exact wpAny_assign_Name (store_ok I hN hi hx r (fun s' I'=>⟨_,H,I',h⟩) hf)
def gNil:TGs:=fun vs σ H Q=>vs=[]/\Q σ H
def gCons (t:TG) (u:TGs):TGs:=fun vs σ H Q=>∃ v r,vs=v :: r/\t v σ H fun σ' H'=>u r σ' H' Q
theorem qBe:PGs X [] gNil:=by
 intro pins s σ H vs us Q I r h
 obtain ⟨e,h⟩:=h
 subst e
 cases r
 exact assignInOrder_nil ⟨σ,H,I,h⟩
theorem qAk {e:Expr} {es:List Expr} {t:TG} {u:TGs} (h1:PG X e t) (h2:PGs X es u)
  (hs:(assignEach (e :: es) X.env).map (·.2)=assign e X.env :: (assignEach es X.env).map (·.2):=by rfl):PGs X (e :: es) (gCons t u):=by
 intro pins s σ H vs us Q I r h
 obtain ⟨v,vr,e1,h⟩:=h
 subst e1
 cases r with
 | cons r rr =>
  rw [hs]
  refine assignInOrder_cons (thn (h1 pins s σ H _ _ _ I r h) fun _ s1 ⟨σ1,H1,I1,q1⟩=>?_)
  exact h2 pins s1 σ1 H1 _ _ Q I1 rr q1
def gTup (K:PySem.W.Frag) (n:Nat) (t:TGs):TG:=fun v σ H Q=>∃ a xs,v = .ref a/\SqT K H a xs/\xs.length=n/\t xs σ H Q
theorem qBt {es:List Expr} {k:Nat} {t:TGs} {n:Nat} (hc:X.calm=true) (h:PGs X es t)
  (hn:(assignEach es X.env).length=n:=by rfl) (hst:(assignEach es X.env).findIdx? (·.1)=none:=by rfl):PG X (.Tuple es k pos) (gTup X.K n t):=by
 intro pins s σ H v u Q I r hw
 obtain ⟨a,xs,e1,hq,hl,hw⟩:=hw
 subst e1
 cases r
 obtain ⟨its,rv,ht,hz⟩:=I.tuple hq
 refine assign_Tuple_tuple (I.ok.hd hc) ht (by simp [hn,<-hl,rv.length]) hst fun h' hx=>?_
 have I1:Inv X pins σ H { s with heap:=h' }:=I.kept (t':=s.toks) fun b o e=>hx b o (hAk (Heap.lt_size e)) e
 exact h pins _ σ H xs _ Q I1 (by simpa using rv) hw
def tAsg (te:TE) (g:TG):TS:=fun D σ H=>te σ H fun x H1=>g x σ H1 D.nx
theorem ps_asg {tg e:Expr} {te:TE} {g:TG} (he:PE X e te) (hg:PG X tg g) (hs:swapsWithSole [tg] e pos.line X.env=pure false:=by rfl) (hw:swappedStores [tg] e X.env=pure none:=by rfl)
  (h1:(assignEach [tg] X.env).map (·.2)=[assign tg X.env]:=by rfl):PS X (.Assign [tg] e pos) (tAsg te g):=by
 intro pins s σ H D I h
 refine wpAny_Assign_stores (thn (he pins s σ H _ I h) fun v s1 ⟨x,H1,I1,r1,q1⟩=>?_) hs hw
 rw [h1]
 exact thn (hg pins s1 σ H1 x v _ I1 r1 q1) fun _ s2 q=>q
theorem qAp {i:Nat} {x:Str} {e:Expr} {te:TE} {pos':Pos} (hN:X.N.Nodup) (hi:X.N[i]?=some x) (hx:Loc X.env.scope x) (he:PE X e te) (hs:swapsWith e (some (.Name x pos')) pos.line X.env=pure false:=by rfl) (hf:X.fn x=true\/X.env.scope.names.lookup x=some .local:=by first | exact .inl rfl | exact .inr rfl | assumption) :
  PS X (.Assign [.Name x pos'] e pos) (tAsg te (gName i)):=by
 intro pins s σ H D I h
 refine wpAny_Assign_Name (thn (he pins s σ H _ I h) fun v s1 ⟨y,H1,I1,r1,q1⟩=>?_) hs
 exact store_ok I1 hN hi hx r1 (fun s2 I2=>⟨_,H1,I2,q1⟩) hf
def tAug (i:Nat) (te:TE) (ti:TIp):TS:=fun D σ H=>∃ x,σ[i]?=some (some x)/\te σ H fun y H1=>ti x y H1 fun z H2=>D.nx (σ.set i (some z)) H2
theorem ps_aug {i:Nat} {x:Str} {e:Expr} {te:TE} {op:Operator} {ti:TIp} {pos':Pos} (hN:X.N.Nodup) (hi:X.N[i]?=some x) (hx:Loc X.env.scope x) (he:PE X e te) (ho:PIp X op ti) (hf:X.fn x=true\/X.env.scope.names.lookup x=some .local:=by first | exact .inl rfl | exact .inr rfl | assumption) :
  PS X (.AugAssign (.Name x pos') op e pos) (tAug i te ti):=by
 intro pins s σ H D I h
 obtain ⟨v,e1,h⟩:=h
 obtain ⟨m,hn,hl⟩:=I.loc
 have vis:Vis X.env.scope x:=by rcases hx with k | k;exact .inl k;exact .inr (.inl k)
 obtain ⟨u,r,l⟩:=hl i x v hi e1 vis
 refine wpAny_AugAssign_Name ?_
 have go:wpAny (model X.prog X.w) X.A (eval e X.env) (fun w s₂=>wpAny (model X.prog X.w) X.A (inplaceOp op u w) (fun r s₃=>wpAny (model X.prog X.w) X.A (storeName X.env x r) (fun _=>SP X pins D .next) X.xe s₃) X.xe s₂) X.xe s:=by
  refine thn (he pins s σ H _ I h) fun w s1 ⟨y,H1,I1,r1,q1⟩=>?_
  refine thn (ho pins s1 σ H1 v y u w _ I1 r r1 q1) fun z s2 ⟨zv,H2,I2,r2,q2⟩=>?_
  exact store_ok I2 hN hi hx r2 (fun s3 I3=>⟨_,H2,I3,q2⟩) hf
 rcases l with ⟨hk,hm⟩ | ⟨hk,c,hc,hcell⟩
 ·exact wpAny_loadName_local I.ok.kind hk hn hm go
 ·rcases hk with hk | hk
  ·exact wpAny_loadName_cell I.ok.kind hk hc hcell go
  ·rcases hx with k | k
   ·have:X.env.scope.names.lookup x=some .free:=hk
    rw [k] at this;cases this
   ·have:X.env.scope.names.lookup x=some .free:=hk
    rw [k] at this;cases this
def ipI (f:Int->Int->Int):TIp:=fun x y H Q=>∃ i j,x = .int i/\y = .int j/\Q (.int (f i j)) H
theorem ip_add:PIp X .Add (ipI fun i j=>i+j):=by
 intro pins s σ H x y v u Q I r1 r2 h
 obtain ⟨i,j,e1,e2,q⟩:=h
 subst e1;subst e2
 obtain ⟨t,rfl⟩:=r1
 obtain ⟨t',rfl⟩:=r2
 exact iadd_int ⟨.int _,H,I.tok _,⟨_,rfl⟩,q⟩
end
section
variable {X:Cx} {pos:Pos}
def tWhile (c:TT) (tb:TS):TS:=fun D σ H=>∃ W:Nat->St->Hp->Prop,(∃ m,W m σ H)/\∀ m σ H,W m σ H ->
 c σ H fun b H1=>if b=true then ∃ N:St->Hp->Prop,(∀ σ' H',N σ' H'->∃ m',m'<m/\W m' σ' H')/\tb { D with nx:=N,ct:=N,bk:=D.nx } σ H1 else D.nx σ H1
theorem ps_while {c:Expr} {body:List Stmt} {tc:TT} {tb:TS} (hp:PassesOwn (model X.prog X.w) X.A X.env X.xe) (hc:PT X c tc) (hb:PSs X body tb):PS X (.While c body [] pos) (tWhile tc tb):=by
 intro pins s σ H D I h
 obtain ⟨W,⟨m0,w0⟩,turn⟩:=h
 refine wpAny_While (codeAny_whileLoop (fun n s'=>∃ σ' H',Inv X pins σ' H' s'/\W n σ' H') ?_ m0 ⟨σ,H,I,w0⟩)
 rintro n s1 ⟨σ1,H1,I1,w1⟩
 refine wpAny_passesOwn hp (thn (hc pins s1 σ1 H1 _ I1 (turn n σ1 H1 w1)) fun b s2 ⟨H2,I2,q2⟩=>?_)
 cases b with
 | true =>
  obtain ⟨N,hN,q2⟩:=q2
  rw [if_pos rfl]
  refine wpAny_passesOwn hp (thn (hb pins s2 σ1 H2 _ I2 q2) fun f s3 q3=>?_)
  cases f with
  | next =>
   obtain ⟨σ3,H3,I3,n3⟩:=q3
   obtain ⟨m',hm,w3⟩:=hN σ3 H3 n3
   exact ⟨m',hm,σ3,H3,I3,w3⟩
  | cont =>
   obtain ⟨σ3,H3,I3,n3⟩:=q3
   obtain ⟨m',hm,w3⟩:=hN σ3 H3 n3
   exact ⟨m',hm,σ3,H3,I3,w3⟩
  | brk=>exact q3
  | ret v=>exact q3
 | false =>
  rw [if_neg hAn]
  exact wpAny_execs_nil ⟨σ1,H2,I2,q2⟩
end
structure It where
 go:Nat->Hp->Prop
 yld:Nat->Hp->V->Hp->Prop
 stop:Nat->Hp->Prop
def FpOk (X:Cx) (pins:List (Addr×Obj)) (H:Hp) (b:Addr):Prop :=
 H b=none/\b≠X.env.locals/\b∉X.fs/\(b∈X.ex\/X.s₀.heap.objs.size<=b)/\(∀ x c,X.env.cells.lookup x=some c->c≠b)/\∀ p∈X.pn++pins,p.1≠b
theorem Inv.fpOk {X:Cx} {pins:List (Addr×Obj)} {σ:St} {H H':Hp} {s:Shared} {b:Addr} (I:Inv X pins σ H s) (hb:s.heap.objs.size<=b) (hn:H' b=none):FpOk X pins H' b:=by
 refine ⟨hn,hCd (hAi I.lt hb),I.nofs hb,.inr (hAv I.sz hb),fun x c e z=>?_,fun p hp z=>?_⟩
 ·obtain ⟨v,q⟩:=I.cell x c e
  exact absurd (hAi q.lt (by rw [z];exact hb)) (hC0 _)
 ·exact absurd (hAi (Heap.lt_size (I.pin p hp).1) (by rw [z];exact hb)) (hC0 _)
structure Turn (P:Program) (w:World) (K:PySem.W.Frag) (tg:Expr) (J:It) (fp:List Addr) (it:Addr) (tn:Nat->Heap->Prop):Prop where
 mem:it∈fp
 obj:∀ i h,tn i h->∀ b∈fp,∃ o,h.get? b=some o/\∀ v,o.data≠.cell v
 keep:∀ i h h',tn i h->(∀ b∈fp,∀ o,h.get? b=some o->h'.get? b=some o)->tn i h'
 item:∀ (X:Cx),X.prog=P->X.w=w->X.K=K->X.calm=true->∀ (i:Nat) (pins:List (Addr×Obj)) (s:Shared) (σ:St) (H:Hp) (E:Value->Shared->Prop),Inv X pins σ H s->(∀ b∈fp,FpOk X pins H b)->tn i s.heap->J.go i H ->
  wpAny (model P w) X.A (pyNext (.ref it)) (fun r s1=>∃ u,r=some u /\
   wpAny (model P w) X.A (letOwnedTupleGo tg (.ref it) u) (fun _ s2=>∃ x H',Inv X pins σ H' s2/\qBg x u/\J.yld i H x H'/\tn (i+1) s2.heap/\∀ b∈fp,H' b=none) E s1) E s
 done:∀ (X:Cx),X.prog=P->X.w=w->X.K=K->X.calm=true->∀ (i:Nat) (pins:List (Addr×Obj)) (s:Shared) (σ:St) (H:Hp) (E:Value->Shared->Prop),Inv X pins σ H s->(∀ b∈fp,FpOk X pins H b)->tn i s.heap->J.stop i H ->
  wpAny (model P w) X.A (pyNext (.ref it)) (fun r s1=>r=none/\Inv X pins σ H s1) E s
 self:∀ (A:Around) (i:Nat) (s:Shared) (Q:Value->Shared->Prop) (E:Value->Shared->Prop),tn i s.heap->Q (.ref it) s->wpAny (model P w) A (pyIter (.ref it)) Q E s
abbrev TI:=St->Hp->(It->Hp->Prop)->Prop
def PIE (X:Cx) (pins:List (Addr×Obj)) (σ:St) (tg:Expr) (R:It->Hp->Prop) (itv:Value) (s2:Shared):Prop :=
 ∃ (it:Addr) (fp:List Addr) (tn:Nat->Heap->Prop) (J:It) (H':Hp),itv = .ref it/\Inv X pins σ H' s2/\Turn X.prog X.w X.K tg J fp it tn/\tn 0 s2.heap/\(∀ b∈fp,FpOk X pins H' b)/\R J H'
def PI (X:Cx) (tg iter:Expr) (wi:TI):Prop :=
 ∀ (pins:List (Addr×Obj)) (s:Shared) (σ:St) (H:Hp) (R:It->Hp->Prop),Inv X pins σ H s->wi σ H R ->
  wpAny (model X.prog X.w) X.A (eval iter X.env) (fun v s1=>wpAny (model X.prog X.w) X.A (pyIter v) (PIE X pins σ tg R) X.xe s1) X.xe s
theorem go_of {M:Model} {A:Around} {E:Value->Shared->Prop} {s:Shared} {tg:Expr} {it:Addr} {u:Value} {o:Obj} {n:String} {vs:Array Value} {Q:Unit->Shared->Prop} (ho:s.heap.get? it=some o) (hc:o.cls = .type n) (hd:o.data = .fields vs)
  (hn:["enumerate","zip","dict_itemiterator","dict_reverseitemiterator","odict_iterator","itertools.zip_longest","itertools.pairwise"].contains n=false) (hQ:Q () s):wpAny M A (letOwnedTupleGo tg (.ref it) u) Q E s:=by
 unfold letOwnedTupleGo
 cases tg <;> first
  | exact wpAny_pure hQ
  | (cases u <;> first
    | exact wpAny_pure hQ
    | (refine wpAny_bind (wpAny_load ho ?_);rw [hc,hd];show wpAny M A (if (["enumerate","zip","dict_itemiterator","dict_reverseitemiterator","odict_iterator","itertools.zip_longest","itertools.pairwise"].contains n && vs[0]? == some (rawInt _))=true then _ else _) Q E s;rw [if_neg (by intro h;rw [hn,Bool.false_and] at h;cases h)];exact wpAny_pure hQ))
def Itl (K:PySem.W.Frag) (a:Addr):It :=
 ⟨fun i H=>∃ xs x,SqL K H a xs/\xs[i]?=some x,fun i H x H'=>H'=H/\∀ xs,SqL K H a xs->xs[i]?=some x,fun i H=>∃ xs,SqL K H a xs/\xs.length<=i⟩
def Itt (K:PySem.W.Frag) (a:Addr):It :=
 ⟨fun i H=>∃ xs x,SqT K H a xs/\xs[i]?=some x,fun i H x H'=>H'=H/\∀ xs,SqT K H a xs->xs[i]?=some x,fun i H=>∃ xs,SqT K H a xs/\xs.length<=i⟩
def Itr (lo:Int) (n:Nat):It:=⟨fun i _=>i<n,fun i H x H'=>H'=H/\x = .int (lo+i),fun i _=>n<=i⟩
theorem turn_list {P:Program} {w:World} {K:PySem.W.Frag} {tg:Expr} (a it:Addr):Turn P w K tg (Itl K a) [it] it (fun i h=>h.IsListIter it a i) where
 mem:=by simp
 obj:=fun i h st b hb=>by
  have e:b=it:=by simpa using hb
  subst e
  obtain ⟨o,e,c,d⟩:=st
  exact ⟨o,e,fun v z=>by rw [d] at z;cases z⟩
 keep:=fun i h h' st k=>st.at fun o e=>k it (by simp) o e
 item:=by
  intro X hP hw hK hc i pins s σ H E I hf st hg
  subst hP hw hK
  obtain ⟨xs,x,hq,hx⟩:=hg
  obtain ⟨its,rv,p,hz⟩:=I.list hq
  obtain ⟨u,hu,ru⟩:=rv.get hx
  obtain ⟨f0,f1,f2,f3,f4,f5⟩:=hf it (by simp)
  refine wpAny_pyNext_list_item st p.isList (x:=u) (by simpa using hu) fun h' st' sb=>?_
  have I1:Inv X pins σ H { s with heap:=h' }:=I.turned (t':=s.toks) (fun b o hb e=>(sb.2 b hb).trans e) f0 f1 f3 f4 f5
  obtain ⟨o,e,c,d⟩:=id st'
  exact ⟨u,rfl,go_of (s:={ s with heap:=h' }) e c d (by decide) ⟨x,H,I1,ru,⟨rfl,fun ys hy=>by rw [I.list_inj hy hq];exact hx⟩,st',fun b hb=>(hf b hb).1⟩⟩
 done:=by
  intro X hP hw hK hc i pins s σ H E I hf st hg
  subst hP hw hK
  obtain ⟨xs,hq,hx⟩:=hg
  obtain ⟨its,rv,p,hz⟩:=I.list hq
  obtain ⟨f0,f1,f2,f3,f4,f5⟩:=hf it (by simp)
  have hl:=rv.length
  exact wpAny_pyNext_list_end (I.ok.hd hc) st p.isList (by simp;omega) fun h' eb=>⟨rfl,I.turned (t':=s.toks) (fun b o hb e=>eb b o hb e) f0 f1 f3 f4 f5⟩
 self:=fun _ _ _ _ _ st h=>wpAny_pyIter_listiter st h
theorem turn_tuple {P:Program} {w:World} {K:PySem.W.Frag} {tg:Expr} (a it:Addr):Turn P w K tg (Itt K a) [it] it (fun i h=>h.IsTupleIter it a i) where
 mem:=by simp
 obj:=fun i h st b hb=>by
  have e:b=it:=by simpa using hb
  subst e
  obtain ⟨o,e,c,d⟩:=st
  exact ⟨o,e,fun v z=>by rw [d] at z;cases z⟩
 keep:=fun i h h' st k=>st.at fun o e=>k it (by simp) o e
 item:=by
  intro X hP hw hK hc i pins s σ H E I hf st hg
  subst hP hw hK
  obtain ⟨xs,x,hq,hx⟩:=hg
  obtain ⟨its,rv,p,hz⟩:=I.tuple hq
  obtain ⟨u,hu,ru⟩:=rv.get hx
  obtain ⟨f0,f1,f2,f3,f4,f5⟩:=hf it (by simp)
  refine wpAny_pyNext_tuple_item st (show s.heap.IsTuple a its.toArray from p) (x:=u) (by simpa using hu) fun h' st' sb=>?_
  have I1:Inv X pins σ H { s with heap:=h' }:=I.turned (t':=s.toks) (fun b o hb e=>(sb.2 b hb).trans e) f0 f1 f3 f4 f5
  obtain ⟨o,e,c,d⟩:=id st'
  exact ⟨u,rfl,go_of (s:={ s with heap:=h' }) e c d (by decide) ⟨x,H,I1,ru,⟨rfl,fun ys hy=>by rw [I.tuple_inj hy hq];exact hx⟩,st',fun b hb=>(hf b hb).1⟩⟩
 done:=by
  intro X hP hw hK hc i pins s σ H E I hf st hg
  subst hP hw hK
  obtain ⟨xs,hq,hx⟩:=hg
  obtain ⟨its,rv,p,hz⟩:=I.tuple hq
  obtain ⟨f0,f1,f2,f3,f4,f5⟩:=hf it (by simp)
  have hl:=rv.length
  exact wpAny_pyNext_tuple_end (I.ok.hd hc) st (show s.heap.IsTuple a its.toArray from p) (by simp;omega) fun h' eb=>⟨rfl,I.turned (t':=s.toks) (fun b o hb e=>eb b o hb e) f0 f1 f3 f4 f5⟩
 self:=fun _ _ _ _ _ st h=>wpAny_pyIter_tupleiter st h
theorem turn_range {P:Program} {w:World} {K:PySem.W.Frag} {tg:Expr} (it:Addr) (lo:Int) (n:Nat):Turn P w K tg (Itr lo n) [it] it (fun i h=>IsRangeIter h it (lo+(i:Nat)*1) ((n:Int) - (i:Nat)) 1) where
 mem:=by simp
 obj:=fun i h st b hb=>by
  have e:b=it:=by simpa using hb
  subst e
  exact ⟨_,st,fun v z=>by
   have z':Data.fields _=Data.cell v:=z
   cases z'⟩
 keep:=fun i h h' st k=>k it (by simp) _ st
 item:=by
  intro X hP hw hK hc i pins s σ H E I hf st hg
  subst hP hw hK
  obtain ⟨f0,f1,f2,f3,f4,f5⟩:=hf it (by simp)
  have W:=Walks.range (prog:=X.prog) (w:=X.w) (I.ok.hd hc) it lo 1 n
  refine W.item i s _ _ hg st fun v h' tk hv st' kk=>?_
  obtain ⟨t,rfl⟩:=hv
  have I1:Inv X pins σ H { s with heap:=h',toks:=tk }:=I.turned (fun b o hb e=>kk b o (by simpa using hb) e) f0 f1 f3 f4 f5
  refine ⟨_,rfl,go_of (s:={ s with heap:=h',toks:=tk }) (n:="range_iterator") st' rfl rfl (by decide) ⟨.int (lo+i),H,I1,⟨t,?_⟩,⟨rfl,rfl⟩,st',fun b hb=>(hf b hb).1⟩⟩
  rw [Int.mul_one]
 done:=by
  intro X hP hw hK hc i pins s σ H E I hf st hg
  subst hP hw hK
  obtain ⟨f0,f1,f2,f3,f4,f5⟩:=hf it (by simp)
  exact wpAny_pyNext_range_end (I.ok.hd hc) st (by have:n<=i:=hg;omega) fun h' eb=>⟨rfl,I.turned (t':=s.toks) (fun b o hb e=>eb b o hb e) f0 f1 f3 f4 f5⟩
 self:=fun _ _ _ _ _ st h=>wpAny_pyIter_rangeiter st h
end L2
namespace L2
open PySem PySem.Spec PyProof.Rows
section
variable {X:Cx} {tg:Expr}
def iList (K:PySem.W.Frag) (tl:TE):TI:=fun σ H R=>tl σ H fun x H1=>∃ a,x = .ref a/\(∃ xs,SqL K H1 a xs)/\R (Itl K a) H1
def iTup (K:PySem.W.Frag) (tl:TE):TI:=fun σ H R=>tl σ H fun x H1=>∃ a,x = .ref a/\(∃ xs,SqT K H1 a xs)/\R (Itt K a) H1
theorem qAs {l:Expr} {tl:TE} (hl:PE X l tl):PI X tg l (iList X.K tl):=by
 intro pins s σ H R I h
 refine thn (hl pins s σ H _ I h) fun v s1 ⟨x,H1,I1,r1,q1⟩=>?_
 obtain ⟨a,e,⟨xs,hq⟩,q⟩:=q1
 subst e
 cases r1
 obtain ⟨its,rv,p,hz⟩:=I1.list hq
 refine wpAny_pyIter_list p.isList ?_
 refine ⟨s1.heap.objs.size,[s1.heap.objs.size],_,_,H1,rfl,I1.kept (t':=s1.toks) fun b o e=>Heap.get?_push_of_some _ e,turn_list a _,⟨_,Heap.get?_push_size _ rfl,rfl,rfl⟩,fun b hb=>?_,q⟩
 have e:b=s1.heap.objs.size:=by simpa using hb
 subst e
 exact I1.fpOk (hA5 _) (I1.hok.fresh (hA5 _))
theorem pi_tup {l:Expr} {tl:TE} (hl:PE X l tl):PI X tg l (iTup X.K tl):=by
 intro pins s σ H R I h
 refine thn (hl pins s σ H _ I h) fun v s1 ⟨x,H1,I1,r1,q1⟩=>?_
 obtain ⟨a,e,⟨xs,hq⟩,q⟩:=q1
 subst e
 cases r1
 obtain ⟨its,rv,p,hz⟩:=I1.tuple hq
 refine wpAny_pyIter_tuple (show s1.heap.IsTuple a its.toArray from p) ?_
 refine ⟨s1.heap.objs.size,[s1.heap.objs.size],_,_,H1,rfl,I1.kept (t':=s1.toks) fun b o e=>Heap.get?_push_of_some _ e,turn_tuple a _,⟨_,Heap.get?_push_size _ rfl,rfl,rfl⟩,fun b hb=>?_,q⟩
 have e:b=s1.heap.objs.size:=by simpa using hb
 subst e
 exact I1.fpOk (hA5 _) (I1.hok.fresh (hA5 _))
theorem range_it {pins:List (Addr×Obj)} {σ:St} {H:Hp} {s:Shared} {R:It->Hp->Prop} {E:Value->Shared->Prop} {lo hi:Int} {t u v:Tok} {tk:Nat} (I:Inv X pins σ H s) (h1:-(2^62)<=lo) (h2:lo<2^62) (h3:-(2^62)<=hi) (h4:hi<2^62)
  (q:R (Itr lo (hi - lo).toNat) H):wpAny (model X.prog X.w) X.A (pyIter (.ref s.heap.objs.size)) (PIE X pins σ tg R) E { s with heap:=s.heap.push { cls:=.type "range",data:=.fields #[.int lo t,.int hi u,.int 1 v] },toks:=tk }:=by
 refine wpAny_pyIter_range (IsRange.new ..) (small_one h1 h2 h3 h4) ?_
 have I1:Inv X pins σ H { s with heap:=s.heap.push { cls:=.type "range",data:=.fields #[.int lo t,.int hi u,.int 1 v] },toks:=tk }:=I.kept fun b o e=>Heap.get?_push_of_some _ e
 refine ⟨(s.heap.push { cls:=.type "range",data:=.fields #[.int lo t,.int hi u,.int 1 v] }).objs.size,[(s.heap.push { cls:=.type "range",data:=.fields #[.int lo t,.int hi u,.int 1 v] }).objs.size],_,_,H,rfl,
  I1.kept (t':=tk) fun b o e=>Heap.get?_push_of_some _ e,turn_range _ lo (hi - lo).toNat,?_,fun b hb=>?_,q⟩
 ·have e1:lo+((0:Nat):Int)*1=lo:=by simp
  have e2:(((hi - lo).toNat:Nat):Int) - ((0:Nat):Int)=Builtin.Range.rangeSize lo hi 1:=by rw [rangeSize_one];split <;> omega
  show IsRangeIter _ _ (lo+((0:Nat):Int)*1) ((((hi - lo).toNat:Nat):Int) - ((0:Nat):Int)) 1
  rw [e1,e2]
  exact Heap.get?_push_size _ rfl
 ·have e:b=(s.heap.push { cls:=.type "range",data:=.fields #[.int lo t,.int hi u,.int 1 v] }).objs.size:=by simpa using hb
  subst e
  exact I1.fpOk (hA5 _) (I1.hok.fresh (hA5 _))
def iRng1 (ta:TA):TI:=fun σ H R=>ta σ H fun vs H1=>∃ j:Int,vs=[.int j]/\-(2^62)<=j/\j<2^62/\R (Itr 0 j.toNat) H1
theorem qCg {a:Expr} {ta:TA} {p pos:Pos} (hg:Gl X "range") (hm:X.mg "range" = none) (ha:PA X [a] ta) (hs:starEach [a] X.env=[(false,eval a X.env)]:=by rfl):PI X tg (.Call (.Name "range" p) [a] [] pos) (iRng1 ta):=by
 intro pins s σ H R I h
 refine Call_ (qEh I hg hm boot_range (hCu (thn (ha pos pins s σ H _ I h) fun us s1 ⟨vs,H1,I1,r1,q1⟩=>?_) hs rfl))
 obtain ⟨j,e,q1,q2,q⟩:=q1
 subst e
 cases r1 with
 | cons r rr =>
  cases rr
  obtain ⟨t,rfl⟩:=r
  exact call_range_1 (range_it I1 (by omega) (by omega) q1 q2 (by simpa using q))
def tFor (wi:TI) (g:TG) (tb:TS):TS:=fun D σ H=>wi σ H fun J H1=>∃ W:Nat->Nat->St->Hp->Prop,(∃ m,W 0 m σ H1)/\∀ i m σ H,W i m σ H ->
 (J.stop i H/\D.nx σ H)\/(J.go i H/\∃ N:St->Hp->Prop,(∀ σ' H',N σ' H'->∃ m',m'<m/\W (i+1) m' σ' H')/\∀ x H',J.yld i H x H'->g x σ H' fun σ2 H2=>tb { D with nx:=N,ct:=N,bk:=D.nx } σ2 H2)
def pinsAt (fp:List Addr) (h:Heap):List (Addr×Obj):=fp.filterMap fun b=>(h.get? b).map fun o=>(b,o)
theorem qBi {fp:List Addr} {h:Heap} {b:Addr} {o:Obj} (hb:b∈fp) (e:h.get? b=some o):(b,o)∈pinsAt fp h:=List.mem_filterMap.mpr ⟨b,hb,by rw [e];rfl⟩
theorem of_pinsAt {fp:List Addr} {h:Heap} {p:Addr×Obj} (hp:p∈pinsAt fp h):p.1∈fp/\h.get? p.1=some p.2:=by
 obtain ⟨b,hb,e⟩:=List.mem_filterMap.mp hp
 cases q:h.get? b with
 | none=>rw [q] at e;cases e
 | some o =>
  rw [q] at e
  have e':(b,o)=p:=hAs e
  subst e'
  exact ⟨hb,q⟩
theorem Inv.pinned {pins:List (Addr×Obj)} {σ:St} {H:Hp} {s:Shared} {fp:List Addr} (I:Inv X pins σ H s) (hf:∀ b∈fp,FpOk X pins H b) (ho:∀ b∈fp,∃ o,s.heap.get? b=some o/\∀ v,o.data≠.cell v):Inv X (pins++pinsAt fp s.heap) σ H s :=
 I.pins_of fun p hp=>(hAf.mp hp).elim (fun z=>I.pin p (hA6 _ z)) fun z=>by
  obtain ⟨hb,e⟩:=of_pinsAt z
  obtain ⟨f0,f1,f2,_⟩:=hf p.1 hb
  obtain ⟨o,e',d⟩:=ho p.1 hb
  rw [e] at e';cases e'
  exact ⟨e,f0,f1,f2,d⟩
theorem Inv.unpinned {pins pl:List (Addr×Obj)} {σ:St} {H:Hp} {s:Shared} (I:Inv X (pins++pl) σ H s):Inv X pins σ H s:=I.pins_of fun p hp=>I.pin p (hA6 _ (hAm _ hp))
theorem qBs {iter:Expr} {body:List Stmt} {wi:TI} {g:TG} {tb:TS} {pos:Pos} (hp:PassesOwn (model X.prog X.w) X.A X.env X.xe) (hc:X.calm=true) (hi:PI X tg iter wi) (hg:PG X tg g) (hb:PSs X body tb)
  (hs:∀ x,foldedSetIterable iter X.env x=pure x:=by intro _;rfl):PS X (.For tg iter body [] pos) (tFor wi g tb):=by
 intro pins s σ H D I h
 refine wpAny_For (thn (hi pins s σ H _ I h) fun v s1 h1=>thn h1 fun itv s2 h2=>?_) hs
 obtain ⟨it,fp,tn,J,H2,e,I2,T,st2,f2,W,⟨m0,w0⟩,turn⟩:=h2
 subst e
 have stat:∀ {H':Hp},(∀ b∈fp,H' b=none)->∀ b∈fp,FpOk X pins H' b:=fun hn b hb=>⟨hn b hb,(f2 b hb).2⟩
 refine codeAny_forLoop_any (fun n s'=>∃ i σ' H',Inv X pins σ' H' s'/\tn i s'.heap/\(∀ b∈fp,H' b=none)/\W i n σ' H') ?_ m0 ⟨0,σ,H2,I2,st2,fun b hb=>(f2 b hb).1,w0⟩
 rintro n s3 ⟨i,σ3,H3,I3,st3,fr3,w3⟩
 rcases turn i n σ3 H3 w3 with ⟨stop,qn⟩ | ⟨go,N,hN,step⟩
 ·refine wpAny_passesOwn hp (thn (T.done X rfl rfl rfl hc i pins s3 σ3 H3 X.xe I3 (stat fr3) st3 stop) fun r s4 ⟨hr,I4⟩=>?_)
  subst hr
  exact wpAny_execs_nil ⟨σ3,H3,I4,qn⟩
 ·refine wpAny_passesOwn hp (thn (T.item X rfl rfl rfl hc i pins s3 σ3 H3 X.xe I3 (stat fr3) st3 go) fun r s4 ⟨u,hr,h4⟩=>?_)
  subst hr
  refine wpAny_passesOwn hp (thn h4 fun _ s5 ⟨x,H5,I5,r5,y5,st5,fr5⟩=>?_)
  have I5':=I5.pinned (stat fr5) (T.obj _ _ st5)
  refine wpAny_passesOwn hp (thn (hg _ s5 σ3 H5 x u _ I5' r5 (step x H5 y5)) fun _ s6 ⟨σ6,H6,I6,q6⟩=>?_)
  refine wpAny_passesOwn hp (thn (hb _ s6 σ6 H6 _ I6 q6) fun f s7 q7=>?_)
  have again:∀ {σ7:St} {H7:Hp},Inv X (pins++pinsAt fp s5.heap) σ7 H7 s7->N σ7 H7->∃ m,m<n/\∃ i σ' H',Inv X pins σ' H' s7/\tn i s7.heap/\(∀ b∈fp,H' b=none)/\W i m σ' H':=fun {σ7 H7} I7 n7=>by
   obtain ⟨m',hm,w7⟩:=hN σ7 H7 n7
   refine ⟨m',hm,i+1,σ7,H7,I7.unpinned,T.keep _ _ _ st5 fun b hb o e=>(I7.pin (b,o) (hA6 _ (hA6 _ (qBi hb e)))).1,fun b hb=>?_,w7⟩
   obtain ⟨o,e,d⟩:=T.obj _ _ st5 b hb
   exact (I7.pin (b,o) (hA6 _ (hA6 _ (qBi hb e)))).2.1
  cases f with
  | next=>obtain ⟨σ7,H7,I7,n7⟩:=q7;exact again I7 n7
  | cont=>obtain ⟨σ7,H7,I7,n7⟩:=q7;exact again I7 n7
  | brk=>obtain ⟨σ7,H7,I7,q7⟩:=q7;exact ⟨σ7,H7,I7.unpinned,q7⟩
  | ret v=>obtain ⟨x7,σ7,H7,I7,r7,q7⟩:=q7;exact ⟨x7,σ7,H7,I7.unpinned,r7,q7⟩
end
theorem qBz {K:PySem.W.Frag} {a:Addr} {xs:List V} {g:TG} {tb:TS} {D:Ends} {σ:St} {H:Hp} (Pv:Nat->St->Hp->Prop) (h0:Pv 0 σ H) (hl:∀ i σ H,i<=xs.length->Pv i σ H->SqL K H a xs)
  (hs:∀ i x σ H,xs[i]?=some x->Pv i σ H->g x σ H fun σ2 H2=>tb { D with nx:=Pv (i+1),ct:=Pv (i+1),bk:=D.nx } σ2 H2) (hd:∀ σ H,Pv xs.length σ H->D.nx σ H) :
  ∃ W:Nat->Nat->St->Hp->Prop,(∃ m,W 0 m σ H)/\∀ i m σ H,W i m σ H ->
   ((Itl K a).stop i H/\D.nx σ H)\/((Itl K a).go i H/\∃ N:St->Hp->Prop,(∀ σ' H',N σ' H'->∃ m',m'<m/\W (i+1) m' σ' H')/\∀ x H',(Itl K a).yld i H x H'->g x σ H' fun σ2 H2=>tb { D with nx:=N,ct:=N,bk:=D.nx } σ2 H2):=by
 refine ⟨fun i m σ H=>m=xs.length - i/\i<=xs.length/\Pv i σ H,⟨xs.length,by simp,hAt _,h0⟩,?_⟩
 rintro i m σ H ⟨rfl,hi,p⟩
 have q:=hl i σ H hi p
 by_cases hlt:i<xs.length
 ·refine .inr ⟨⟨xs,xs[i],q,by simp [hlt]⟩,Pv (i+1),fun σ' H' p'=>⟨xs.length - (i+1),by omega,rfl,hlt,p'⟩,fun x H' y=>?_⟩
  obtain ⟨e,y⟩:=y
  subst e
  exact hs i x σ _ (y xs q) p
 ·have e:i=xs.length:=by omega
  subst e
  exact .inl ⟨⟨xs,q,hA5 _⟩,hd σ H p⟩
theorem qCw {lo:Int} {n:Nat} {g:TG} {tb:TS} {D:Ends} {σ:St} {H:Hp} (Pv:Nat->St->Hp->Prop) (h0:Pv 0 σ H)
  (hs:∀ i σ H,i<n->Pv i σ H->g (.int (lo+i)) σ H fun σ2 H2=>tb { D with nx:=Pv (i+1),ct:=Pv (i+1),bk:=D.nx } σ2 H2) (hd:∀ σ H,Pv n σ H->D.nx σ H) :
  ∃ W:Nat->Nat->St->Hp->Prop,(∃ m,W 0 m σ H)/\∀ i m σ H,W i m σ H ->
   ((Itr lo n).stop i H/\D.nx σ H)\/((Itr lo n).go i H/\∃ N:St->Hp->Prop,(∀ σ' H',N σ' H'->∃ m',m'<m/\W (i+1) m' σ' H')/\∀ x H',(Itr lo n).yld i H x H'->g x σ H' fun σ2 H2=>tb { D with nx:=N,ct:=N,bk:=D.nx } σ2 H2):=by
 refine ⟨fun i m σ H=>m=n - i/\i<=n/\Pv i σ H,⟨n,by simp,hAt _,h0⟩,?_⟩
 rintro i m σ H ⟨rfl,hi,p⟩
 by_cases hlt:i<n
 ·refine .inr ⟨hlt,Pv (i+1),fun σ' H' p'=>⟨n - (i+1),by omega,rfl,hlt,p'⟩,fun x H' y=>?_⟩
  obtain ⟨e,y⟩:=y
  subst e y
  exact hs i σ _ hlt p
 ·have e:i=n:=by omega
  subst e
  exact .inl ⟨hA5 _,hd σ H p⟩
end L2
namespace L2
open PySem PySem.Spec PyProof.Rows
abbrev R2:=V->V->Hp->VK->Prop
def OpR (X:Cx) (f:Value->Value->Sem Value) (r:R2):Prop :=
 ∀ (pins:List (Addr×Obj)) (s:Shared) (σ:St) (H:Hp) (x y:V) (v u:Value) (Q:VK),Inv X pins σ H s->qBg x v->qBg y u->r x y H Q ->
  wpAny (model X.prog X.w) X.A (f v u) (EP X pins σ Q) X.xe s
def qBq (X:Cx) (f:Value) (r:List V->Hp->VK->Prop):Prop :=
 ∀ (pins:List (Addr×Obj)) (s:Shared) (σ:St) (H:Hp) (xs:List V) (us:List Value) (Q:VK),Inv X pins σ H s->qA6 xs us->r xs H Q ->
  wpAny (model X.prog X.w) X.A (call f us) (EP X pins σ Q) X.xe s
def TruR (X:Cx) (r:V->Hp->(Bool->Hp->Prop)->Prop):Prop :=
 ∀ (pins:List (Addr×Obj)) (s:Shared) (σ:St) (H:Hp) (x:V) (v:Value) (Q:Bool->Hp->Prop),Inv X pins σ H s->qBg x v->r x H Q ->
  wpAny (model X.prog X.w) X.A (truthy v) (TP X pins σ Q) X.xe s
def tOp (r:R2) (ta tb:TE):TE:=fun σ H Q=>ta σ H fun x H1=>tb σ H1 fun y H2=>r x y H2 Q
def rI (C:Int->Int->Prop) (g:Int->Int->V):R2:=fun x y H Q=>∃ i j,x = .int i/\y = .int j/\C i j/\Q (g i j) H
def rI0 (g:Int->Int->V):R2:=fun x y H Q=>∃ i j,x = .int i/\y = .int j/\Q (g i j) H
section
variable {X:Cx} {a b c:Expr} {ta tb tc:TE} {pos:Pos}
theorem binT (ha:PE X a ta) (hb:PE X b tb) {pins:List (Addr×Obj)} {s:Shared} {σ:St} {H:Hp} {R:V->V->Hp->Prop} (I:Inv X pins σ H s)
  (h:ta σ H fun x H1=>tb σ H1 fun y H2=>R x y H2) {Q:Value->Shared->Prop} {f:Value->Value->Sem Value}
  (hf:∀ v u s2 x y H2,Inv X pins σ H2 s2->qBg x v->qBg y u->R x y H2->wpAny (model X.prog X.w) X.A (f v u) Q X.xe s2) :
  wpAny (model X.prog X.w) X.A (eval a X.env) (fun v s₁=>wpAny (model X.prog X.w) X.A (eval b X.env) (fun u s₂=>wpAny (model X.prog X.w) X.A (f v u) Q X.xe s₂) X.xe s₁) X.xe s:=by
 refine thn (ha pins s σ H _ I h) fun v s1 ⟨x,H1,I1,r1,q1⟩=>?_
 refine thn (hb pins s1 σ H1 _ I1 q1) fun u s2 ⟨y,H2,I2,r2,q2⟩=>?_
 exact hf v u s2 x y H2 I2 r1 r2 q2
theorem qAo {op:Operator} {r:R2} (ho:OpR X (binaryOp op) r) (ha:PE X a ta) (hb:PE X b tb):PE X (.BinOp a op b pos) (tOp r ta tb):=by
 intro pins s σ H Q I h
 exact wpAny_BinOp (binT ha hb I h fun v u s2 x y H2 I2 rx ry q=>ho pins s2 σ H2 x y v u Q I2 rx ry q)
theorem opI {f:Value->Value->Sem Value} {C:Int->Int->Prop} {g:Int->Int->Int}
  (rule:∀ (i j:Int) (t u:Tok) (s:Shared) (Q:Value->Shared->Prop) (E:Value->Shared->Prop),C i j->Q (.int (g i j) s.toks) { s with toks:=s.toks+1 }->wpAny (model X.prog X.w) X.A (f (.int i t) (.int j u)) Q E s) :
  OpR X f (rI C fun i j=>.int (g i j)):=by
 intro pins s σ H x y v u Q I rx ry h
 obtain ⟨i,j,rfl,rfl,hc,q⟩:=h
 obtain ⟨t,rfl⟩:=rx
 obtain ⟨t',rfl⟩:=ry
 exact rule i j t t' s _ _ hc ⟨.int (g i j),H,I.tok _,⟨_,rfl⟩,q⟩
theorem opI0 {f:Value->Value->Sem Value} {g:Int->Int->Int}
  (rule:∀ (i j:Int) (t u:Tok) (s:Shared) (Q:Value->Shared->Prop) (E:Value->Shared->Prop),Q (.int (g i j) s.toks) { s with toks:=s.toks+1 }->wpAny (model X.prog X.w) X.A (f (.int i t) (.int j u)) Q E s) :
  OpR X f (rI0 fun i j=>.int (g i j)):=by
 intro pins s σ H x y v u Q I rx ry h
 obtain ⟨i,j,rfl,rfl,q⟩:=h
 obtain ⟨t,rfl⟩:=rx
 obtain ⟨t',rfl⟩:=ry
 exact rule i j t t' s _ _ ⟨.int (g i j),H,I.tok _,⟨_,rfl⟩,q⟩
theorem opB0 {f:Value->Value->Sem Value} {g:Int->Int->Bool}
  (rule:∀ (i j:Int) (t u:Tok) (s:Shared) (Q:Value->Shared->Prop) (E:Value->Shared->Prop),Q (.bool (g i j)) s->wpAny (model X.prog X.w) X.A (f (.int i t) (.int j u)) Q E s) :
  OpR X f (rI0 fun i j=>.bl (g i j)):=by
 intro pins s σ H x y v u Q I rx ry h
 obtain ⟨i,j,rfl,rfl,q⟩:=h
 obtain ⟨t,rfl⟩:=rx
 obtain ⟨t',rfl⟩:=ry
 exact rule i j t t' s _ _ ⟨.bl (g i j),H,I,rfl,q⟩
def CDiv (i j:Int):Prop:=0<j/\j<1073741824
def CPow (i j:Int):Prop:=0<=j/\j<=1000000/\i.natAbs<2^64
def CMul (i j:Int):Prop:=(-(2^64)<i/\i<2^64)\/(-(2^64)<j/\j<2^64)
theorem CMul.ok {i j:Int} (h:CMul i j):IntMulOk i j:=by
 rcases h with ⟨h1,h2⟩ | ⟨h1,h2⟩
 ·exact .of_left (intBits_le_64 h1 h2)
 ·exact .of_right (intBits_le_64 h1 h2)
theorem two_pow_nn (k:Nat):(0:Int)<=2^k:=by
 rw [two_pow_cast]
 exact Int.natCast_nonneg _
theorem qBv:OpR X (binaryOp .Add) (rI0 fun i j=>.int (i+j)):=opI0 fun _ _ _ _ _ _ _ q=>add_int q
theorem op_sub:OpR X (binaryOp .Sub) (rI0 fun i j=>.int (i - j)):=opI0 fun _ _ _ _ _ _ _ q=>sub_int q
theorem qDl:OpR X (binaryOp .Mult) (rI CMul fun i j=>.int (i*j)):=opI fun _ _ _ _ _ _ _ hc q=>mul_int q hc.ok
theorem qCd:OpR X (binaryOp .FloorDiv) (rI CDiv fun i j=>.int (i / j)):=opI fun i j _ _ _ _ _ hc q=>by
 have h1:(0:Int)<j:=hc.1
 have h2:j<1073741824:=hc.2
 exact floordiv_int (by omega) (by rw [Int.fdiv_eq_ediv_of_nonneg i (by omega)];exact q) (.inl (PyProof.noPylong_small (by omega)))
theorem qB8:OpR X (binaryOp .Mod) (rI (fun _ j=>0<j) fun i j=>.int (i % j)):=opI fun i j _ _ _ _ _ hc q=>by
 have h1:(0:Int)<j:=hc
 exact mod_int' (by omega) (by rw [Int.fmod_eq_emod_of_nonneg i (by omega)];exact q)
theorem op_pow:OpR X (binaryOp .Pow) (rI CPow fun i j=>.int (i^j.toNat)):=opI fun _ _ _ _ _ _ _ hc q=>pow_int_small hc.1 hc.2.1 hc.2.2 q
theorem op_shl:OpR X (binaryOp .LShift) (rI CPow fun i j=>.int (i*2^j.toNat)):=opI fun _ _ _ _ _ _ _ hc q=>lshift_int_small hc.1 hc.2.1 hc.2.2 q
theorem op_shr:OpR X (binaryOp .RShift) (rI (fun _ j=>0<=j) fun i j=>.int (i / 2^j.toNat)):=opI fun i j _ _ _ _ _ hc q =>
 rshift_int hc (by rw [Int.fdiv_eq_ediv_of_nonneg i (two_pow_nn _)];exact q)
theorem op_and:OpR X (binaryOp .BitAnd) (rI0 fun i j=>.int (Builtin.bitAnd i j)):=opI0 fun _ _ _ _ _ _ _ q=>and_int q
theorem op_xor:OpR X (binaryOp .BitXor) (rI0 fun i j=>.int (Builtin.bitXor i j)):=opI0 fun _ _ _ _ _ _ _ q=>xor_int q
end
def scal:V->V->Bool
 | .non,.non=>true | .non,.int _=>true | .int _,.non=>true | .non,.bl _=>true | .bl _,.non=>true | .non,.str _=>true | .str _,.non=>true
 | .int _,.int _=>true | .bl _,.bl _=>true | .str _,.str _=>true | .byt _,.byt _=>true
 | .int _,.str _=>true | .str _,.int _=>true | .bl _,.str _=>true | .str _,.bl _=>true
 | _,_=>false
def rEq:R2:=fun x y H Q=>scal x y=true/\Q (.bl (decide (x=y))) H
def rNe:R2:=fun x y H Q=>scal x y=true/\Q (.bl (!decide (x=y))) H
theorem dec_int {i j:Int}:decide (V.int i=V.int j)=(i == j):=by
 rw [Bool.eq_iff_iff]
 simp
theorem dec_bl {i j:Bool}:decide (V.bl i=V.bl j)=(i == j):=by
 rw [Bool.eq_iff_iff]
 simp
theorem dec_str {i j:Str}:decide (V.str i=V.str j)=(i == j):=by
 rw [Bool.eq_iff_iff]
 simp
theorem dec_byt {i j:Array UInt8}:decide (V.byt i=V.byt j)=(i.toList == j.toList):=by
 rw [Bool.eq_iff_iff]
 cases i
 cases j
 simp
section
variable {X:Cx} {a b c:Expr} {ta tb tc:TE} {pos:Pos}
theorem fin_bl {pins:List (Addr×Obj)} {σ:St} {H:Hp} {s:Shared} {Q:VK} {k k':Bool} (I:Inv X pins σ H s) (q:Q (.bl k) H) (e:k=k'):EP X pins σ Q (.bool k') s:=by
 subst e
 exact ⟨.bl k,H,I,rfl,q⟩
theorem qDm:OpR X (compareOp .Eq) rEq:=by
 intro pins s σ H x y v u Q I rx ry h
 obtain ⟨hs,q⟩:=h
 cases x with
 | non =>
  cases rx
  cases y with
  | non=>cases ry;exact PySem.EqNone.eq_none_none (fin_bl I q (by simp))
  | bl j=>cases ry;exact PySem.EqNone.eq_none_bool (fin_bl I q (by simp))
  | int j=>obtain ⟨t',rfl⟩:=ry;exact PySem.EqNone.eq_none_int (fin_bl I q (by simp))
  | str j=>obtain ⟨t',rfl⟩:=ry;exact PySem.EqNone.eq_none_str (fin_bl I q (by simp))
  | _=>exact absurd (show false=true from hs) hAn
 | bl i =>
  cases rx
  cases y with
  | non=>cases ry;exact PySem.EqNone.eq_bool_none (fin_bl I q (by simp))
  | bl j=>cases ry;exact eq_bool (fin_bl I q dec_bl)
  | str j=>obtain ⟨t',rfl⟩:=ry;exact PySem.EqMixed.eq_bool_str (fin_bl I q (by simp))
  | _=>exact absurd (show false=true from hs) hAn
 | int i =>
  obtain ⟨t,rfl⟩:=rx
  cases y with
  | non=>cases ry;exact PySem.EqNone.eq_int_none (fin_bl I q (by simp))
  | int j=>obtain ⟨t',rfl⟩:=ry;exact eq_int (fin_bl I q dec_int)
  | str j=>obtain ⟨t',rfl⟩:=ry;exact PySem.EqMixed.eq_int_str (fin_bl I q (by simp))
  | _=>exact absurd (show false=true from hs) hAn
 | str i =>
  obtain ⟨t,rfl⟩:=rx
  cases y with
  | non=>cases ry;exact PySem.EqNone.eq_str_none (fin_bl I q (by simp))
  | bl j=>cases ry;exact PySem.EqMixed.eq_str_bool (fin_bl I q (by simp))
  | int j=>obtain ⟨t',rfl⟩:=ry;exact PySem.EqMixed.eq_str_int (fin_bl I q (by simp))
  | str j=>obtain ⟨t',rfl⟩:=ry;exact eq_str (fin_bl I q dec_str)
  | _=>exact absurd (show false=true from hs) hAn
 | byt i =>
  obtain ⟨t,rfl⟩:=rx
  cases y with
  | byt j=>obtain ⟨t',rfl⟩:=ry;exact PySem.W.eq_bytes (fin_bl I q dec_byt)
  | _=>exact absurd (show false=true from hs) hAn
 | _=>cases y <;> exact absurd (show false=true from hs) hAn
theorem op_ne:OpR X (compareOp .NotEq) rNe:=by
 intro pins s σ H x y v u Q I rx ry h
 obtain ⟨hs,q⟩:=h
 cases x with
 | non =>
  cases rx
  cases y with
  | non=>cases ry;exact PySem.EqNone.ne_none_none (fin_bl I q (by simp))
  | bl j=>cases ry;exact PySem.EqNone.ne_none_bool (fin_bl I q (by simp))
  | int j=>obtain ⟨t',rfl⟩:=ry;exact PySem.EqNone.ne_none_int (fin_bl I q (by simp))
  | str j=>obtain ⟨t',rfl⟩:=ry;exact PySem.EqNone.ne_none_str (fin_bl I q (by simp))
  | _=>exact absurd (show false=true from hs) hAn
 | bl i =>
  cases rx
  cases y with
  | non=>cases ry;exact PySem.EqNone.ne_bool_none (fin_bl I q (by simp))
  | bl j=>cases ry;exact ne_bool (fin_bl I q (congrArg not dec_bl))
  | str j=>obtain ⟨t',rfl⟩:=ry;exact PySem.EqMixed.ne_bool_str (fin_bl I q (by simp))
  | _=>exact absurd (show false=true from hs) hAn
 | int i =>
  obtain ⟨t,rfl⟩:=rx
  cases y with
  | non=>cases ry;exact PySem.EqNone.ne_int_none (fin_bl I q (by simp))
  | int j=>obtain ⟨t',rfl⟩:=ry;exact ne_int (fin_bl I q (congrArg not dec_int))
  | str j=>obtain ⟨t',rfl⟩:=ry;exact PySem.EqMixed.ne_int_str (fin_bl I q (by simp))
  | _=>exact absurd (show false=true from hs) hAn
 | str i =>
  obtain ⟨t,rfl⟩:=rx
  cases y with
  | non=>cases ry;exact PySem.EqNone.ne_str_none (fin_bl I q (by simp))
  | bl j=>cases ry;exact PySem.EqMixed.ne_str_bool (fin_bl I q (by simp))
  | int j=>obtain ⟨t',rfl⟩:=ry;exact PySem.EqMixed.ne_str_int (fin_bl I q (by simp))
  | str j=>obtain ⟨t',rfl⟩:=ry;exact ne_str (fin_bl I q (congrArg not dec_str))
  | _=>exact absurd (show false=true from hs) hAn
 | byt i =>
  obtain ⟨t,rfl⟩:=rx
  cases y with
  | byt j=>obtain ⟨t',rfl⟩:=ry;exact PySem.W.ne_bytes (fin_bl I q (congrArg not dec_byt))
  | _=>exact absurd (show false=true from hs) hAn
 | _=>cases y <;> exact absurd (show false=true from hs) hAn
theorem op_lt:OpR X (compareOp .Lt) (rI0 fun i j=>.bl (decide (i<j))):=opB0 fun _ _ _ _ _ _ _ q=>lt_int q
theorem op_ge:OpR X (compareOp .GtE) (rI0 fun i j=>.bl (decide (j<=i))):=opB0 fun _ _ _ _ _ _ _ q=>ge_int q
theorem qA1 (b:Expr) {op:CmpOp} (h:op≠.In:=by decide) (h2:op≠.NotIn:=by decide):behindInMarks op b=false:=by
 have e1:(op == CmpOp.In)=false:=by cases op <;> first | rfl | exact absurd rfl h
 have e2:(op == CmpOp.NotIn)=false:=by cases op <;> first | rfl | exact absurd rfl h2
 cases b <;> simp [behindInMarks,e1,e2]
theorem qCt {op:CmpOp} {r:R2} (ho:OpR X (compareOp op) r) (ha:PE X a ta) (hb:PE X b tb) (hm:behindInMarks op b=false):PE X (.Compare a [op] [b] pos) (tOp r ta tb):=by
 intro pins s σ H Q I h
 exact wpAny_Compare1 (binT ha hb I h fun v u s2 x y H2 I2 rx ry q=>ho pins s2 σ H2 x y v u Q I2 rx ry q) hm
def tTest (t:TE):TT:=fun σ H Q=>t σ H fun x H'=>∃ k,x = .bl k/\Q k H'
theorem qAu {op:CmpOp} {r:R2} (ho:OpR X (compareOp op) r) (ha:PE X a ta) (hb:PE X b tb) (hm:behindInMarks op b=false):PT X (.Compare a [op] [b] pos) (tTest (tOp r ta tb)):=by
 intro pins s σ H Q I h
 refine wpAny_isTrue_Compare1 (thn (ha pins s σ H _ I h) fun v s1 ⟨x,H1,I1,r1,q1⟩=>thn (hb pins s1 σ H1 _ I1 q1) fun u s2 ⟨y,H2,I2,r2,q2⟩ =>
  thn (ho pins s2 σ H2 x y v u _ I2 r1 r2 q2) fun c s3 ⟨z,H3,I3,r3,k,e,q3⟩=>?_) hm
 subst e
 cases r3
 exact wpAny_truthy_bool ⟨H3,I3,q3⟩
def TruV (K:PySem.W.Frag) (x:V) (H:Hp) (k:Bool):Prop :=
 match x with
 | .non=>k=false
 | .bl b=>k=b
 | .int i=>k=(i != 0)
 | .str y=>y.length<=sizeLine/\k=((y.length:Int) != 0)
 | .byt y=>y.size<=sizeLine/\k=((y.size:Int) != 0)
 | .ref p=>(∃ xs,SqL K H p xs/\k=!xs.isEmpty)\/(∃ xs,SqT K H p xs/\k=!xs.isEmpty)\/∃ kvs,H p=some (.dK kvs)/\k=!kvs.isEmpty
 | _=>False
theorem isEmpty_kv {κ:Type} {kvs:List (κ×V)} {vs:List (κ×Value)} (r:KV kvs vs):(!vs.isEmpty)=!kvs.isEmpty:=by
 cases r <;> rfl
theorem qGi {xs:List V} {its:List Value} (r:qA6 xs its):(!its.toArray.isEmpty)=!xs.isEmpty:=by
 cases r <;> simp
theorem qGg:(sizeLine:Nat)<2^63:=by rw [sizeLine_eq];decide
theorem tru_ok:TruR X (fun x H Q=>∃ k,TruV X.K x H k/\Q k H):=by
 intro pins s σ H x v Q I rx h
 obtain ⟨k,e,q⟩:=h
 have hl:=qGg
 have hs:sizeLine=16777216:=sizeLine_eq
 cases x with
 | non =>
  cases rx
  have e':k=false:=e
  subst e'
  exact truthy_none ⟨H,I,q⟩
 | bl b =>
  cases rx
  have e':k=b:=e
  subst e'
  exact wpAny_truthy_bool ⟨H,I,q⟩
 | int i =>
  obtain ⟨t,rfl⟩:=rx
  have e':k=(i != 0):=e
  subst e'
  exact PySem.P.truthy_int ⟨H,I,q⟩
 | str y =>
  obtain ⟨t,rfl⟩:=rx
  obtain ⟨hy,e'⟩:y.length<=sizeLine/\k=((y.length:Int) != 0):=e
  subst e'
  exact PySem.P.truthy_str (by omega) ⟨H,I.tok _,q⟩
 | byt y =>
  obtain ⟨t,rfl⟩:=rx
  obtain ⟨hy,e'⟩:y.size<=sizeLine/\k=((y.size:Int) != 0):=e
  subst e'
  exact PySem.W.truthy_bytes (by omega) ⟨H,I.tok _,q⟩
 | ref p =>
  cases rx
  have e':(∃ xs,SqL X.K H p xs/\k=!xs.isEmpty)\/(∃ xs,SqT X.K H p xs/\k=!xs.isEmpty)\/∃ kvs,H p=some (.dK kvs)/\k=!kvs.isEmpty:=e
  rcases e' with ⟨xs,hx,e'⟩ | ⟨xs,hx,e'⟩ | ⟨kvs,hx,e'⟩
  ·subst e'
   obtain ⟨its,r,pl,hz⟩:=I.list hx
   have hlen:=r.length
   exact wpAny_truthy_list pl.isList (by simp only [hAd];omega) ⟨H,I.tok _,by rw [qGi r];exact q⟩
  ·subst e'
   obtain ⟨its,r,pl,hz⟩:=I.tuple hx
   have hlen:=r.length
   exact truthy_tuple pl (by simp only [hAd];omega) ⟨H,I.tok _,by rw [qGi r];exact q⟩
  ·subst e'
   obtain ⟨hz,hS,vs,r,m⟩:kvs.length<=sizeLine/\(p == sysModules)=false/\∃ vs,KV kvs vs/\s.heap.DictOf (qAz X.prog X.w) p vs:=I.hok p _ hx
   have hlen:kvs.length=vs.length:=Paired.length r
   exact wpAny_truthy_dict hS m (by omega) ⟨H,I.tok _,by rw [isEmpty_kv r];exact q⟩
 | _=>exact (show False from e).elim
theorem pt_truth (ha:PE X a ta) (he:∀ whole,isTrue a X.env whole=(do let v ← whole;standAt a.pos;holding [v] (truthy v))) :
  PT X a (fun σ H Q=>ta σ H fun x H'=>∃ k,TruV X.K x H' k/\Q k H'):=by
 intro pins s σ H Q I h
 exact isTrue_plain (thn (ha pins s σ H _ I h) fun v s1 ⟨x,H1,I1,r1,q1⟩=>tru_ok pins s1 σ H1 x v Q I1 r1 q1) (he _)
theorem qD4:OpR X (binaryOp .Add) (fun x y H Q=>∃ i j,x = .str i/\y = .str j/\i.length+j.length<=sizeLine/\Q (.str (i++j)) H):=by
 intro pins s σ H x y v u Q I rx ry h
 obtain ⟨i,j,rfl,rfl,hz,q⟩:=h
 obtain ⟨t,rfl⟩:=rx
 obtain ⟨t',rfl⟩:=ry
 exact add_str (fun t' tk=>⟨.str (i++j),H,I.tok _,⟨_,rfl⟩,q⟩) hz
theorem qCa {x:V} {us:List Value} (r:qA6 [x] us):∃ u,us=[u]/\qBg x u:=by
 cases r with
 | cons r1 r2=>cases r2;exact ⟨_,rfl,r1⟩
theorem vals2 {x y:V} {us:List Value} (r:qA6 [x,y] us):∃ u w',us=[u,w']/\qBg x u/\qBg y w':=by
 cases r with
 | cons r1 r2 =>
  cases r2 with
  | cons r3 r4=>cases r4;exact ⟨_,_,rfl,r1,r3⟩
theorem call_abs:qBq X (.builtin "abs") (fun xs H Q=>∃ i,xs=[.int i]/\Q (.int (if i<0 then -i else i)) H):=by
 intro pins s σ H xs us Q I r h
 obtain ⟨i,rfl,q⟩:=h
 obtain ⟨u,rfl,t,rfl⟩:=qCa r
 exact call_abs_int fun u tk=>⟨.int (if i<0 then -i else i),H,I.tok _,⟨_,rfl⟩,q⟩
theorem call_min2 (hc:X.calm=true):qBq X (.builtin "min") (fun xs H Q=>∃ i j,xs=[.int i,.int j]/\Q (.int (if j<i then j else i)) H):=by
 intro pins s σ H xs us Q I r h
 obtain ⟨i,j,rfl,q⟩:=h
 obtain ⟨u,w',rfl,⟨t,rfl⟩,⟨t',rfl⟩⟩:=vals2 r
 refine min_two_ints (I.ok.hd hc) fun h' tk k=>⟨_,H,I.kept k,?_,q⟩
 by_cases hj:j<i
 ·rw [if_pos hj,if_pos hj];exact ⟨_,rfl⟩
 ·rw [if_neg hj,if_neg hj];exact ⟨_,rfl⟩
end
end L2
namespace L2
open PySem PySem.Spec PyProof.Rows
structure ObjM (h:Heap) (x dx C:Addr) (mA:Str->Option Value):Prop where
 obj:h.get? x=some (PySem.W.instObj C dx)
 ns:h.Ns1 dx mA
 ne:dx≠x
theorem lookIn_ns {h:Heap} {dx:Addr} {mA:Str->Option Value} (n:h.Ns1 dx mA):∃ od,h.get? dx=some od/\∀ name,PySem.W.lookIn name od=some (mA name):=by
 obtain ⟨o,es,ep,ho,hd,hk,_,hm⟩:=n
 refine ⟨o,ho,fun name=>?_⟩
 have e:=hm name
 unfold nsFind findBy at e
 rw [<-Array.find?_toList] at e
 unfold PySem.W.lookIn
 rw [hd]
 dsimp only
 split
 ·rename_i y q
  rw [q] at e
  exact congrArg some e
 ·rename_i q
  rw [q] at e
  have a:es.toList.any (·.refKey)=false:=by
   rw [List.any_eq_false]
   intro y hy
   obtain ⟨z,t,hkey⟩:=hk y (Array.mem_toList_iff.mp hy)
   simp [DictEntry.refKey,hkey]
  have a':¬es.toList.any (·.refKey)=true:=by rw [a];exact hAn
  rw [if_neg a']
  exact congrArg some e
theorem ObjM.look {h:Heap} {x dx C:Addr} {mA:Str->Option Value} (I:ObjM h x dx C mA):∃ od,PySem.W.InstAt h x (PySem.W.instObj C dx) C (some od)/\∀ name,PySem.W.lookIn name od=some (mA name) :=
 let ⟨od,ho,hl⟩:=lookIn_ns I.ns
 ⟨od,⟨I.obj,rfl,rfl,ho⟩,hl⟩
theorem RelO.some_of {v:V} {o:Option Value} (r:RelO (some v) o):∃ u,o=some u/\qBg v u:=by
 cases o with
 | none=>exact (show False from r).elim
 | some u=>exact ⟨u,rfl,r⟩
section
variable {P:Program} {w:World} {H H':Hp} {h h':Heap} {a C dx:Addr} {fs fs':List (Str×V)}
theorem ins_get (hok:HOk P w H h) (e:H a=some (.ins C dx fs)):∃ mA,ObjM h a dx C mA/\(∀ f,RelO (fs.lookup f) (mA f))/\PySem.Within mA (fs.map (·.1))/\fs.length<=1000/\H dx=some (.own a):=by
 obtain ⟨d,z,ne,ob,mA,n,r,q⟩:=(show qBf P w H h a (.ins C dx fs) from hok a _ e)
 exact ⟨mA,⟨ob,n,ne⟩,r,q,z,d⟩
end
structure Cls (K:PySem.W.Frag) (C:Addr):Prop where
 pg:PySem.W.plainGet K C Str.empty=true
 hd:PySem.W.hasDictIn K C=true
 po:PySem.W.plainOver K C=true
 sa:PySem.W.findIn K (.ref C) "__setattr__" = some (some (.builtin "object.__setattr__"))
theorem Cls.get {K:PySem.W.Frag} {C:Addr} (c:Cls K C) (f:Str):PySem.W.plainGet K C f=true:=c.pg
structure Con (K:PySem.W.Frag) (C:Addr) (f:Str) (v:V) (u:Value):Prop where
 at_:PySem.W.findIn K (.ref C) f=some (some u)
 rel:qBg v u
 get:PySem.W.specialIn K u "__get__" = some none
 cp:PySem.W.copiedNames.contains f=false
structure Meth (K:PySem.W.Frag) (C:Addr) (m:Str) (f:Addr):Prop where
 at_:PySem.W.findIn K (.ref C) m=some (some (.ref f))
 fn:PySem.W.isFn K (.ref f)=true
 kp:PySem.W.keepIn K (.ref f)=true
section
variable {X:Cx} {pins:List (Addr×Obj)} {σ:St} {H:Hp} {s:Shared} {A:Around} {E:Value->Shared->Prop} {Q:Value->Shared->Prop} {c:Value} {b:Bool}
inductive TyOf (K:PySem.W.Frag) (H:Hp):V->Value->Prop where
 | non:TyOf K H .non (.type "NoneType")
 | bl (x:Bool):TyOf K H (.bl x) (.type "bool")
 | int (i:Int):TyOf K H (.int i) (.type "int")
 | str (x:Str):TyOf K H (.str x) (.type "str")
 | flt (x:UInt64):TyOf K H (.flt x) (.type "float")
 | lst {a:Addr} {xs:List V} (e:H a=some (.lst xs)):TyOf K H (.ref a) (.type "list")
 | frz {a:Addr} {o:Obj} {xs:List V} (e:H a=some (.frz o (.lst xs))):TyOf K H (.ref a) (.type "list")
 | tup {a:Addr} {xs:List V} (e:H a=some (.tup xs)):TyOf K H (.ref a) (.type "tuple")
 | dK {a:Addr} {kvs:List (Key×V)} (e:H a=some (.dK kvs)):TyOf K H (.ref a) (.type "dict")
 | dT {a:Addr} {kvs:List (List Key×V)} (e:H a=some (.dT kvs)):TyOf K H (.ref a) (.type "dict")
 | ins {a C dx:Addr} {fs:List (Str×V)} (e:H a=some (.ins C dx fs)) (cl:Cls K C) (ha:PySem.W.findIn K (.ref C) "__class__" = some (some (.builtin "object.__class__")))
   (hn:PySem.W.specialIn K (.builtin "object.__class__") "__get__" = some (some (.builtin "getset_descriptor.__get__"))) (htk:PySem.W.takesIn K (.builtin "object.__class__")=some true)
   (hm:PySem.W.mroIn K C (.type "object")=some true):TyOf K H (.ref a) (.ref C)
theorem isinst_ok {x:V} {u t:Value} (I:Inv X pins σ H s) (rx:qBg x u) (ty:TyOf X.K H x t) (e:PySem.W.kitOne X.K t c=some b) (h:∀ tk,Q (.bool b) { s with toks:=tk }) :
  wpAny (model X.prog X.w) A (call (.builtin "isinstance") [u,c]) Q E s:=by
 cases ty with
 | non=>cases (show u=Value.none from rx);exact hC4 PySem.W.kitx_none I.kIn True.intro e (fun z=>nomatch z) h
 | bl y=>cases (show u=Value.bool y from rx);exact hC4 PySem.W.kitx_bool I.kIn True.intro e (fun z=>nomatch z) h
 | int i=>obtain ⟨t,q⟩:=(show ∃ t,u=Value.int i t from rx);cases q;exact hC4 PySem.W.kitx_int I.kIn True.intro e (fun z=>nomatch z) h
 | str y=>obtain ⟨t,q⟩:=(show ∃ t,u=Value.str y t from rx);cases q;exact hC4 PySem.W.kitx_str I.kIn True.intro e (fun z=>nomatch z) h
 | flt y=>obtain ⟨t,q⟩:=(show ∃ t,u=Value.float y t from rx);cases q;exact hC4 PySem.W.kitx_float I.kIn True.intro e (fun z=>nomatch z) h
 | @lst a xs ea =>
  cases (show u=Value.ref a from rx)
  obtain ⟨_,_,n,_,h1⟩:=(show qBf X.prog X.w H s.heap a (.lst xs) from I.hok a _ ea)
  exact hC4 PySem.W.kitx_list I.kIn ⟨_,h1,rfl⟩ e (fun z=>nomatch z) h
 | @frz a ob xs ea =>
  cases (show u=Value.ref a from rx)
  obtain ⟨_,_,_,n,_,h1⟩:=(show qBf X.prog X.w H s.heap a (.frz ob (.lst xs)) from I.hok a _ ea)
  exact hC4 PySem.W.kitx_list I.kIn ⟨_,h1,rfl⟩ e (fun z=>nomatch z) h
 | @tup a xs ea =>
  cases (show u=Value.ref a from rx)
  obtain ⟨_,_,_,p⟩:=(show qBf X.prog X.w H s.heap a (.tup xs) from I.hok a _ ea)
  obtain ⟨o,h1,h2,_⟩:=p
  exact hC4 PySem.W.kitx_tuple I.kIn ⟨o,h1,h2⟩ e (fun z=>nomatch z) h
 | @dK a kvs ea =>
  cases (show u=Value.ref a from rx)
  obtain ⟨_,_,vs,_,p⟩:=(show qBf X.prog X.w H s.heap a (.dK kvs) from I.hok a _ ea)
  obtain ⟨o,es,ep,h1,h2,_⟩:=p
  exact hC4 PySem.W.kitx_dict I.kIn ⟨o,h1,h2.1⟩ e (fun z=>nomatch z) h
 | @dT a kvs ea =>
  cases (show u=Value.ref a from rx)
  obtain ⟨_,_,xs,_,o,es,ep,h1,h2,_⟩:=(show qBf X.prog X.w H s.heap a (.dT kvs) from I.hok a _ ea)
  exact hC4 PySem.W.kitx_dict I.kIn ⟨o,h1,h2.1⟩ e (fun z=>nomatch z) h
 | @ins a C dx fs ea cl ha hn htk hm =>
  cases (show u=Value.ref a from rx)
  obtain ⟨mA,O,_⟩:=ins_get I.hok ea
  obtain ⟨od,J,_⟩:=O.look
  exact hC4 (PySem.W.kitx_own (cl.get _) cl.hd ha hn htk hm) I.kIn J e (fun z=>nomatch z) h
end
end L2
namespace L2
open PySem PySem.Spec PyProof.Rows
structure Room (k:Nat) (A:Around):Prop where
 hd:A.handled=none
 dp:A.depth+3*k+5<recursionLimit
 un:A.units+16*k+200<cLine
 gd:A.guards=some []
theorem Room.mono {j k:Nat} {A:Around} (r:Room k A) (h:j<=k):Room j A:=⟨r.hd,by have:=r.dp;omega,by have:=r.un;omega,r.gd⟩
theorem Room.deeper {k:Nat} {A:Around} (r:Room (k+1) A) (env:Env):Room k (A.deeper env) :=
 ⟨r.hd,by have:=r.dp;show A.depth+1+3*k+5<_;omega,by have:=r.un;show A.units+3+16*k+200<_;omega,r.gd⟩
theorem Room.in1 {k:Nat} {A:Around} (r:Room (k+1) A):Room k A.in1 :=
 ⟨r.hd,by have:=r.dp;show A.depth+3*k+5<_;omega,by have:=r.un;show A.units+1+16*k+200<_;omega,r.gd⟩
theorem Room.depth {k:Nat} {A:Around} (r:Room k A):A.depth<recursionLimit:=by have:=r.dp;omega
theorem Room.units {k:Nat} {A:Around} (r:Room k A):A.units+64<cLine:=by have:=r.un;omega
def tNil:TA:=fun _ H Q=>Q [] H
def qFv (ta:TE) (tr:TA):TA:=fun σ H Q=>ta σ H fun x H1=>tr σ H1 fun xs H2=>Q (x :: xs) H2
section
variable {X:Cx} {e:Expr} {es:List Expr} {te:TE} {t:TA} {pos:Pos}
theorem qAc:PA X [] tNil:=fun _ _ _ _ H Q I h=>Calls.spliced_nil ⟨[],H,I,.nil,h⟩
theorem qAa (ha:PE X e te) (hr:PA X es t) (hs:starEach (e :: es) X.env=(false,eval e X.env) :: starEach es X.env:=by rfl):PA X (e :: es) (qFv te t):=by
 intro pos pins s σ H Q I h
 rw [hs]
 show wpAny _ _ (spliced ((false,eval e X.env) :: backTo pos (starEach es X.env))) _ _ s
 refine Calls.spliced_cons (thn (ha pins s σ H _ I h) fun u s1 ⟨x,H1,I1,r1,q1⟩=>?_)
 exact thn (hr pos pins s1 σ H1 _ I1 q1) fun us s2 ⟨xs,H2,I2,r2,q2⟩=>⟨x :: xs,H2,I2,.cons r1 r2,q2⟩
def tTup (t:TA):TE:=fun σ H Q=>t σ H fun xs H1=>xs.length<=sizeLine/\∀ p,H1 p=none->Q (.ref p) (upd H1 p (.tup xs))
def tLst (t:TA):TE:=fun σ H Q=>t σ H fun xs H1=>xs.length<=sizeLine/\∀ p,H1 p=none->Q (.ref p) (upd H1 p (.lst xs))
theorem qBu {x1} (h:PA X es t):PE X (.Tuple es x1 pos) (tTup t):=by
 intro pins s σ H Q I hq
 refine wpAny_Tuple_spliced (thn (h pos pins s σ H _ I hq) fun us s1 ⟨xs,H1,I1,r,z,q⟩=>⟨by rw [<-r.length];exact z,?_⟩)
 have hf:H1 s1.heap.objs.size=none:=I1.hok.fresh (hA5 _)
 refine ⟨.ref s1.heap.objs.size,upd H1 s1.heap.objs.size (.tup xs),I1.laid (t':=s1.toks) (fun b u e=>Heap.get?_push_of_some _ e) (hA5 _) ?_,rfl,q _ hf⟩
 exact ⟨z,us,r,⟨_,Heap.get?_push_size _ rfl,rfl,_,rfl⟩⟩
theorem qCh (h:PA X es t):PE X (.List es pos) (tLst t):=by
 intro pins s σ H Q I hq
 refine wpAny_List_spliced (thn (h pos pins s σ H _ I hq) fun us s1 ⟨xs,H1,I1,r,z,q⟩=>⟨by rw [<-r.length];exact z,?_⟩)
 have hf:H1 s1.heap.objs.size=none:=I1.hok.fresh (hA5 _)
 refine ⟨.ref s1.heap.objs.size,upd H1 s1.heap.objs.size (.lst xs),I1.laid (t':=s1.toks) (fun b u e=>Heap.get?_push_of_some _ e) (hA5 _) ?_,rfl,q _ hf⟩
 exact ⟨z,us,0,r,Heap.get?_push_size _ rfl⟩
end
abbrev Sp:=List V->Hp->VK->XK->Prop
abbrev CXT:=List Env->Hp->Shared->XK->Value->Shared->Prop
structure Env0 (P:Program) (w:World) (K:PySem.W.Frag) (mg:Str->Option Value) (base:Heap) (A:Around) (outer:List Env) (s:Shared) (H:Hp):Prop where
 frames:A.frames=some outer
 mod:Mod K mg base
 bs:∀ b o,base.get? b=some o->s.heap.get? b=some o/\H b=none
 bsz:base.objs.size<=s.heap.objs.size
 funs:s.heap.FunFrames base outer
 frf:∀ b∈frs outer,H b=none
 hok:HOk P w H s.heap
 bare:AllBare s.gens
def CE (outer:List Env) (P:Program) (w:World) (H:Hp) (s:Shared) (Q:VK) (u:Value) (s':Shared):Prop :=
 ∃ v H',s'.os=s.os/\AllBare s'.gens/\Un (frs outer) [] H H' s.heap s'.heap/\HOk P w H' s'.heap/\qBg v u/\Q v H'
def CR (CX:CXT) (outer:List Env) (P:Program) (w:World) (H:Hp) (s:Shared) (Q:VK) (E:XK) (r:Result) (s':Shared):Prop :=
 match r with
 | .ok (.ret u)=>CE outer P w H s Q u s'
 | .ok _=>False
 | .error e=>CX outer H s E e s'
structure FnOk (P:Program) (w:World) (K:PySem.W.Frag) (mg:Str->Option Value) (base:Heap) (CX:CXT) (k:Nat) (f:Addr) (fd:FuncData) (ps:List Str) (sp:Sp):Prop where
 len:∀ vs H Q E,sp vs H Q E->vs.length=ps.length
 run:∀ (A:Around) (outer:List Env) (s:Shared) (H:Hp) (args:Args) (us:List Value) (vs:List V) (Q:VK) (E:XK),Room k A->Env0 P w K mg base A outer s H->BindsTo s fd args (ps.zip us)->qA6 vs us->sp vs H Q E ->
  codeAny (model P w) A (.call (.ref f) args) (CR CX outer P w H s Q E) s
theorem Env0.in1 {P:Program} {w:World} {K:PySem.W.Frag} {mg:Str->Option Value} {base:Heap} {A:Around} {outer:List Env} {s:Shared} {H:Hp} (e:Env0 P w K mg base A outer s H) :
  Env0 P w K mg base A.in1 outer s H:=⟨e.frames,e.mod,e.bs,e.bsz,e.funs,e.frf,e.hok,e.bare⟩
section
variable {X:Cx} {pins:List (Addr×Obj)} {σ:St} {H:Hp} {s s':Shared}
theorem Inv.env0 (I:Inv X pins σ H s):Env0 X.prog X.w X.K X.mg X.base X.A X.stack s H :=
 ⟨I.ok.frames,I.ok.mod,I.bs,hAv I.ok.bsz I.sz,I.stack,I.stkFree,I.hok,I.bare⟩
theorem Inv.after {Q:VK} {u:Value} (I:Inv X pins σ H s) (h:CE X.stack X.prog X.w H s Q u s'):EP X pins σ Q u s':=by
 obtain ⟨v,H',os,bare,un,hok,r,q⟩:=h
 obtain ⟨hh,g,d,t,os'⟩:=s'
 obtain rfl:os'=s.os:=os
 exact ⟨v,H',I.call (h':=hh) (g':=g) (d':=d) (t':=t) (ch:=[]) un hok bare (fun b z=>absurd z (by simp)),r,q⟩
end
def tCall (sp:Sp) (dvs:List V) (E:XK) (t:TA):TE:=fun σ H Q=>t σ H fun vs H1=>sp (vs++dvs) H1 Q E
def qA7 (K:PySem.W.Frag) (fd:FuncData) (ps:List Str) (ds:List Value):Prop :=
 ∀ (s:Shared) (us:List Value),K.In s.heap->(us++ds).length=ps.length->BindsTo s fd ⟨us,[]⟩ (ps.zip (us++ds))
theorem qA7.all {K:PySem.W.Frag} {fd:FuncData} {ps:List Str} (h:∀ us:List Value,us.length=ps.length->bindArgs fd ⟨us,[]⟩=pure (ps.zip us)):qA7 K fd ps []:=fun s us _ hl=>by
 rw [hC5] at hl ⊢
 exact .of_eq (h us hl)
def Passes (CX:CXT) (X:Cx) (E:XK):Prop:=∀ (pins:List (Addr×Obj)) (σ:St) (H:Hp) (s:Shared) (e:Value) (s':Shared),Inv X pins σ H s->CX X.stack H s E e s'->X.xe e s'
section
variable {X:Cx} {CX:CXT} {k:Nat} {f C:Addr} {fd:FuncData} {ps:List Str} {sp:Sp} {dvs:List V} {ds:List Value} {E:XK} {x m:Str} {p pos apos:Pos} {e o:Expr} {es:List Expr} {ta:TE} {t:TA}
theorem run_fn {pins:List (Addr×Obj)} {σ:St} {H:Hp} {s:Shared} {Q:VK} {us:List Value} {vs:List V} (F:FnOk X.prog X.w X.K X.mg X.base CX k f fd ps sp) (hr:Room k X.A) (hb:qA7 X.K fd ps ds) (hd:qA6 dvs ds) (hx:Passes CX X E)
  (I:Inv X pins σ H s) (r:qA6 vs us) (h:sp (vs++dvs) H Q E):wpAny (model X.prog X.w) X.A (call (.ref f) us) (EP X pins σ Q) X.xe s:=by
 have r2:qA6 (vs++dvs) (us++ds):=r.append hd
 have hl:(us++ds).length=ps.length:=by rw [<-r2.length];exact F.len _ _ _ _ h
 refine wpAny_call (codeAny_mono (F.run X.A X.stack s H ⟨us,[]⟩ (us++ds) (vs++dvs) Q E hr I.env0 (hb s us I.kIn hl) r2 h) fun r s' hq=>?_)
 cases r with
 | error e=>exact hx pins σ H s e s' I hq
 | ok fl =>
  cases fl with
  | ret u=>exact I.after hq
  | next=>exact False.elim hq
  | brk=>exact False.elim hq
  | cont=>exact False.elim hq
theorem qAl (F:FnOk X.prog X.w X.K X.mg X.base CX k f fd ps sp) (hr:Room k X.A) (hg:Gl X x) (hm:X.mg x=some (.ref f)) (hk:PySem.W.keepIn X.K (.ref f)=true) (hb:qA7 X.K fd ps ds) (hd:qA6 dvs ds) (hx:Passes CX X E)
  (ha:PA X (e :: es) t) (hdb:(x == ("__debug__" : Str))=false:=by decide) (he:starEach (e :: es) X.env=(false,eval e X.env) :: starEach es X.env:=by rfl) (hpl:(backTo pos (starEach es X.env)).any (·.1)=false:=by rfl) :
  PE X (.Call (.Name x p) (e :: es) [] pos) (tCall sp dvs E t):=by
 intro pins s σ H Q I h
 refine wpAny_Call_Name_kw (ld_glob I hg hm ?_ hdb)
 refine PySem.W.callWith_K (h₀:=X.base) I.ok.mod.kin hk (thn (ha pos pins s σ H _ I h) fun us s1 ⟨vs,H1,I1,r,q⟩=>⟨I1.kIn,?_⟩) he hpl
 exact run_fn F hr hb hd hx I1 r q
structure Mk (K:PySem.W.Frag) (C f:Addr):Prop where
 makes:PySem.W.makesIn K C=true
 init:PySem.W.findIn K (.ref C) "__init__" = some (some (.ref f))
 fn:PySem.W.isFn K (.ref f)=true
 kp:PySem.W.keepIn K (.ref C)=true
end
section
variable {X:Cx} {CX:CXT} {k:Nat} {f C:Addr} {fd:FuncData} {ps ks:List Str} {sp:Sp} {E:XK} {x m:Str} {p pos apos kpos:Pos} {e o:Expr} {es:List Expr} {kws:List Keyword} {te ta:TE} {t tk:TA} {nm:Option Str}
structure KBinds (K:PySem.W.Frag) (fd:FuncData) (ps ks:List Str) (g:List Value->List Value->List Value) (gV:List V->List V->List V):Prop where
 to:∀ (s:Shared) (us ws:List Value),K.In s.heap->(g us ws).length=ps.length->BindsTo s fd ⟨us,ks.zip ws⟩ (ps.zip (g us ws))
 rel:∀ {vs:List V} {us:List Value} {zs:List V} {ws:List Value},qA6 vs us->qA6 zs ws->qA6 (gV vs zs) (g us ws)
variable {g:List Value->List Value->List Value} {gV:List V->List V->List V}
end
structure FnScope (N P:List Str) (sc:Scope):Prop where
 kind:sc.kind = .function
 co:sc.isCoroutine=false
 gen:sc.isGenerator=false
 nd:N.Nodup
 pre:N.take P.length=P
 par:∀ x∈P,sc.names.lookup x=some .local\/sc.names.lookup x=some .cell
 nofree:∀ y∈sc.names,y.2≠.free
theorem bindL_out {kindOf:Str->Option NameKind} {x:Str}:∀ {binds:List (Str×Value)} {m:Str->Option Value},(∀ v,(x,v)∉binds)->bindL kindOf binds m x=m x
 | [],_,_=>rfl
 | (n,v) :: r,m,h=>by
  unfold bindL
  rw [bindL_out fun w hw=>h w (hA4 _ hw)]
  split
  ·have:x≠n:=by rintro rfl;exact h v hA2
   simp [this]
  ·rfl
theorem bindC_out {kindOf:Str->Option NameKind} {x:Str}:∀ {binds:List (Str×Value)} {m:Str->Option Value},(∀ v,(x,v)∉binds)->bindC kindOf binds m x=m x
 | [],_,_=>rfl
 | (n,v) :: r,m,h=>by
  unfold bindC
  rw [bindC_out fun w hw=>h w (hA4 _ hw)]
  split
  ·rfl
  ·have:x≠n:=by rintro rfl;exact h v hA2
   simp [this]
theorem bindL_get {kindOf:Str->Option NameKind} {x:Str} {v:Value}:∀ {P:List Str} {vs:List Value} {i:Nat} {m:Str->Option Value},P.Nodup->P[i]?=some x->vs[i]?=some v->kindOf x=some .local ->
  bindL kindOf (P.zip vs) m x=some v
 | [],_,_,_,_,h,_,_=>by simp at h
 | _ :: _,[],_,_,_,_,h,_=>by simp at h
 | p :: P,w :: vs,0,m,nd,h1,h2,hk=>by
  simp at h1 h2;subst h1;subst h2
  show bindL kindOf ((p,w) :: P.zip vs) m p=_
  unfold bindL
  rw [bindL_out fun v hv=>(hB0.mp nd).1 (List.of_mem_zip hv).1,if_pos hk]
  simp
 | p :: P,w :: vs,i+1,m,nd,h1,h2,hk=>by
  show bindL kindOf ((p,w) :: P.zip vs) m x=_
  unfold bindL
  exact bindL_get (i:=i) (hB0.mp nd).2 (by simpa using h1) (by simpa using h2) hk
theorem bindC_get {kindOf:Str->Option NameKind} {x:Str} {v:Value}:∀ {P:List Str} {vs:List Value} {i:Nat} {m:Str->Option Value},P.Nodup->P[i]?=some x->vs[i]?=some v->kindOf x≠some .local ->
  bindC kindOf (P.zip vs) m x=some v
 | [],_,_,_,_,h,_,_=>by simp at h
 | _ :: _,[],_,_,_,_,h,_=>by simp at h
 | p :: P,w :: vs,0,m,nd,h1,h2,hk=>by
  simp at h1 h2;subst h1;subst h2
  show bindC kindOf ((p,w) :: P.zip vs) m p=_
  unfold bindC
  rw [bindC_out fun v hv=>(hB0.mp nd).1 (List.of_mem_zip hv).1,if_neg hk]
  simp
 | p :: P,w :: vs,i+1,m,nd,h1,h2,hk=>by
  show bindC kindOf ((p,w) :: P.zip vs) m x=_
  unfold bindC
  exact bindC_get (i:=i) (hB0.mp nd).2 (by simpa using h1) (by simpa using h2) hk
def start (N:List Str) (vs:List V):St:=vs.map some++List.replicate (N.length - vs.length) none
def cxOf (CX:CXT) (P:Program) (w:World) (K:PySem.W.Frag) (mg:Str->Option Value) (base:Heap) (N:List Str) (qual:Str) (scope:Scope) (f:Addr) (cd:Value) (A:Around) (outer:List Env) (s:Shared) (H:Hp) (E:XK):Cx where
 prog:=P
 w:=w
 K:=K
 mg:=mg
 base:=base
 A:=A.deeper (envOfC qual scope s.heap.objs.size f cd)
 N:=N
 s₀:=s
 H₀:=H
 env:=envOfC qual scope s.heap.objs.size f cd
 outer:=outer
 stack:=envOfC qual scope s.heap.objs.size f cd :: outer
 ex:=[]
 calm:=true
 fn:=fun _=>true
 pn:=[]
 xe:=fun e s'=>wpAny (model P w) (A.deeper (envOfC qual scope s.heap.objs.size f cd)) (leaving (envOfC qual scope s.heap.objs.size f cd) e) (fun _ s''=>CX outer H s E e s'') (fun e' s''=>CX outer H s E e' s'') s'
theorem cell_has {sc:Scope} {n:Nat} {x:Str} (h:sc.names.lookup x=some .cell):∃ c,(cellsFrom n sc.names []).lookup x=some c:=by
 have q:=hCv sc.names n [] (.inl h)
 exact hD2.mp q
theorem inv_start {CX:CXT} {P:Program} {w:World} {K:PySem.W.Frag} {mg:Str->Option Value} {base:Heap} {N ps:List Str} {qual:Str} {scope:Scope} {f:Addr} {cd:Value} {A:Around} {outer:List Env} {s s1:Shared} {H:Hp} {E:XK} {us:List Value} {vs:List V}
  (S:FnScope N ps scope) (hd:A.handled=none) (e0:Env0 P w K mg base A outer s H) (hl:vs.length=ps.length) (r:qA6 vs us)
  (x:InCallC s s.heap.objs.size (bindL (envOfC qual scope s.heap.objs.size f cd).kindOf (ps.zip us) fun _=>none) (cellsFrom (s.heap.objs.size+1) scope.names []) (bindC (envOfC qual scope s.heap.objs.size f cd).kindOf (ps.zip us) fun _=>none) s1) :
  Inv (cxOf CX P w K mg base N qual scope f cd A outer s H E) [] (start N vs) H s1:=by
 have hpl:ps.length<=N.length:=by have:=congrArg List.length S.pre;rw [hAh] at this;omega
 obtain ⟨h1,tk,rfl,hk⟩:=x.done
 have noA:∀ b:Addr,b∉(cxOf CX P w K mg base N qual scope f cd A outer s H E).ex:=fun b z=>absurd (show b∈([]:List Addr) from z) (by simp)
 refine ⟨⟨e0.mod,S.kind,rfl,rfl,hA5 _,fun y z c h1 h2=>?_,fun y hy=>?_,fun y c _ h=>?_,fun _=>hd,Around.frames_deeper e0.frames,.inr ⟨rfl,rfl⟩,fun b z=>absurd z (noA b),e0.bs,e0.bsz,fun b _ _=>noA b,fun b z=>absurd z (noA b),e0.funs,e0.frf⟩,
  rfl,e0.bare,Un.kept hk,⟨_,x.toInCall.ns,fun i y v h1 h2 h3=>?_⟩,fun y c h=>⟨_,x.cell y c h⟩,e0.hok.fresh (hA5 _),fun y c h=>?_,fun p hp=>absurd (show p∈([]:List (Addr×Obj)) from hp) (by simp),e0.hok.kept hk,?_⟩
 ·exact name_of_addr x.apart (hBb h1) (hBb h2)
 ·have hy:scope.names.lookup y=some .cell\/scope.names.lookup y=some .free:=hy
  rcases hy with hy | hy
  ·exact cell_has hy
  ·exact absurd rfl (S.nofree _ (hBb hy))
 ·exact hBh (x.above y c (hBb h))
 ·have hi:i<vs.length:=by
   unfold start at h2
   by_cases hi:i<vs.length
   ·exact hi
   ·rw [hC2 (by simpa using hi)] at h2
    rw [List.getElem?_replicate] at h2
    split at h2 <;> cases h2
  have ha:vs[i]?=some v:=by
   unfold start at h2
   rw [hBp (by simpa using hi),hAj] at h2
   cases e:vs[i]? with
   | none=>rw [e] at h2;cases h2
   | some a=>rw [e] at h2;cases h2;rfl
  obtain ⟨u,hu,rv⟩:=r.get ha
  have hp:ps[i]?=some y:=by
   rw [<-S.pre,List.getElem?_take_of_lt (by omega)];exact h1
  have ndP:ps.Nodup:=by rw [<-S.pre];exact S.nd.sublist (hDj _ _)
  refine ⟨u,rv,?_⟩
  rcases S.par y (hAr hp) with k | k
  ·exact .inl ⟨k,bindL_get ndP hp hu k⟩
  ·obtain ⟨c,e⟩:=cell_has (n:=s.heap.objs.size+1) k
   refine .inr ⟨.inl k,c,e,?_⟩
   have q:=x.cell y c e
   rw [bindC_get ndP hp hu (by show scope.names.lookup y≠_;rw [k];decide)] at q
   exact q
 ·exact e0.hok.fresh (hBh (x.above y c (hBb h)))
 ·unfold start
  show _=N.length
  rw [hAc,hA1,List.length_replicate]
  omega
theorem fn_of {CX:CXT} {P:Program} {w:World} {K:PySem.W.Frag} {mg:Str->Option Value} {base:Heap} {k:Nat} {f:Addr} {name qual:Str} {params:Arguments} {body:List Stmt} {scope:Scope} {dV kV doc pm cdv ct oc:Value} {an od:Option Addr}
  {osl:Array (Option Value)} {N ps:List Str} {sp:Sp} (lk:K.lookup f=some ⟨oc,od,.func (PySem.W.fnOf name qual params body scope dV kV doc pm an cdv ct),osl⟩) (hcd:PySem.W.codeIn K cdv qual=true) (S:FnScope N ps scope)
  (len:∀ vs H Q E,sp vs H Q E->vs.length=ps.length)
  (hbody:∀ (A:Around) (outer:List Env) (s:Shared) (H:Hp) (vs:List V) (Q:VK) (E:XK),Room k (A.deeper (envOfC qual scope s.heap.objs.size f cdv))->sp vs H Q E ->
   ∃ t,PSs (cxOf CX P w K mg base N qual scope f cdv A outer s H E) body t/\t { nx:=fun _ H'=>Q .non H',rt:=Q } (start N vs) H) :
  FnOk P w K mg base CX (k+1) f (PySem.W.fnOf name qual params body scope dV kV doc pm an cdv ct) ps sp:=by
 refine ⟨len,fun A outer s H args us vs Q E hr e0 hb r hsp=>?_⟩
 have hl:=len _ _ _ _ hsp
 have KX:K.In s.heap:=e0.mod.kin.keeps fun b o e=>(e0.bs b o e).1
 have lim:s.heap.NoLimit:=e0.mod.nolimit.keeps fun b o e=>(e0.bs b o e).1
 have hkind:∀ y∈ps.zip us,scope.names.lookup y.1=some .local\/(scope.names.lookup y.1=some .cell/\((cellsFrom (s.heap.objs.size+1) scope.names []).lookup y.1).isSome=true):=fun ⟨n,v⟩ hy=>by
  rcases S.par n (List.of_mem_zip hy).1 with q | q
  ·exact .inl q
  ·exact .inr ⟨q,hCv _ _ _ (.inl q)⟩
 refine codeAny_call_function hr.depth (KX _ _ lk) rfl S.co S.gen rfl (PySem.W.codeRec_of KX hcd) (hb _ _ _ _ ?_)
 refine wpAny_newFunctionEnv_cells S.kind hkind fun env he s1 x=>?_
 subst he
 refine ⟨lim.keeps x.toInCall.keep,codeAny_func ?_⟩
 obtain ⟨t,ht,hq⟩:=hbody A outer s H vs Q E (hr.deeper _) hsp
 have I:Inv (cxOf CX P w K mg base N qual scope f cdv A outer s H E) [] (start N vs) H s1:=inv_start S hr.hd e0 hl r x
 refine wpAny_mono (ht [] s1 (start N vs) H _ I hq) (fun fl s' hs=>?_) fun e s' hs=>hs
 have fin:∀ {σ':St} {H':Hp} {v:V} {u:Value},Inv (cxOf CX P w K mg base N qual scope f cdv A outer s H E) [] σ' H' s'->qBg v u->Q v H'->CE outer P w H s Q u s' :=
  fun {σ' H' v u} J rv q=>⟨v,H',J.os,J.bare,J.base,J.hok,rv,q⟩
 cases fl with
 | ret u =>
  obtain ⟨v,σ',H',J,rv,q⟩:=hs
  exact fin J rv q
 | next =>
  obtain ⟨σ',H',J,q⟩:=hs
  exact fin (v:=V.non) (u:=Value.none) J rfl q
 | brk =>
  obtain ⟨_,_,_,q⟩:=hs
  exact False.elim q
 | cont =>
  obtain ⟨_,_,_,q⟩:=hs
  exact False.elim q
end L2
namespace L2
open PySem PySem.Spec PyProof.Rows
section
variable {X:Cx} {x:Str} {p pos:Pos} {e:Expr} {es:List Expr} {t:TA} {id T:String} {r:List V->Hp->VK->Prop}
def tCB (r:List V->Hp->VK->Prop) (t:TA):TE:=fun σ H Q=>t σ H fun vs H1=>r vs H1 Q
theorem qAn (hc:qBq X (.builtin id) r) (hg:Gl X x) (hm:X.mg x=none) (hv:bootBuiltins x=some (.builtin id)) (ha:PA X (e :: es) t) (hn:x≠"__name__":=by decide) (hdb:(x == ("__debug__" : Str))=false:=by decide)
  (he:starEach (e :: es) X.env=(false,eval e X.env) :: starEach es X.env:=by rfl) (hpl:(backTo pos (starEach es X.env)).any (·.1)=false:=by rfl):PE X (.Call (.Name x p) (e :: es) [] pos) (tCB r t):=by
 intro pins s σ H Q I h
 refine wpAny_Call_Name_kw (qEh I hg hm hv ?_ hn hdb)
 exact PyProof.Rows.callWith_builtin1 (thn (ha pos pins s σ H _ I h) fun us s1 ⟨vs,H1,I1,r1,q1⟩=>hc pins s1 σ H1 vs us Q I1 r1 q1) he hpl
theorem qBk (hc:qBq X (.type T) r) (hg:Gl X x) (hm:X.mg x=none) (hv:bootBuiltins x=some (.type T)) (ha:PA X (e :: es) t) (hn:x≠"__name__":=by decide) (hdb:(x == ("__debug__" : Str))=false:=by decide)
  (he:starEach (e :: es) X.env=(false,eval e X.env) :: starEach es X.env:=by rfl) (hpl:(backTo pos (starEach es X.env)).any (·.1)=false:=by rfl):PE X (.Call (.Name x p) (e :: es) [] pos) (tCB r t):=by
 intro pins s σ H Q I h
 refine wpAny_Call_Name_kw (qEh I hg hm hv ?_ hn hdb)
 exact hCu (thn (ha pos pins s σ H _ I h) fun us s1 ⟨vs,H1,I1,r1,q1⟩=>hc pins s1 σ H1 vs us Q I1 r1 q1) he hpl
end
end L2
namespace HT
open PySem PyProof.Rows
section
variable {prog:Program} {w:World} {A:Around} {E:Value->Shared->Prop} {s:Shared}
theorem cat_tup {t b:Addr} {vs ws:List Value} {Q:Value->Shared->Prop} (ht:IsTup s.heap t vs.toArray) (hb:IsTup s.heap b ws.toArray) (hv:vs≠[])
  (h1:ws=[]->Q (.ref t) s) (h2:ws≠[]->Q (.ref s.heap.objs.size) { s with heap:=s.heap.push { cls:=.type "tuple",data:=.seq (vs++ws).toArray } })
  (hsz:vs.length+ws.length<=sizeLine):wpAny (model prog w) A (binaryOp .Add (.ref t) (.ref b)) Q E s:=by
 obtain ⟨⟨cls,dd,data,sl⟩,ho,hc,n,hd⟩:=id ht
 obtain ⟨⟨cls2,dd2,data2,sl2⟩,ho2,hc2,n2,hd2⟩:=id hb
 simp only at hc hd hc2 hd2
 subst hc hd hc2 hd2
 have e:vs.toArray++ws.toArray=(vs++ws).toArray:=by simp
 by_cases hw:ws=[]
 ·exact concat_meets ⟨_,ho,rfl⟩ ⟨_,ho2,rfl⟩ noFill_tuple_add seq_tuple_add PySem.F.slot_tuple_add PySem.F.entry_tuple_add (PySem.F.args_tuple_add_2 _ _)
   (tuple_addW1 t b vs.toArray ws.toArray n n2 dd dd2 sl sl2 (by simpa using hv) (by simp [hw])) ⟨ho,ho2,h1 hw⟩
 ·refine concat_meets ⟨_,ho,rfl⟩ ⟨_,ho2,rfl⟩ noFill_tuple_add seq_tuple_add PySem.F.slot_tuple_add PySem.F.entry_tuple_add (PySem.F.args_tuple_add_2 _ _)
   (tuple_addW2 t b vs.toArray ws.toArray n n2 dd dd2 sl sl2 (by simpa using hv) (by simpa using hw) (by rw [hAd,hAd];exact hsz)) ⟨ho,ho2,?_⟩
  rw [e]
  exact h2 hw
def sIx (n d:Nat):Option Int->Nat
 | none=>d
 | some v=>if v<0 then (v+(n:Int)).toNat else min v.toNat n
theorem sIx_le (n d:Nat) (hd:d<=n) (o:Option Int):sIx n d o<=n:=by
 cases o with
 | none=>exact hd
 | some v =>
  show (if v<0 then (v+(n:Int)).toNat else min v.toNat n)<=n
  by_cases hv:v<0
  ·rw [if_pos hv];omega
  ·rw [if_neg hv];exact Nat.min_le_right _ _
theorem clip_eq (v:Int) (n d:Nat):(if v<0 then max (v+(n:Int)) 0 else min v (n:Int))=((sIx n d (some v):Nat):Int):=by
 show (if v<0 then max (v+(n:Int)) 0 else min v (n:Int))=(((if v<0 then (v+(n:Int)).toNat else min v.toNat n):Nat):Int)
 by_cases hv:v<0
 ·simp only [if_pos hv];omega
 ·simp only [if_neg hv];omega
theorem adjust_gen (lo hi:Option Int) (n:Nat):Builtin.Slice.sliceAdjust lo hi 1 (n:Int)=(((sIx n 0 lo:Nat):Int),((sIx n n hi:Nat):Int)):=by
 have h1:¬((1:Int)<0):=by omega
 unfold Builtin.Slice.sliceAdjust
 simp only [h1,if_false]
 refine Prod.ext ?_ ?_
 ·cases lo with
  | none=>rfl
  | some v=>exact clip_eq v n 0
 ·cases hi with
  | none=>rfl
  | some v=>exact clip_eq v n n
theorem places_gen (i j:Nat):Builtin.Slice.slicePlaces (i:Int) (j:Int) 1=j - i:=by
 unfold Builtin.Slice.slicePlaces
 have h1:(1:Int) > 0:=by omega
 simp only [h1,if_true,Int.ediv_one]
 split <;> omega
theorem qF5 {v:Value} {o:Option Int} {Q:Option Int->Shared->Prop} (p:IsPart v o) (h:Q o s):wpAny (model prog w) A (Builtin.Slice.slicePartIndex v) Q E s:=by
 cases p with
 | none=>exact slicePart_none h
 | int i t=>exact slicePart_int h
theorem qEl {sl:Addr} {vl vu:Value} {lo hi:Option Int} {n:Nat} {Q:Int×Int×Nat->Shared->Prop} (hs:s.heap.IsSliceOf sl vl vu .none) (pl:IsPart vl lo) (pu:IsPart vu hi)
  (h:Q (((sIx n 0 lo:Nat):Int),1,sIx n n hi - sIx n 0 lo) s):wpAny (model prog w) A (Builtin.Slice.sliceApplied (.ref sl) (pure (n:Int))) Q E s:=by
 obtain ⟨os,hos,hcs,hds⟩:=id hs
 unfold Builtin.Slice.sliceApplied Builtin.Slice.sliceFields
 refine wpAny_bind (wpAny_bind (wpAny_field hos hds (x:=vl) rfl (wpAny_bind (wpAny_field hos hds (x:=vu) rfl (wpAny_bind (wpAny_field hos hds (x:=.none) rfl (wpAny_pure ?_)))))))
 refine wpAny_bind (slicePart_none ?_)
 show wpAny _ _ (if ((1:Int) == 0)=true then _ else _) _ _ s
 rw [if_neg (by decide)]
 refine wpAny_bind (qF5 pl (wpAny_bind (qF5 pu (wpAny_bind (wpAny_pure ?_)))))
 show wpAny _ _ (match Builtin.Slice.sliceAdjust lo hi 1 (n:Int) with | (lo,hi)=>pure (lo,(1:Int),Builtin.Slice.slicePlaces lo hi 1)) _ _ s
 rw [adjust_gen lo hi n]
 show wpAny _ _ (pure (((sIx n 0 lo:Nat):Int),(1:Int),Builtin.Slice.slicePlaces ((sIx n 0 lo:Nat):Int) ((sIx n n hi:Nat):Int) 1)) _ _ s
 rw [places_gen]
 exact wpAny_pure h
theorem pick_gen (xs:Array Value) (i k:Nat):((List.range k).filterMap fun (m:Nat)=>xs[((i:Int)+(m:Int)*1).toNat]?).toArray=((xs.toList.drop i).take k).toArray:=by
 have e:(fun (m:Nat)=>xs[((i:Int)+(m:Int)*1).toNat]?)=fun m=>xs[i+m]?:=by
  funext m
  have:((i:Int)+(m:Int)*1).toNat=i+m:=by omega
  rw [this]
 rw [e]
 have:=pick_run xs i k
 rw [List.filterMap_map] at this
 have e2:((fun x=>xs[x]?)∘fun x=>i+x)=fun m=>xs[i+m]?:=rfl
 rw [e2] at this
 rw [this]
theorem getItem_tuple_cut {t sl:Addr} {items:Array Value} {vl vu:Value} {lo hi:Option Int} {Q:Value->Shared->Prop} (ht:IsTup s.heap t items) (hs:s.heap.IsSliceOf sl vl vu .none) (pl:IsPart vl lo) (pu:IsPart vu hi)
  (hw:¬(sIx items.size 0 lo=0/\sIx items.size items.size hi=items.size))
  (h:Q (.ref s.heap.objs.size) { s with heap:=s.heap.push { cls:=.type "tuple",data:=.seq ((items.toList.drop (sIx items.size 0 lo)).take (sIx items.size items.size hi - sIx items.size 0 lo)).toArray } })
  (hsz:items.size<=sizeLine):wpAny (model prog w) A (getItem (.ref t) (.ref sl)) Q E s:=by
 have htake:sizeOk (.seq ((items.toList.drop (sIx items.size 0 lo)).take (sIx items.size items.size hi - sIx items.size 0 lo)).toArray):=by
  show ((items.toList.drop (sIx items.size 0 lo)).take (sIx items.size items.size hi - sIx items.size 0 lo)).toArray.size<=sizeLine
  rw [hAd,hAh,hCe,hB2]
  omega
 have hj:sIx items.size items.size hi<=items.size:=sIx_le _ _ (hA5 _) hi
 obtain ⟨os,hos,hcs,hds⟩:=id hs
 have hTs:s.TypeIs (.ref sl) "slice":=⟨os,hos,hcs⟩
 unfold getItem
 try with_reducible refine wpAny_holding ?_
 first | refine wpAny_bind (wpAny_pure ?_) | skip
 refine wpAny_bind (wpAny_sequenceKey ht.typeIs (by decide) ?_)
 refine wpAny_bind (wpAny_callSpecial?_slot (name:=Str.ofString "__getitem__") ht.typeIs PyProof.Rows.slot_tuple_getitem
  (wpAny_call_entry PyProof.Rows.slot_tuple_getitem ht.typeIs entry_tuple_getitem ?_ (args_tuple_getitem _ _)))
 show wpAny _ _ (Builtin.Tuple.tupleItemsOf (.ref t) >>= _) _ _ s
 refine wpAny_bind (tupleItemsOf_ ht ?_)
 refine wpAny_bind (wpAny_typeOf hTs ?_)
 rw [if_pos (by decide)]
 refine wpAny_bind (qEl hs pl pu ?_)
 have hno:¬((((sIx items.size 0 lo:Nat):Int) == 0 && (1:Int) == 1 && (sIx items.size items.size hi - sIx items.size 0 lo) == items.size)=true):=by
  intro q
  rw [hBa,hBa] at q
  have q1:((sIx items.size 0 lo:Nat):Int)=0:=eq_of_beq q.1.1
  have q2:sIx items.size items.size hi - sIx items.size 0 lo=items.size:=eq_of_beq q.2
  exact hw ⟨by omega,by omega⟩
 show wpAny _ _ (if (((sIx items.size 0 lo:Nat):Int) == 0 && (1:Int) == 1 && (sIx items.size items.size hi - sIx items.size 0 lo) == items.size)=true then _ else _) _ _ s
 rw [if_neg hno,pick_gen]
 first
  | exact wpAny_bind (m:=Builtin.Tuple.tupleExact _) (wpAny_newObj_type (wpAny_pure ⟨_,rfl,wpAny_pure h⟩) htake)
  | exact wpAny_bind (m:=Builtin.Tuple.tupleExact _) (wpAny_newObj_type (wpAny_bind (wpAny_pure (wpAny_pure ⟨_,rfl,wpAny_pure h⟩))) htake)
  | exact wpAny_bind (wpAny_bind (m:=Builtin.Tuple.tupleExact _) (wpAny_newObj_type (wpAny_pure (wpAny_pure ⟨_,rfl,wpAny_pure h⟩)) htake))
  | exact wpAny_bind (wpAny_bind (m:=Builtin.Tuple.tupleExact _) (wpAny_newObj_type (wpAny_pure ⟨_,rfl,wpAny_pure h⟩) htake))
end
end HT
namespace L2
open PySem PySem.Spec PyProof.Rows
abbrev TO:=St->Hp->(Option Int->Hp->Prop)->Prop
def PO (X:Cx) (e:Option Expr) (t:TO):Prop :=
 ∀ (pins:List (Addr×Obj)) (s:Shared) (σ:St) (H:Hp) (Q:Option Int->Hp->Prop),Inv X pins σ H s->t σ H Q ->
  wpAny (model X.prog X.w) X.A (evalPart e X.env) (fun u s'=>∃ o H',Inv X pins σ H' s'/\IsPart u o/\Q o H') X.xe s
def tNoPart:TO:=fun _ H Q=>Q none H
def tPart (t:TE):TO:=fun σ H Q=>t σ H fun x H1=>∃ i,x = .int i/\Q (some i) H1
section
variable {X:Cx} {e:Expr} {te:TE} {lo hi:Option Expr} {tl th:TO} {pos p2:Pos}
theorem po_none:PO X none tNoPart:=by
 intro pins s σ H Q I h
 rw [evalPart_none]
 exact wpAny_pure ⟨none,H,I,.none,h⟩
theorem po_some (h:PE X e te):PO X (some e) (tPart te):=by
 intro pins s σ H Q I hw
 rw [evalPart_some]
 refine thn (h pins s σ H _ I hw) fun u s1 ⟨x,H1,I1,r1,q1⟩=>?_
 obtain ⟨i,rfl,q⟩:=q1
 obtain ⟨t,rfl⟩:=r1
 exact ⟨some i,H1,I1,.int i t,q⟩
def SlR (X:Cx) (r:V->Option Int->Option Int->Hp->VK->Prop):Prop :=
 ∀ (pins:List (Addr×Obj)) (s:Shared) (σ:St) (H:Hp) (x:V) (v vl vu:Value) (lo hi:Option Int) (sl:Addr) (Q:VK),Inv X pins σ H s->qBg x v->s.heap.IsSliceOf sl vl vu .none->IsPart vl lo->IsPart vu hi->r x lo hi H Q ->
  ∃ T id,typeLookup (.type T) "__getitem__" = pure (some (.builtin id))/\s.TypeIs v T/\wpAny (model X.prog X.w) X.A (getItem v (.ref sl)) (EP X pins σ Q) X.xe s
def tSl (r:V->Option Int->Option Int->Hp->VK->Prop) (te:TE) (tl th:TO):TE:=fun σ H Q=>te σ H fun x H1=>tl σ H1 fun l H2=>th σ H2 fun u H3=>r x l u H3 Q
theorem pe_slice {r:V->Option Int->Option Int->Hp->VK->Prop} (hr:SlR X r) (he:PE X e te) (hl:PO X lo tl) (hu:PO X hi th):PE X (.Subscript e (.Slice lo hi none p2) pos) (tSl r te tl th):=by
 intro pins s σ H Q I h
 refine Subscript_ (thn (he pins s σ H _ I h) fun v s1 ⟨x,H1,I1,r1,q1⟩=>?_)
 refine wpAny_Slice (thn (hl pins s1 σ H1 _ I1 q1) fun vl s2 ⟨l,H2,I2,pl,q2⟩=>thn (hu pins s2 σ H2 _ I2 q2) fun vu s3 ⟨u,H3,I3,pu,q3⟩=>?_)
 rw [evalPart_none]
 refine wpAny_pure ?_
 have I4:Inv X pins σ H3 { s3 with heap:=s3.heap.push { cls:=.type "slice",data:=.fields #[vl,vu,.none] } }:=I3.kept (t':=s3.toks) fun b ob q=>Heap.get?_push_of_some _ q
 obtain ⟨T,id,hT,ht,hg⟩:=hr pins { s3 with heap:=s3.heap.push { cls:=.type "slice",data:=.fields #[vl,vu,.none] } } σ H3 x v vl vu l u s3.heap.objs.size Q I4 r1 (Heap.IsSliceOf.new ..) pl pu q3
 show wpAny (model X.prog X.w) X.A (subscriptTail e (.Slice lo hi none p2) v (.ref s3.heap.objs.size)) (EP X pins σ Q) X.xe { s3 with heap:=s3.heap.push { cls:=.type "slice",data:=.fields #[vl,vu,.none] } }
 exact tail_any (ops:=[.ref s3.heap.objs.size,v]) ht hT hg (by with_unfolding_all rfl)
def cutV (xs:List V) (lo hi:Option Int):List V:=(xs.drop (HT.sIx xs.length 0 lo)).take (HT.sIx xs.length xs.length hi - HT.sIx xs.length 0 lo)
theorem cutV_length (xs:List V) (lo hi:Option Int):(cutV xs lo hi).length<=xs.length:=by
 unfold cutV
 rw [hAh,hCe]
 omega
def rSlT (K:PySem.W.Frag):V->Option Int->Option Int->Hp->VK->Prop:=fun x lo hi H Q=>∃ a xs,x = .ref a/\SqT K H a xs /\
 ¬(HT.sIx xs.length 0 lo=0/\HT.sIx xs.length xs.length hi=xs.length)/\∀ p,H p=none->Q (.ref p) (upd H p (.tup (cutV xs lo hi)))
theorem sl_tup:SlR X (rSlT X.K):=by
 intro pins s σ H x v vl vu lo hi sl Q I rx hs pl pu h
 obtain ⟨a,xs,rfl,hx,hw,q⟩:=h
 cases rx
 obtain ⟨its,r,ht,hz⟩:=I.tuple hx
 have hlen:its.toArray.size=xs.length:=by rw [hAd];exact r.length.symm
 refine ⟨"tuple",_,PyProof.Rows.slot_tuple_getitem.lookup,ht.typeIs,?_⟩
 refine HT.getItem_tuple_cut ht hs pl pu (by rw [hlen];exact hw) ?_ (by rw [hlen];exact hz)
 rw [hlen]
 refine ⟨.ref s.heap.objs.size,_,I.laid (t':=s.toks) (o:=.tup (cutV xs lo hi)) (fun b ob q=>Heap.get?_push_of_some _ q) (hA5 _) ?_,rfl,q _ (I.hok.fresh (hA5 _))⟩
 exact ⟨hAv (cutV_length xs lo hi) hz,_,(r.drop (HT.sIx xs.length 0 lo)).take (HT.sIx xs.length xs.length hi - HT.sIx xs.length 0 lo),IsTup.new _ _⟩
def rCatT (K:PySem.W.Frag):R2:=fun x y H Q=>∃ a b xs ys,x = .ref a/\y = .ref b/\SqT K H a xs/\SqT K H b ys/\xs≠[]/\xs.length+ys.length<=sizeLine /\
 (ys=[]->Q (.ref a) H)/\(ys≠[]->∀ p,H p=none->Q (.ref p) (upd H p (.tup (xs++ys))))
theorem qA6.nil_iff {xs:List V} {us:List Value} (r:qA6 xs us):us=[]↔xs=[]:=by
 cases r with
 | nil=>simp
 | cons _ _=>simp
theorem op_catT:OpR X (binaryOp .Add) (rCatT X.K):=by
 intro pins s σ H x y v u Q I rx ry h
 obtain ⟨a,b,xs,ys,rfl,rfl,ha,hb,hx,hz,q1,q2⟩:=h
 cases rx
 cases ry
 obtain ⟨its,r1,p1,_⟩:=I.tuple ha
 obtain ⟨its2,r2,p2,_⟩:=I.tuple hb
 refine HT.cat_tup p1 p2 (fun z=>hx (r1.nil_iff.mp z)) (fun z=>⟨.ref a,H,I,rfl,q1 (r2.nil_iff.mp z)⟩) (fun z=>?_) (by rw [<-r1.length,<-r2.length];exact hz)
 refine ⟨.ref s.heap.objs.size,_,I.laid (t':=s.toks) (o:=.tup (xs++ys)) (fun b ob q=>Heap.get?_push_of_some _ q) (hA5 _) ?_,rfl,q2 (fun w=>z (r2.nil_iff.mpr w)) _ (I.hok.fresh (hA5 _))⟩
 exact ⟨by rw [hAc];exact hz,_,r1.append r2,IsTup.new _ _⟩
end
end L2
namespace L2
open PySem PySem.Spec PyProof.Rows
def ixN (n:Nat) (i:Int):Option Nat:=if 0<=i then (if i<n then some i.toNat else none) else if -(n:Int)<=i then some (i+n).toNat else none
def atI {α:Type} (xs:List α) (i:Int):Option α:=(ixN xs.length i).bind fun j=>xs[j]?
theorem ixN_seq {n:Nat} {i:Int} {j:Nat} (h:ixN n i=some j):seqIndex? i n=some j/\j<n/\-(n:Int)<=i/\i<n:=by
 unfold ixN at h
 by_cases h0:0<=i
 ·rw [if_pos h0] at h
  by_cases h1:i<n
  ·rw [if_pos h1] at h
   have e:i.toNat=j:=hAs h
   exact ⟨by rw [seqIndex_of h0 h1,e],by omega,by omega,h1⟩
  ·rw [if_neg h1] at h;cases h
 ·rw [if_neg h0] at h
  by_cases h1:-(n:Int)<=i
  ·rw [if_pos h1] at h
   have e:(i+n).toNat=j:=hAs h
   exact ⟨by rw [seqIndex_neg (by omega) h1,e],by omega,h1,by omega⟩
  ·rw [if_neg h1] at h;cases h
theorem atI_get {α:Type} {xs:List α} {i:Int} {v:α} (h:atI xs i=some v):∃ j,seqIndex? i xs.length=some j/\xs[j]?=some v/\j<xs.length/\-(xs.length:Int)<=i/\i<xs.length:=by
 unfold atI at h
 cases e:ixN xs.length i with
 | none=>rw [e] at h;cases h
 | some j =>
  rw [e] at h
  obtain ⟨h1,h2,h3,h4⟩:=ixN_seq e
  exact ⟨j,h1,h,h2,h3,h4⟩
theorem atI_nat {α:Type} {xs:List α} {j:Nat} {v:α} (h:xs[j]?=some v):atI xs (j:Int)=some v:=by
 have hj:j<xs.length:=(hAp.mp h).1
 have e:ixN xs.length (j:Int)=some j:=by
  unfold ixN
  rw [if_pos (by omega),if_pos (by omega)];simp
 unfold atI;rw [e];exact h
def PlainIx (b:Expr):Prop:=∀ o i,subscripted b false o i=operate [o,i] (getItem o i)
def IxR (X:Cx) (r:R2):Prop :=
 ∀ (value slice:Expr) (pins:List (Addr×Obj)) (s:Shared) (σ:St) (H:Hp) (x y:V) (v u:Value) (Q:VK),Inv X pins σ H s->qBg x v->qBg y u->r x y H Q ->
  subscripted slice false v u=operate [v,u] (getItem v u)->wpAny (model X.prog X.w) X.A (subscriptTail value slice v u) (EP X pins σ Q) X.xe s
def MtR (X:Cx) (id:String) (r:V->List V->Hp->VK->Prop):Prop :=
 ∀ (pins:List (Addr×Obj)) (s:Shared) (σ:St) (H:Hp) (x:V) (xs:List V) (v:Value) (us:List Value) (Q:VK),Inv X pins σ H s->qBg x v->qA6 xs us->r x xs H Q ->
  wpAny (model X.prog X.w) X.A (call (.builtin id) (v :: us)) (EP X pins σ Q) X.xe s
section
variable {X:Cx} {a b:Expr} {ta tb:TE} {pos:Pos}
theorem pe_ix {r:R2} (hr:IxR X r) (ha:PE X a ta) (hb:PE X b tb) (hs:PlainIx b):PE X (.Subscript a b pos) (tOp r ta tb):=by
 intro pins s σ H Q I h
 exact Subscript_ (binT ha hb I h fun v u s2 x y H2 I2 rx ry q=>hr a b pins s2 σ H2 x y v u Q I2 rx ry q (hs _ _))
def rIxL (K:PySem.W.Frag):R2:=fun x y H Q=>∃ p xs i v,x = .ref p/\y = .int i/\SqL K H p xs/\atI xs i=some v/\Q v H
def rIxT (K:PySem.W.Frag):R2:=fun x y H Q=>∃ p xs i v,x = .ref p/\y = .int i/\SqT K H p xs/\atI xs i=some v/\Q v H
def rIxS:R2:=fun x y H Q=>∃ z i c,x = .str z/\y = .int i/\z.length<=sizeLine/\atI z.cps.toList i=some c/\Q (.str ⟨#[c]⟩) H
theorem ix_list:IxR X (rIxL X.K):=by
 intro value slice pins s σ H x y v u Q I rx ry h hs
 obtain ⟨p,xs,i,z,rfl,rfl,hq,he,q⟩:=h
 cases rx
 obtain ⟨t,rfl⟩:=ry
 obtain ⟨its,r,pl,hz⟩:=I.list hq
 obtain ⟨j,h1,h2,h3,h4,h5⟩:=atI_get he
 obtain ⟨w,ew,rw'⟩:=r.get h2
 have hl:=r.length
 have hn:=qGg
 have fin:EP X pins σ Q w s:=⟨z,H,I,rw',q⟩
 by_cases h0:0<=i
 ·have hj:i.toNat=j:=by
   rw [seqIndex_of h0 h5] at h1
   exact hAs h1
  exact item_listR pl.isList h0 (by omega) (by rw [hj];simpa using ew) fin hs
 ·have hj:(i+(its.toArray.size:Int)).toNat=j:=by
   rw [seqIndex_neg (by omega) h4] at h1
   rw [hAd,<-hl]
   exact hAs h1
  exact subscriptTail_builtinR (x:=w) pl.isList.typeIs slot_list_getitem.lookup
   (wpAny_getItem_list_neg (Q:=fun r s'=>r=w/\EP X pins σ Q r s') pl.isList (by omega) (by rw [hAd] <;> omega) (by omega) (by rw [hj];simpa using ew) ⟨rfl,fin⟩) hs
theorem qBw:IxR X (rIxT X.K):=by
 intro value slice pins s σ H x y v u Q I rx ry h hs
 obtain ⟨p,xs,i,z,rfl,rfl,hq,he,q⟩:=h
 cases rx
 obtain ⟨t,rfl⟩:=ry
 obtain ⟨its,r,pl,hz⟩:=I.tuple hq
 obtain ⟨j,h1,h2,h3,h4,h5⟩:=atI_get he
 obtain ⟨w,ew,rw'⟩:=r.get h2
 have hl:=r.length
 have hn:=qGg
 have fin:EP X pins σ Q w s:=⟨z,H,I,rw',q⟩
 exact subscriptTail_builtinR (x:=w) pl.typeIs slot_tuple_getitem.lookup
  (getItem_tuple (j:=j) (Q:=fun r s'=>r=w/\EP X pins σ Q r s') pl (by omega) (by omega) (by rw [hAd,<-hl];exact h1) (by simpa using ew) ⟨rfl,fin⟩) hs
theorem ix_str:IxR X rIxS:=by
 intro value slice pins s σ H x y v u Q I rx ry h hs
 obtain ⟨z,i,c,rfl,rfl,hz,he,q⟩:=h
 obtain ⟨t,rfl⟩:=rx
 obtain ⟨t',rfl⟩:=ry
 obtain ⟨j,h1,h2,h3,h4,h5⟩:=atI_get he
 have hl:z.cps.toList.length=z.length:=by simp [Str.length]
 rw [hl] at h1 h4 h5
 have hn:=qGg
 exact tail_any (typeIs_str s z t) slot_str_getitem.lookup (getItem_str (c:=c) (by
  have e1:decide (i < -(2^63:Int))=false:=decide_eq_false (by omega)
  have e2:decide (i >= 2^63)=false:=decide_eq_false (by omega)
  rw [e1,e2,Bool.or_false]) (by rw [h1];simpa using h2) ⟨.str ⟨#[c]⟩,H,I.tok _,⟨_,rfl⟩,q⟩) hs
def flatV:V->Bool
 | .non=>true
 | .bl _=>true
 | .int _=>true
 | .str _=>true
 | _=>false
def eqV:V->V->Bool
 | .non,.non=>true
 | .bl a,.bl b=>a == b
 | .bl a,.int b=>(if a then 1 else 0) == b
 | .int a,.bl b=>a == (if b then 1 else 0)
 | .int a,.int b=>a == b
 | .str a,.str b=>a == b
 | _,_=>false
theorem eqAt_V {A:Around} {s:Shared} {y x:V} {u v:Value} (ry:qBg y u) (rx:qBg x v) (fy:flatV y=true) (fx:flatV x=true):SeqAt.EqAt A s u v (eqV y x):=by
 cases y with
 | non =>
  cases ry
  cases x with
  | non=>cases rx;exact SeqAt.EqAt.same _
  | bl b=>cases rx;exact SeqAt.EqAt.none_bool b
  | int b=>obtain ⟨t,rfl⟩:=rx;exact SeqAt.EqAt.none_int b t
  | str b=>obtain ⟨t,rfl⟩:=rx;exact SeqAt.EqAt.none_str b t
  | _=>exact absurd (show false=true from fx) hAn
 | bl a =>
  cases ry
  cases x with
  | non=>cases rx;exact SeqAt.EqAt.bool_none a
  | bl b=>cases rx;exact SeqAt.EqAt.bool_bool a b
  | int b=>obtain ⟨t,rfl⟩:=rx;exact SeqAt.EqAt.bool_int a b t
  | str b=>obtain ⟨t,rfl⟩:=rx;exact SeqAt.EqAt.bool_str a b t
  | _=>exact absurd (show false=true from fx) hAn
 | int a =>
  obtain ⟨t',rfl⟩:=ry
  cases x with
  | non=>cases rx;exact SeqAt.EqAt.int_none a t'
  | bl b=>cases rx;exact SeqAt.EqAt.int_bool a t' b
  | int b=>obtain ⟨t,rfl⟩:=rx;exact SeqAt.EqAt.int_int a t' b t
  | str b=>obtain ⟨t,rfl⟩:=rx;exact SeqAt.EqAt.int_str a t' b t
  | _=>exact absurd (show false=true from fx) hAn
 | str a =>
  obtain ⟨t',rfl⟩:=ry
  cases x with
  | non=>cases rx;exact SeqAt.EqAt.str_none a t'
  | bl b=>cases rx;exact SeqAt.EqAt.str_bool a t' b
  | int b=>obtain ⟨t,rfl⟩:=rx;exact SeqAt.EqAt.str_int a t' b t
  | str b=>obtain ⟨t,rfl⟩:=rx;exact SeqAt.EqAt.str_str a t' b t
  | _=>exact absurd (show false=true from fx) hAn
 | _=>exact absurd (show false=true from fy) hAn
def eqU (x:V) (u:Value):Bool:=match u with
 | .none=>eqV .non x
 | .bool b=>eqV (.bl b) x
 | .int i _=>eqV (.int i) x
 | .str z _=>eqV (.str z) x
 | _=>false
theorem eqU_of {x y:V} {u:Value} (r:qBg y u) (f:flatV y=true):eqU x u=eqV y x:=by
 cases y with
 | non=>cases r;rfl
 | bl b=>cases r;rfl
 | int i=>obtain ⟨t,rfl⟩:=r;rfl
 | str z=>obtain ⟨t,rfl⟩:=r;rfl
 | _=>exact absurd (show false=true from f) hAn
theorem any_eqU {x:V}:∀ {xs:List V} {us:List Value},qA6 xs us->xs.all flatV=true->us.any (eqU x)=xs.any fun y=>eqV y x
 | _,_,.nil,_=>rfl
 | y :: xs,u :: us,.cons r t,f=>by
  rw [List.all_cons,hBa] at f
  rw [hCh,hCh,eqU_of r f.1,any_eqU t f.2]
theorem mem_eqAt {A:Around} {s:Shared} {x:V} {v:Value} (rx:qBg x v) (fx:flatV x=true):∀ {xs:List V} {us:List Value},qA6 xs us->xs.all flatV=true->∀ u∈us,SeqAt.EqAt A s u v (eqU x u)
 | _,_,.nil,_=>fun u hu=>by cases hu
 | y :: xs,u :: us,.cons r t,f=>fun u' hu=>by
  rw [List.all_cons,hBa] at f
  rcases hA9.mp hu with rfl | hu
  ·rw [eqU_of r f.1];exact eqAt_V r rx f.1 fx
  ·exact mem_eqAt rx fx t f.2 u' hu
def inV (x:V) (xs:List V):Bool:=xs.any fun y=>eqV y x
def rIn (K:PySem.W.Frag) (neg:Bool):R2:=fun x y H Q=>∃ p xs,y = .ref p/\(SqL K H p xs\/SqT K H p xs)/\flatV x=true/\xs.all flatV=true/\Q (.bl (if neg then !inV x xs else inV x xs)) H
theorem qFh:OpR X (compareOp .In) (rIn X.K false):=by
 intro pins s σ H x y v u Q I rx ry h
 obtain ⟨p,xs,rfl,hq,fx,fs,q⟩:=h
 cases ry
 rcases hq with hq | hq
 ·obtain ⟨its,r,pl,hz⟩:=I.list hq
  refine SeqAt.in_listAt (eqU x) pl.isList (fun w hw=>mem_eqAt rx fx r fs w (by simpa using hw)) ⟨.bl _,H,I,rfl,?_⟩
  rw [show its.toArray.any (eqU x)=its.any (eqU x) by simp,any_eqU r fs]
  exact q
 ·obtain ⟨its,r,pl,hz⟩:=I.tuple hq
  refine SeqAt.in_tupleAt (eqU x) pl (fun w hw=>mem_eqAt rx fx r fs w (by simpa using hw)) ⟨.bl _,H,I,rfl,?_⟩
  rw [show its.toArray.any (eqU x)=its.any (eqU x) by simp,any_eqU r fs]
  exact q
theorem qAw:qBq X (.builtin "len") (fun xs H Q=>∃ p ys,xs=[.ref p]/\(SqL X.K H p ys\/SqT X.K H p ys)/\Q (.int ys.length) H):=by
 intro pins s σ H xs us Q I r h
 obtain ⟨p,ys,rfl,hq,q⟩:=h
 obtain ⟨u,rfl,rx⟩:=qCa r
 cases rx
 have hn:=qGg
 rcases hq with hq | hq
 ·obtain ⟨its,r',pl,hz⟩:=I.list hq
  have hlen:=r'.length
  exact Calls.call_len_list pl.isList (by simp only [hAd] <;> omega) ⟨.int ys.length,H,I.tok _,⟨s.toks+1,by rw [hAd,hlen]⟩,q⟩
 ·obtain ⟨its,r',pl,hz⟩:=I.tuple hq
  have hlen:=r'.length
  exact len_tuple pl (by simp only [hAd] <;> omega) ⟨.int ys.length,H,I.tok _,⟨s.toks+1,by rw [hAd,hlen]⟩,q⟩
theorem call_len_str:qBq X (.builtin "len") (fun xs H Q=>∃ z,xs=[.str z]/\z.length<=sizeLine/\Q (.int z.length) H):=by
 intro pins s σ H xs us Q I r h
 obtain ⟨z,rfl,hz,q⟩:=h
 obtain ⟨u,rfl,t,rfl⟩:=qCa r
 have hn:=qGg
 exact len_str (by omega) ⟨.int z.length,H,I.tok _,⟨_,rfl⟩,q⟩
theorem qB9:qBq X (.type "list") (fun xs H Q=>∃ p ys,xs=[.ref p]/\(SqL X.K H p ys\/SqT X.K H p ys)/\∀ l,H l=none->Q (.ref l) (upd H l (.lst ys))):=by
 intro pins s σ H xs us Q I r h
 obtain ⟨p,ys,rfl,hq,q⟩:=h
 obtain ⟨u,rfl,rx⟩:=qCa r
 cases rx
 have fin:∀ (its:List Value),qA6 ys its->ys.length<=sizeLine->∀ (h':Heap) (c':Nat),(∀ b o',s.heap.get? b=some o'->h'.get? b=some o') ->
   h'.get? s.heap.objs.size=some { cls:=.type "list",dict:=none,data:=.seq its.toArray c',slots:=#[] }->EP X pins σ Q (.ref s.heap.objs.size) { s with heap:=h' }:=fun its r' hz h' c' kp e =>
  ⟨.ref s.heap.objs.size,_,I.laid (t':=s.toks) kp (hA5 _) (show qBf X.prog X.w _ h' _ (.lst ys) from ⟨hz,its,c',r',e⟩),rfl,q _ (I.hok.fresh (hA5 _))⟩
 rcases hq with hq | hq
 ·obtain ⟨its,r',pl,hz⟩:=I.list hq
  have hlen:=r'.length
  obtain ⟨o,ho,hc,n,hd⟩:=pl.isList
  exact call_list_seq p (.inl rfl) ho hc hd (fun h' c' kp e=>fin its r' hz h' c' kp e) (by simp only [hAd] <;> omega)
 ·obtain ⟨its,r',pl,hz⟩:=I.tuple hq
  have hlen:=r'.length
  obtain ⟨o,ho,hc,n,hd⟩:=pl
  exact call_list_seq p (.inr rfl) ho hc hd (fun h' c' kp e=>fin its r' hz h' c' kp e) (by simp only [hAd] <;> omega)
theorem call_tuple_of:qBq X (.type "tuple") (fun xs H Q=>∃ p ys,xs=[.ref p]/\((SqL X.K H p ys/\∀ l,H l=none->Q (.ref l) (upd H l (.tup ys)))\/(SqT X.K H p ys/\Q (.ref p) H))):=by
 intro pins s σ H xs us Q I r h
 obtain ⟨p,ys,rfl,h⟩:=h
 obtain ⟨u,rfl,rx⟩:=qCa r
 cases rx
 rcases h with ⟨hq,q⟩ | ⟨hq,q⟩
 ·obtain ⟨its,r',pl,hz⟩:=I.list hq
  have hlen:=r'.length
  refine call_tuple_list pl.isList (fun h' kp=>?_) (by simp only [hAd] <;> omega)
  have I1:Inv X pins σ H { s with heap:=h' }:=I.kept (t':=s.toks) kp
  have I2:Inv X pins σ (upd H h'.objs.size (.tup ys)) { s with heap:=h'.push { cls:=.type "tuple",data:=.seq its.toArray } } :=
   I1.laid (t':=s.toks) (fun b o e=>Heap.get?_push_of_some _ e) (hA5 _) (show qBf X.prog X.w _ _ _ (.tup ys) from ⟨hz,its,r',IsTup.new _ _⟩)
  exact ⟨.ref h'.objs.size,_,I2,rfl,q _ (I1.hok.fresh (hA5 _))⟩
 ·obtain ⟨its,r',pl,hz⟩:=I.tuple hq
  exact call_tuple_same pl ⟨.ref p,H,I,rfl,q⟩
def tyV (K:PySem.W.Frag) (T:String) (x:V) (H:Hp):Prop:=match x with
 | .str _=>T = "str"
 | .int _=>T = "int"
 | .ref p=>(T = "list"/\∃ xs,SqL K H p xs)\/(T = "tuple"/\∃ o,K.lookup p=some o/\o.cls = .type "tuple"/\o.dict=none) \/
   (T = "dict"/\((∃ kvs,H p=some (.dK kvs))\/∃ kvs,H p=some (.dT kvs)))\/(T = "set"/\∃ S n,H p=some (.set S n))
 | _=>False
theorem tyV_is {pins:List (Addr×Obj)} {σ:St} {H:Hp} {s:Shared} {T:String} {x:V} {v:Value} (I:Inv X pins σ H s) (r:qBg x v) (ty:tyV X.K T x H) :
  s.TypeIs v T/\∀ a,v = .ref a->∃ ob,s.heap.get? a=some ob/\ob.dict=none:=by
 cases x with
 | str z =>
  obtain ⟨t,rfl⟩:=r
  cases (show T = "str" from ty)
  exact ⟨typeIs_str s z t,fun _ e=>nomatch e⟩
 | int i =>
  obtain ⟨t,rfl⟩:=r
  cases (show T = "int" from ty)
  exact ⟨typeIs_int s i t,fun _ e=>nomatch e⟩
 | ref p =>
  cases r
  rcases ty with ⟨rfl,xs,hq⟩ | ⟨rfl,o,hk,hc,hd⟩ | ⟨rfl,hk⟩ | ⟨rfl,S,n,hk⟩
  ·obtain ⟨its,_,pl,_⟩:=I.list hq
   refine ⟨pl.isList.typeIs,fun a e=>?_⟩
   cases e
   obtain ⟨o,n,e,c,hd,_⟩:=pl
   exact ⟨o,e,hd⟩
  ·refine ⟨⟨o,I.kIn p o hk,hc⟩,fun a e=>?_⟩
   cases e
   exact ⟨o,I.kIn _ o hk,hd⟩
  ·have z:∃ o,s.heap.get? p=some o/\o.ExactDict:=by
    rcases hk with ⟨kvs,hk⟩ | ⟨kvs,hk⟩
    ·obtain ⟨_,_,_,_,o,_,_,e,ex,_⟩:=I.hok p _ hk
     exact ⟨o,e,ex⟩
    ·obtain ⟨_,_,_,_,o,_,_,e,ex,_⟩:=I.hok p _ hk
     exact ⟨o,e,ex⟩
   obtain ⟨o,e,ex⟩:=z
   refine ⟨⟨o,e,ex.1⟩,fun a e2=>?_⟩
   cases e2
   exact ⟨o,e,ex.2.1⟩
  ·obtain ⟨o,_,_,_,e,ex,_⟩:=I.hok p _ hk
   refine ⟨⟨o,e,ex.1⟩,fun a e2=>?_⟩
   cases e2
   exact ⟨o,e,ex.2.1⟩
 | _=>exact False.elim ty
def tBM0 (K:PySem.W.Frag) (T:String) (r:V->List V->Hp->VK->Prop) (to:TE):TE:=fun σ H Q=>to σ H fun x H1=>tyV K T x H1/\r x [] H1 Q
def tBM (K:PySem.W.Frag) (T:String) (r:V->List V->Hp->VK->Prop) (to:TE) (t:TA):TE:=fun σ H Q=>to σ H fun x H1=>tyV K T x H1/\t σ H1 fun xs H2=>r x xs H2 Q
variable {o e:Expr} {es:List Expr} {to:TE} {t:TA} {name:Str} {apos cpos:Pos} {T id:String} {r:V->List V->Hp->VK->Prop}
theorem pe_bm0 (pa:PlainAttrs T) (slot:Slot T name id) (hty:typeOf (.builtin id)=pure (.type "method_descriptor")) (hm:MtR X id r) (ho:PE X o to)
  (hbase:attributeBase o name X.env (eval o X.env)=eval o X.env:=by rfl) (hline:(apos.endLine == cpos.line)=true:=by rfl):PE X (.Call (.Attribute o name apos) [] [] cpos) (tBM0 X.K T r to):=by
 intro pins s σ H Q I h
 refine wpAny_Call_method0_late hbase hline (thn (ho pins s σ H _ I h) fun v s1 ⟨x,H1,I1,r1,ty,q1⟩=>?_)
 obtain ⟨h1,h2⟩:=tyV_is I1 r1 ty
 exact ⟨T,id,pa,slot,hty,h1,h2,Calls.callWith_builtin rfl (PySem.evalArgs_none (hm pins s1 σ H1 x [] v [] Q I1 r1 .nil q1))⟩
theorem pe_bm (pa:PlainAttrs T) (slot:Slot T name id) (hty:typeOf (.builtin id)=pure (.type "method_descriptor")) (hm:MtR X id r) (ho:PE X o to) (ha:PA X (e :: es) t)
  (hbase:attributeBase o name X.env (eval o X.env)=eval o X.env:=by rfl)
  (hfew:((backTo cpos (starEach (e :: es) X.env)).all (fun x=>!x.1) && (backToKw cpos (keywordEach [] X.env)).all (fun x=>x.1.isSome)
   && decide ((e :: es).length+([]:List Keyword).length+(if ([]:List Keyword).isEmpty then 0 else 1)<30))=true:=by rfl)
  (hline:(apos.endLine == cpos.line)=true:=by rfl) (hs:starEach (e :: es) X.env=(false,eval e X.env) :: starEach es X.env:=by rfl) (hplain:(backTo cpos (starEach es X.env)).any (·.1)=false:=by rfl) :
  PE X (.Call (.Attribute o name apos) (e :: es) [] cpos) (tBM X.K T r to t):=by
 intro pins s σ H Q I h
 refine wpAny_Call_method_late hbase hfew hline rfl (thn (ho pins s σ H _ I h) fun v s1 ⟨x,H1,I1,r1,ty,q1⟩=>?_)
 obtain ⟨h1,h2⟩:=tyV_is I1 r1 ty
 refine ⟨T,id,pa,slot,hty,h1,h2,?_⟩
 have hA:=ha cpos pins s1 σ H1 _ I1 q1
 rw [hs] at hA ⊢
 refine Calls.callWith_builtin (by show (false || (backTo cpos (starEach es X.env)).any (·.1))=false;rw [hplain] <;> rfl) (Calls.evalArgs_plain ?_)
 exact thn hA fun us s2 ⟨vs,H2,I2,r2,q2⟩=>hm pins s2 σ H2 x vs v us Q I2 r1 r2 q2
end
end L2
namespace L2
open PySem PySem.Spec PyProof.Rows
def MtM (X:Cx) (id:String) (r:V->List V->Hp->VK->Prop):Prop :=
 ∀ (pins:List (Addr×Obj)) (s:Shared) (σ:St) (H:Hp) (x:V) (xs:List V) (v:Value) (us:List Value) (Q:VK),Inv X pins σ H s->qBg x v->qA6 xs us->r x xs H Q ->
  wpAny (model X.prog X.w) X.A (call (.builtin id) (v :: us)) (EP X pins σ Q) X.xe s
theorem qA6.one:∀ {x:V} {us:List Value},qA6 [x] us->∃ u,us=[u]/\qBg x u
 | _,_,.cons r .nil=>⟨_,rfl,r⟩
theorem qA6.zero:∀ {us:List Value},qA6 [] us->us=[]
 | _,.nil=>rfl
theorem qA6.reverse {xs:List V} {us:List Value} (h:qA6 xs us):qA6 xs.reverse us.reverse:=by
 induction h with
 | nil=>exact .nil
 | cons r t ih=>rw [List.reverse_cons,List.reverse_cons];exact qA6.append ih (.cons r .nil)
section
variable {X:Cx} {pins:List (Addr×Obj)} {σ:St} {H:Hp} {s:Shared} {l b:Addr} {xs ys zs:List V}
theorem Inv.lset {its its':List Value} {n:Nat} {f:Array Value->Array Value} {t':Nat} (I:Inv X pins σ H s) (hH:H l=some (.lst xs))
  (e:s.heap.get? l=some { cls:=.type "list",data:=.seq its.toArray n }) (hf:f its.toArray=its'.toArray) (hv:qA6 ys its') (hz:ys.length<=sizeLine) :
  Inv X pins σ (upd H l (.lst ys)) { s with heap:=s.heap.update l (Obj.mapSeq f),toks:=t' }:=by
 have q:=PySem.IsL.update e f
 rw [hf] at q
 refine I.write (x:=l) (e:=l) (by rw [hH];exact trivial) (.inl rfl) (fun b' u hb hu=>(Heap.get?_update_other s.heap (Obj.mapSeq f) (Ne.symm hb)).trans hu) ⟨_,q⟩ ?_
 exact ⟨hz,its',_,hv,q⟩
theorem Inv.lnew {its:List Value} {t':Nat} (I:Inv X pins σ H s) (hv:qA6 ys its) (hz:ys.length<=sizeLine) :
  Inv X pins σ (upd H s.heap.objs.size (.lst ys)) { s with heap:=s.heap.push { cls:=.type "list",data:=.seq its.toArray },toks:=t' } :=
 I.laid (fun _ _ q=>Heap.get?_push_of_some _ q) (hA5 _) ⟨hz,its,0,hv,Heap.get?_push_size _ rfl⟩
theorem Inv.fresh (I:Inv X pins σ H s):H s.heap.objs.size=none:=I.hok.fresh (hA5 _)
theorem Inv.lstM (I:Inv X pins σ H s) (hH:H l=some (.lst xs)):xs.length<=sizeLine/\∃ (its:List Value) (n:Nat),qA6 xs its/\xs.length=its.length/\s.heap.get? l=some { cls:=.type "list",data:=.seq its.toArray n }:=by
 obtain ⟨z,its,n,r,e⟩:=I.hok l _ hH
 exact ⟨z,its,n,r,r.length,e⟩
end
section
variable {X:Cx}
def rAppend:V->List V->Hp->VK->Prop:=fun x vs H Q=>∃ l xs y,x = .ref l/\vs=[y]/\H l=some (.lst xs)/\xs.length<sizeLine/\Q .non (upd H l (.lst (xs++[y])))
theorem qB4:MtM X "list.append" rAppend:=by
 intro pins s σ H x vs v us Q I rx rv h
 obtain ⟨l,xs,y,rfl,rfl,hH,hz,q⟩:=h
 cases rx
 obtain ⟨u,rfl,ru⟩:=rv.one
 obtain ⟨z,its,n,r,hl,e⟩:=I.lstM hH
 refine call_meets F.slot_list_append ⟨_,e,rfl⟩ F.entry_list_append (F.args_list_append_2 _ _) (PySem.list_append l its.toArray n u (by rw [hAd];omega)) ⟨e,?_⟩
 refine ⟨.non,_,I.lset (its':=its++[u]) hH e (by simp) (r.append (.cons ru .nil)) ?_,rfl,q⟩
 rw [hAc,List.length_singleton]
 omega
def rReverse:V->List V->Hp->VK->Prop:=fun x vs H Q=>∃ l xs,x = .ref l/\vs=[]/\H l=some (.lst xs)/\Q .non (upd H l (.lst xs.reverse))
theorem mt_reverse:MtM X "list.reverse" rReverse:=by
 intro pins s σ H x vs v us Q I rx rv h
 obtain ⟨l,xs,rfl,rfl,hH,q⟩:=h
 cases rx
 have hus:=rv.zero
 subst hus
 obtain ⟨z,its,n,r,hl,e⟩:=I.lstM hH
 refine call_meets F.slot_list_reverse ⟨_,e,rfl⟩ F.entry_list_reverse (F.args_list_reverse_1 _) (AutoSeq1.list_reverse_list_0 l its.toArray n (by rw [hAd];omega)) ⟨e,?_⟩
 refine ⟨.non,_,I.lset (its':=its.reverse) hH e (by simp) r.reverse ?_,rfl,q⟩
 rw [List.length_reverse]
 omega
def rCat:R2:=fun x y H Q=>∃ l b xs zs,x = .ref l/\y = .ref b/\H l=some (.lst xs)/\H b=some (.lst zs)/\xs.length+zs.length<=sizeLine/\∀ p,H p=none->Q (.ref p) (upd H p (.lst (xs++zs)))
theorem op_cat:OpR X (binaryOp .Add) rCat:=by
 intro pins s σ H x y v u Q I rx ry h
 obtain ⟨l,b,xs,zs,rfl,rfl,hH,hB,hz,q⟩:=h
 cases rx
 cases ry
 obtain ⟨z,its,n,r,hl,e⟩:=I.lstM hH
 obtain ⟨z2,its2,n2,r2,hl2,e2⟩:=I.lstM hB
 refine PySem.P.add_list e e2 ?_ (by rw [hAd,hAd];omega)
 have ea:its.toArray++its2.toArray=(its++its2).toArray:=by simp
 rw [ea]
 exact ⟨.ref _,_,I.lnew (t':=s.toks) (r.append r2) (by rw [hAc];omega),rfl,q _ I.fresh⟩
end
end L2
namespace Att
open PySem PySem.W PySem.Calls PyProof.Rows
theorem qFm {P:Params} {h:Heap}:∀ (ns:List Int) (vs:List Value),WellAll P h vs (ns.map WData.int)->IntsAre vs ns:=by
 intro ns
 induction ns with
 | nil =>
  intro vs w
  rw [List.map_nil] at w
  cases w
  exact .nil
 | cons n ns ih =>
  intro vs w
  rw [hAl] at w
  cases w with
  | cons a b =>
   cases a
   exact .cons _ _ (ih _ b)
theorem script_of {l:OpenLaw} {n:Nat} (hn:l.most=some n) {P:Params} {h:Heap} {args:List WData} {vals:List Value}
  (hpre:l.row.toRowW.claim.pre args=true) (hwl:WellAll P h vals args) :
  ∃ a vs ns,vals=[Value.ref a]/\args=[WData.list (ns.map WData.int)]/\h.get? a=some { cls:=.type "list",data:=.seq vs.toArray }/\IntsAre vs ns/\ns.length<=n:=by
 have hsh:WShape.hasAll [] args [.list .int]=true:=(pre_splitW hpre).1
 have hc:l.pre.holds [] { args:=args }=true:=(pre_splitW hpre).2
 obtain ⟨d,r,rfl,h1,h2⟩:=hasAllW_cons hsh
 obtain rfl:=hasAllW_nil h2
 obtain ⟨xs,rfl,h3⟩:=hasW_list h1
 obtain ⟨ns,rfl⟩:=items_int h3
 have hlen:ns.length<=n:=by
  unfold OpenLaw.pre at hc
  have h4:(WTm.not (.lt (.lit (.int (n:Int))) (.len (.arg 0)))).holds [] { args:=[.list (ns.map .int)] }=true:=by
   have h4:=(holds_andW hc).1
   rw [hn] at h4
   exact h4
  have h5:=condW_of h4 (w_not (w_lt w_lit (w_len_list (w_arg rfl))))
  rw [hA1] at h5
  refine Nat.le_of_not_lt fun q=>?_
  have q':(n:Int)<((ns.length:Nat):Int):=by omega
  first
   | (rw [decide_eq_true q'] at h5;exact absurd h5 (by decide))
   | (simp at h5;omega)
 cases hwl with
 | cons w1 w2 =>
  cases w2
  cases w1 with
  | list ho hall=>exact ⟨_,_,ns,rfl,rfl,ho,qFm ns _ hall,hlen⟩
theorem post_true (l:OpenLaw) (args:List WData):l.row.toRowW.claim.post args (.bool true) args=true :=
 postW_of (r:=l.row.toRowW) (X:=(true == true))
  (show WShape.has [] (.bool true) .bool=true by first | rfl | decide | simp [WShape.has,WShape.arms,WShape.armsAll])
  (show (WTm.eq .res (.lit (.bool true))).value [] { args:=args,res:=some (.bool true),after:=args }=some (.bool (true == true)) from w_eq_bool (w_res rfl) w_lit) rfl
theorem attach_call {l:OpenLaw} {n:Nat} {q:Program} {loose:List Str} {XP:(Str->Option Value)->Heap->Prop} {YP:World->Heap->Prop} {d:DefRec}
  (hn:l.most=some n) (hdf:d.params.defaults=[])
  (call:∀ (w:World) (s₀ s₁:Shared) (mg mb:Str->Option Value) (fa:Addr) (o:Obj) (pm cd doc:Value) (a:Addr) (vs:List Value) (ns:List Int),
   Ground q loose [] XP w s₀ mg mb s₁.heap->YP w s₁.heap ->
   s₁.heap.get? fa=some o->o.data = .func (docDef d.name d.params d.body d.scope pm cd doc)->s₁.heap.CodeRec cd d.name->mg d.name=some (.ref fa) ->
   s₁.heap.get? a=some { cls:=.type "list",data:=.seq vs.toArray }->IntsAre vs ns->ns.length<=n->s₁.gens=#[] ->
   codeAny (model l.prog w) callerA (.call (.ref fa) ⟨[.ref a],[]⟩) (fun r s'=>r = .ok (.ret (.bool true))/\OldK s₁.heap s'.heap/\s'.os=s₁.os/\AllBare s'.gens) s₁) :
  WalkO q loose XP YP l.row.toRowW d [] (fun f vs=>PySem.call f vs):=by
 intro w s₀ s₁ mg mb G Y fa o pm cd doc dV kV ho hd hcd hD hmg hg args vals as hpre hlay hrd hwl hlo
 obtain rfl:dV = .none:=Dflts.none hD hdf
 obtain rfl:kV = .none:=Dflts.noKw hD
 obtain ⟨a,vs,ns,rfl,rfl,hobj,hints,hlen⟩:=script_of hn hpre hwl
 refine enter_call (codeAny_mono (call w s₀ s₁ mg mb fa o pm cd doc a vs ns G Y ho (fd_plain hd) hcd hmg hobj hints hlen hg) fun r s' hq=>?_)
 obtain ⟨rfl,h2,h3,h4⟩:=hq
 exact ⟨.inl ⟨.bool true,.bool true,[],rfl,fun _=>rfl,.bool true,post_true l _,fun _=>⟨List.Pairwise.nil,fun _ hm=>(nomatch hm)⟩⟩,h2,h3,h4⟩
section
variable {prog:Program} {w:World} {A:Around} {E:Value->Shared->Prop} {s:Shared} {K:Frag}
def ledger (h:Heap) (L d:Addr):List (Addr×Obj):=(List.range h.objs.size).filterMap fun a=>if a=L\/a=d then none else (h.get? a).map fun o=>(a,o)
end
end Att
namespace L2
open PySem PySem.Spec PyProof.Rows
theorem qEz:∀ {vs:List Value} {ns:List Int},IntsAre vs ns->qA6 (ns.map V.int) vs
 | _,_,.nil=>.nil
 | _,_,.cons n t h=>.cons ⟨t,rfl⟩ (qEz h)
end L2
namespace L2
open PySem PySem.Spec PyProof.Rows
def qAq (s:Stmt):Arguments:=match s with
 | .FunctionDef _ a _ _ _ _ _ _ _ _=>a
 | _=>{ posonlyargs:=[],args:=[],vararg:=none,kwonlyargs:=[],kw_defaults:=[],kwarg:=none,defaults:=[] }
def qAm (s:Stmt):List Stmt:=match s with
 | .FunctionDef _ _ b _ _ _ _ _ _ _=>b
 | _=>[]
def qAb (s:Stmt):Scope:=match s with
 | .FunctionDef _ _ _ _ _ _ sc _ _ _=>sc
 | _=>{ kind:=.function,names:=[],isGenerator:=false,isCoroutine:=false }
abbrev CX0:CXT:=fun _ _ _ _ _ _=>False
abbrev E0:XK:=fun _ _ _=>False
theorem qA5 {X:Cx}:Passes CX0 X E0:=fun _ _ _ _ _ _ _ h=>h.elim
structure Fun (K:PySem.W.Frag) (x qual:Str) (st:Stmt) (f:Addr) (fd:FuncData):Prop where
 ex:∃ (oc:Value) (od:Option Addr) (kV doc pm:Value) (an:Option Addr) (cdv ct:Value) (osl:Array (Option Value)),
  fd=PySem.W.fnOf x qual (qAq st) (qAm st) (qAb st) .none kV doc pm an cdv ct/\K.lookup f=some ⟨oc,od,.func fd,osl⟩/\PySem.W.codeIn K cdv qual=true
 kp:PySem.W.keepIn K (.ref f)=true
section
variable {P:Program} {w:World} {K:PySem.W.Frag} {mg:Str->Option Value} {base:Heap}
theorem Fun.ok {x qual:Str} {st:Stmt} {f:Addr} {fd:FuncData} {N ps:List Str} {k:Nat} {sp:Sp} (F:Fun K x qual st f fd) (S:FnScope N ps (qAb st)) (len:∀ vs H Q E,sp vs H Q E->vs.length=ps.length)
  (hbody:∀ (cdv:Value) (A:Around) (outer:List Env) (s:Shared) (H:Hp) (vs:List V) (Q:VK) (E:XK),Room k (A.deeper (envOfC qual (qAb st) s.heap.objs.size f cdv))->sp vs H Q E ->
   ∃ t,PSs (cxOf CX0 P w K mg base N qual (qAb st) f cdv A outer s H E).nox (qAm st) t/\t { nx:=fun _ H'=>Q .non H',rt:=Q } (start N vs) H):FnOk P w K mg base CX0 (k+1) f fd ps sp:=by
 obtain ⟨oc,od,kV,doc,pm,an,cdv,ct,osl,rfl,lk,hcd⟩:=F.ex
 refine fn_of lk hcd S len fun A outer s H vs Q E hr hsp=>?_
 obtain ⟨t,h,q⟩:=hbody cdv A outer s H vs Q E hr hsp
 exact ⟨t,h.nox,q⟩
theorem Fun.binds {x qual:Str} {st:Stmt} {f:Addr} {fd:FuncData} {ps:List Str} (F:Fun K x qual st f fd)
  (h:∀ (kV doc pm:Value) (an:Option Addr) (cdv ct:Value) (us:List Value),us.length=ps.length->bindArgs (PySem.W.fnOf x qual (qAq st) (qAm st) (qAb st) .none kV doc pm an cdv ct) ⟨us,[]⟩=pure (ps.zip us)):qA7 K fd ps []:=by
 obtain ⟨oc,od,kV,doc,pm,an,cdv,ct,osl,rfl,lk,hcd⟩:=F.ex
 exact .all (h kV doc pm an cdv ct)
theorem qA2 {x qual:Str} {st:Stmt} {f:Addr} {oc:Value} {od an:Option Addr} {osl:Array (Option Value)} {kV doc pm cdv ct:Value} (l:K.lookup f=some ⟨oc,od,.func (PySem.W.fnOf x qual (qAq st) (qAm st) (qAb st) .none kV doc pm an cdv ct),osl⟩)
  (c:PySem.W.codeIn K cdv qual=true) (k:PySem.W.keepIn K (.ref f)=true):Fun K x qual st f (PySem.W.fnOf x qual (qAq st) (qAm st) (qAb st) .none kV doc pm an cdv ct):=⟨⟨oc,od,kV,doc,pm,an,cdv,ct,osl,rfl,l,c⟩,k⟩
end
theorem hu_of {A:Around} {k:Nat} (hr:Room k A):A.units+1<cLine:=hDd (Nat.add_le_add_left (by decide:1<=64) _) hr.units
theorem qAh {n:Nat} (h:n<=1000):n<sizeLine:=hDd h (by decide)
section
variable {X:Cx}
theorem pv (i:Nat) {x:Str} {pos:Pos} (hN:X.N[i]?=some x:=by rfl) (hv:Vis X.env.scope x:=by first | exact Or.inl rfl | exact Or.inr (Or.inl rfl) | exact Or.inr (Or.inr rfl)) (hd:(x == ("__debug__" : Str))=false:=by decide)
  (hcd:(x == ("__classdict__" : Str))=false:=by decide):PE X (.Name x pos) (tVar i):=pe_var hN hv hd hcd
end
theorem iteF {A B:Prop} (h:B):if false=true then A else B:=by
 rw [if_neg hAn]
 exact h
theorem iteT {A B:Prop} (h:A):if true=true then A else B:=by
 rw [if_pos rfl]
 exact h
theorem qFl {c A B:Prop} [Decidable c] (h1:c->A) (h2:¬c->B):if c then A else B:=by
 by_cases h:c
 ·rw [if_pos h]
  exact h1 h
 ·rw [if_neg h]
  exact h2 h
end L2
set_option linter.all false
namespace L2
open PySem PySem.Spec PyProof.Rows
section
variable {κ:Type} [DecidableEq κ]
def valV (kvs:List (κ×V)) (k:κ):Option V:=(kvs.find? fun kv=>decide (kv.1=k)).map (·.2)
def qEn (kvs:List (κ×V)) (k:κ) (v:V):List (κ×V) :=
 if (kvs.any fun kv=>decide (kv.1=k))=true then kvs.map (fun kv=>if kv.1=k then (kv.1,v) else kv) else kvs++[(k,v)]
theorem qBc {p:κ×V} {r:List (κ×V)} {k:κ} (e:p.1=k):valV (p :: r) k=some p.2:=by simp [valV,hDe,e]
theorem qBa {p:κ×V} {r:List (κ×V)} {k:κ} (e:¬p.1=k):valV (p :: r) k=valV r k:=by simp [valV,hDe,e]
theorem qCy (k:κ):∀ kvs:List (κ×V),(kvs.any fun kv=>decide (kv.1=k))=(valV kvs k).isSome
 | []=>rfl
 | p :: r=>by
  rw [hCh]
  by_cases e:p.1=k
  ·simp only [qBc e,decide_eq_true e,Bool.true_or,Option.isSome_some]
  ·rw [qBa e,decide_eq_false e,Bool.false_or];exact qCy k r
theorem valV_map (k j:κ) (y:V):∀ kvs:List (κ×V),valV (kvs.map fun kv=>if kv.1=k then (kv.1,y) else kv) j=(valV kvs j).map fun x=>if j=k then y else x
 | []=>rfl
 | p :: r=>by
  have ih:=valV_map k j y r
  rw [hAl]
  by_cases h:p.1=k
  ·rw [if_pos h]
   by_cases e:p.1=j
   ·rw [qBc (p:=(p.1,y)) e,qBc e,hCa,if_pos (e.symm.trans h)]
   ·rw [qBa (p:=(p.1,y)) e,qBa e,ih]
  ·rw [if_neg h]
   by_cases e:p.1=j
   ·rw [qBc (p:=p) e,qBc e,hCa,if_neg (fun z=>h (e.trans z))]
   ·rw [qBa (p:=p) e,qBa e,ih]
theorem valV_snoc (k j:κ) (y:V):∀ kvs:List (κ×V),valV kvs k=none->valV (kvs++[(k,y)]) j=if j=k then some y else valV kvs j
 | [],_=>by
  by_cases e:k=j
  ·rw [if_pos e.symm];exact qBc (p:=(k,y)) e
  ·rw [if_neg (fun z=>e z.symm)];exact qBa (p:=(k,y)) e
 | p :: r,hn=>by
  rw [List.cons_append]
  have hk:¬p.1=k:=fun z=>by rw [qBc z] at hn;cases hn
  rw [qBa hk] at hn
  have ih:=valV_snoc k j y r hn
  by_cases e:p.1=j
  ·rw [qBc e,qBc e,if_neg (fun z=>hk (e.trans z))]
  ·rw [qBa e,qBa e,ih]
theorem valV_put (kvs:List (κ×V)) (k j:κ) (y:V):valV (qEn kvs k y) j=if j=k then some y else valV kvs j:=by
 unfold qEn
 by_cases a:(kvs.any fun kv=>decide (kv.1=k))=true
 ·rw [if_pos a,valV_map]
  rw [qCy] at a
  by_cases e:j=k
  ·obtain ⟨x,hx⟩:=hD2.mp a
   rw [if_pos e,e,hx,hCa,if_pos rfl]
  ·rw [if_neg e]
   cases valV kvs j with
   | none=>rfl
   | some x=>rw [hCa,if_neg e]
 ·rw [if_neg a]
  refine valV_snoc k j y kvs ?_
  rw [qCy] at a
  cases q:valV kvs k with
  | none=>rfl
  | some x=>rw [q] at a;exact (a rfl).elim
theorem qCl (kvs:List (κ×V)) (k:κ) (v:V):(qEn kvs k v).length<=kvs.length+1:=by
 unfold qEn
 split
 ·rw [hA1];omega
 ·rw [hAc,hAy,List.length_nil];omega
theorem putK_new {kvs:List (κ×V)} {k:κ} (v:V) (h:valV kvs k=none):qEn kvs k v=kvs++[(k,v)]:=by
 unfold qEn
 rw [qCy,h]
 exact if_neg (by decide)
theorem RelO.isSome_eq {o:Option V} {u:Option Value} (r:RelO o u):o.isSome=u.isSome:=by
 cases o with
 | none=>cases u with
  | none=>rfl
  | some _=>exact (show False from r).elim
 | some _=>cases u with
  | none=>exact (show False from r).elim
  | some _=>rfl
theorem RelO.getD {o:Option V} {u:Option Value} {d:V} {d':Value} (r:RelO o u) (rd:qBg d d'):qBg (o.getD d) (u.getD d'):=by
 cases o with
 | none=>cases u with
  | none=>exact rd
  | some _=>exact (show False from r).elim
 | some _=>cases u with
  | none=>exact (show False from r).elim
  | some _=>exact r
theorem KV.val {kvs:List (κ×V)} {vs:List (κ×Value)} (r:KV kvs vs) (k:κ):RelO (valV kvs k) (valueAt vs k):=by
 unfold KV at r
 induction r with
 | nil=>exact True.intro
 | @cons p q ps qs h t ih =>
  obtain ⟨h1,h2⟩:=h
  by_cases e:p.1=k
  ·have e':q.1=k:=h1.symm.trans e
   have b:valueAt (q :: qs) k=some q.2:=by simp [valueAt,hDe,e']
   rw [qBc e,b];exact h2
  ·have e':¬q.1=k:=fun z=>e (h1.trans z)
   have b:valueAt (q :: qs) k=valueAt qs k:=by simp [valueAt,hDe,e']
   rw [qBa e,b];exact ih
theorem KV.any {kvs:List (κ×V)} {vs:List (κ×Value)} (r:KV kvs vs) (k:κ):(kvs.any fun kv=>decide (kv.1=k))=vs.any fun kv=>decide (kv.1=k):=by
 unfold KV at r
 induction r with
 | nil=>rfl
 | cons h t ih=>rw [hCh,hCh,ih,h.1]
theorem KV.repl {kvs:List (κ×V)} {vs:List (κ×Value)} (r:KV kvs vs) (k:κ) {y:V} {u:Value} (ry:qBg y u) :
  KV (kvs.map fun kv=>if kv.1=k then (kv.1,y) else kv) (vs.map fun kv=>if kv.1=k then (kv.1,u) else kv):=by
 unfold KV at r ⊢
 induction r with
 | nil=>exact .nil
 | @cons p q ps qs h t ih =>
  rw [hAl,hAl]
  refine .cons ?_ ih
  obtain ⟨h1,h2⟩:=h
  by_cases e:p.1=k
  ·rw [if_pos e,if_pos (h1.symm.trans e)];exact ⟨h1,ry⟩
  ·rw [if_neg e,if_neg (fun z=>e (h1.trans z))];exact ⟨h1,h2⟩
theorem KV.put {kvs:List (κ×V)} {vs:List (κ×Value)} (r:KV kvs vs) (k:κ) {y:V} {u:Value} (ry:qBg y u):KV (qEn kvs k y) (stored vs k u):=by
 unfold qEn stored
 rw [r.any k]
 by_cases e:(vs.any fun kv=>decide (kv.1=k))=true
 ·rw [if_pos e,if_pos e];exact r.repl k ry
 ·rw [if_neg e,if_neg e];exact Paired.snoc r ⟨rfl,ry⟩
theorem KV.length {kvs:List (κ×V)} {vs:List (κ×Value)} (r:KV kvs vs):kvs.length=vs.length:=Paired.length r
end
theorem kV_is {P:Program} {w:World} {k:Key} {u:Value} (r:qBg (kV k) u):(qAz P w).is k u=true:=by
 cases k with
 | inl i=>obtain ⟨t,e⟩:=(show ∃ t,u=Value.int i t from r);subst e;exact mixKind_int P w i t
 | inr x=>obtain ⟨t,e⟩:=(show ∃ t,u=Value.str x t from r);subst e;exact mixKind_str P w x t
theorem items_are {P:Program} {w:World}:∀ {ks:List Key} {us:List Value},qA6 (ks.map kV) us->ItemsAre (qAz P w) ks us
 | [],_,r=>by rw [List.map_nil] at r;cases r;exact .nil
 | k :: ks,_,r=>by
  rw [hAl] at r
  cases r with
  | cons h t=>exact .cons (kV_is h) (items_are t)
abbrev KT (H:Hp):List (List Key×V)->List (List Key×Addr×Value)->Prop:=Paired fun p q=>p.1=q.1/\H q.2.1=some (.tup (p.1.map kV))/\qBg p.2 q.2.2
theorem KT.val {H:Hp} {kvs:List (List Key×V)} {xs:List (List Key×Addr×Value)} (r:KT H kvs xs) (k:List Key):RelO (valV kvs k) ((atKey xs k).map (·.2)):=by
 induction r with
 | nil=>exact True.intro
 | @cons p q ps qs h t ih =>
  obtain ⟨h1,_,h2⟩:=h
  by_cases e:p.1=k
  ·have e':q.1=k:=h1.symm.trans e
   have b:atKey (q :: qs) k=some q.2:=by simp [atKey,hDe,e']
   rw [qBc e,b];exact h2
  ·have e':¬q.1=k:=fun z=>e (h1.trans z)
   have b:atKey (q :: qs) k=atKey qs k:=by simp [atKey,hDe,e']
   rw [qBa e,b];exact ih
theorem KT.repl {H:Hp} {kvs:List (List Key×V)} {xs:List (List Key×Addr×Value)} (r:KT H kvs xs) (k:List Key) {y:V} {u:Value} (ry:qBg y u) :
  KT H (kvs.map fun kv=>if kv.1=k then (kv.1,y) else kv) (xs.map (putAt k u)):=by
 induction r with
 | nil=>exact .nil
 | @cons p q ps qs h t ih =>
  rw [hAl,hAl]
  refine .cons ?_ ih
  obtain ⟨h1,h2,h3⟩:=h
  unfold putAt
  by_cases e:p.1=k
  ·rw [if_pos e,if_pos (h1.symm.trans e)];exact ⟨h1,h2,ry⟩
  ·rw [if_neg e,if_neg (fun z=>e (h1.trans z))];exact ⟨h1,h2,h3⟩
theorem KT.put {H:Hp} {kvs:List (List Key×V)} {xs:List (List Key×Addr×Value)} (r:KT H kvs xs) (k:List Key) {b:Addr} {y:V} {u:Value} (hb:H b=some (.tup (k.map kV))) (ry:qBg y u) :
  KT H (qEn kvs k y) (storedH xs k b u):=by
 have e:(kvs.any fun kv=>decide (kv.1=k))=(atKey xs k).isSome:=by
  rw [qCy,(r.val k).isSome_eq,Option.isSome_map]
 unfold qEn storedH
 rw [e]
 by_cases q:(atKey xs k).isSome=true
 ·rw [if_pos q,if_pos q];exact r.repl k ry
 ·rw [if_neg q,if_neg q];exact Paired.snoc r ⟨rfl,hb,ry⟩
theorem KT.keeps {H H':Hp} {kvs:List (List Key×V)} {xs:List (List Key×Addr×Value)} (r:KT H kvs xs) (ht:∀ b ys,H b=some (.tup ys)->H' b=some (.tup ys)):KT H' kvs xs :=
 Paired.mapP r fun _ _ z=>⟨z.1,ht _ _ z.2.1,z.2.2⟩
section
variable {P:Program} {w:World} {H:Hp} {h:Heap} {a:Addr}
theorem rd_of {u:HO} (ok:HOk P w H h) (e:Rd H a u):qBf P w H h a u:=e.ok ok
theorem dk_rd {kvs:List (Key×V)} (ok:HOk P w H h) (e:Rd H a (.dK kvs)):kvs.length<=sizeLine/\(a == sysModules)=false/\∃ vs,KV kvs vs/\h.DictOf (qAz P w) a vs :=
 show qBf P w H h a (.dK kvs) from rd_of ok e
theorem dk_of {kvs:List (Key×V)} (ok:HOk P w H h) (e:H a=some (.dK kvs)):kvs.length<=sizeLine/\(a == sysModules)=false/\∃ vs,KV kvs vs/\h.DictOf (qAz P w) a vs:=dk_rd ok (.inl e)
theorem key_of {ks:List Key} (ok:HOk P w H h) (e:H a=some (.tup (ks.map kV))):(tupleKind (qAz P w)).is h ks a:=by
 obtain ⟨_,its,r,o,h1,h2,n,h3⟩:=(show qBf P w H h a (.tup (ks.map kV)) from ok a _ e)
 exact ⟨o,its.toArray,n,h1,h2,h3,by simpa using items_are r⟩
theorem dt_rd {kvs:List (List Key×V)} (ok:HOk P w H h) (e:Rd H a (.dT kvs)):kvs.length<=sizeLine/\(a == sysModules)=false /\
  ∃ xs,KT H kvs xs/\h.DictOfH (tupleKind (qAz P w)) a xs:=by
 obtain ⟨z,y,xs,r,o,es,ep,h1,h2,h3,h4,h5⟩:=(show qBf P w H h a (.dT kvs) from rd_of ok e)
 refine ⟨z,y,xs,r,o,es,ep,h1,h2,h3,h4,fun x hx=>?_,h5⟩
 have all:∀ {l:List (List Key×V)} {m:List (List Key×Addr×Value)},KT H l m->∀ x∈m,(tupleKind (qAz P w)).is h x.1 x.2.1:=by
  intro l m q
  induction q with
  | nil=>intro x hx;exact nomatch hx
  | @cons p q ps qs hq t ih =>
   intro x hx
   rcases hA9.mp hx with e | hx
   ·subst e
    exact key_of ok (by rw [<-hq.1];exact hq.2.1)
   ·exact ih x hx
 exact all r x hx
theorem dt_of {kvs:List (List Key×V)} (ok:HOk P w H h) (e:H a=some (.dT kvs)):kvs.length<=sizeLine/\(a == sysModules)=false /\
  ∃ xs,KT H kvs xs/\h.DictOfH (tupleKind (qAz P w)) a xs:=dt_rd ok (.inl e)
end
def DGet (H:Hp) (a:Addr) (y:V) (r:Option V):Prop :=
 (∃ kvs k,Rd H a (.dK kvs)/\y=kV k/\r=valV kvs k)\/∃ kvs k b,Rd H a (.dT kvs)/\y = .ref b/\H b=some (.tup (k.map kV))/\r=valV kvs k
def DPut (H:Hp) (a:Addr) (y v:V) (H':Hp):Prop :=
 (∃ kvs k,H a=some (.dK kvs)/\y=kV k/\kvs.length<sizeLine/\H'=upd H a (.dK (qEn kvs k v))) \/
 ∃ kvs k b,H a=some (.dT kvs)/\y = .ref b/\H b=some (.tup (k.map kV))/\kvs.length<sizeLine/\H'=upd H a (.dT (qEn kvs k v))
theorem DGet.k {H:Hp} {a:Addr} {kvs:List (Key×V)} {k:Key} (e:H a=some (.dK kvs)):DGet H a (kV k) (valV kvs k):=.inl ⟨kvs,k,.inl e,rfl,rfl⟩
theorem DPut.k {H:Hp} {a:Addr} {kvs:List (Key×V)} {k:Key} {v:V} (e:H a=some (.dK kvs)) (hl:kvs.length<sizeLine):DPut H a (kV k) v (upd H a (.dK (qEn kvs k v))):=.inl ⟨kvs,k,e,rfl,hl,rfl⟩
section
variable {X:Cx} {pins:List (Addr×Obj)} {σ:St} {H:Hp} {s:Shared} {a:Addr} {y v:V} {u r:Value} {o:Option V} {A:Around} {E:Value->Shared->Prop}
theorem Inv.big (I:Inv X pins σ H s):sysModules<s.heap.objs.size:=by
 have h:mainGlobals<s.heap.objs.size:=(I.mod.glob.keeps I.bk).lt
 exact Nat.lt_trans (by decide) h
theorem d_getItem {Q:Value->Shared->Prop} (hu:A.units+1<cLine) (I:Inv X pins σ H s) (g:DGet H a y (some v)) (ry:qBg y u) (h:∀ w' s',Inv X pins σ H s'->qBg v w'->Q w' s') :
  wpAny (model X.prog X.w) A (getItem (.ref a) u) Q E s:=by
 rcases g with ⟨kvs,k,e,ey,l⟩ | ⟨kvs,k,b,e,ey,eb,l⟩
 ·subst ey
  obtain ⟨z,hd,vs,rel,dd⟩:=dk_rd I.hok e
  obtain ⟨w',hw,rw'⟩:=RelO.some_of (v:=v) (o:=valueAt vs k) (by rw [l];exact rel.val k)
  exact wpAny_getItem_of (kV_is ry) dd.mapOf hw (h w' _ (I.tok _) rw')
 ·subst ey
  cases (show u=Value.ref b from ry)
  obtain ⟨z,hd,xs,rel,dd⟩:=dt_rd I.hok e
  obtain ⟨w',hw,rw'⟩:=RelO.some_of (v:=v) (o:=(atKey xs k).map (·.2)) (by rw [l];exact rel.val k)
  obtain ⟨p,hp,hp2⟩:=Option.map_eq_some_iff.mp hw
  refine wpAny_getItem_heap (tupleKind_room_in1 hu) (key_of I.hok eb) dd hp ?_
  rw [hp2]
  exact h w' _ (I.tok _) rw'
theorem d_write {h':Heap} {t':Nat} {ob:HO} (I:Inv X pins σ H s) (mu:Mut (H a)) (hs:Heap.SameBut a s.heap h') (he:∃ q,h'.get? a=some q) (new:qBf X.prog X.w (upd H a ob) h' a ob) :
  Inv X pins σ (upd H a ob) { s with heap:=h',toks:=t' } :=
 I.write (x:=a) (e:=a) mu (.inl rfl) (fun b q hb z=>(hs.2 b hb).trans z) he new
theorem dk_new {P:Program} {w:World} {H':Hp} {h':Heap} {kvs:List (Key×V)} {vs:List (Key×Value)} (z:kvs.length<=sizeLine) (hd:(a == sysModules)=false) (rel:KV kvs vs) (dd:h'.DictOf (qAz P w) a vs) :
  qBf P w H' h' a (.dK kvs):=⟨z,hd,vs,rel,dd⟩
theorem d_setItem {H':Hp} {Q:Unit->Shared->Prop} (hu:A.units+1<cLine) (I:Inv X pins σ H s) (g:DPut H a y v H') (ry:qBg y u) (rv:qBg v r) (h:∀ s',Inv X pins σ H' s'->Q () s') :
  wpAny (model X.prog X.w) A (setItem (.ref a) u r) Q E s:=by
 rcases g with ⟨kvs,k,e,ey,l,eH⟩ | ⟨kvs,k,b,e,ey,eb,l,eH⟩
 ·subst ey eH
  obtain ⟨z,hd,vs,rel,dd⟩:=dk_of I.hok e
  have hz:vs.length<=sizeLine:=by rw [<-rel.length];exact z
  have hl:(qEn kvs k v).length<=sizeLine:=by have:=qCl kvs k v;omega
  refine wpAny_setItem_pairs (hsz:=hz) (kV_is ry) dd fun h' dd' hs=>h _ ?_
  have he:∃ q,h'.get? a=some q:=let ⟨q,_,_,hq,_⟩:=dd';⟨q,hq⟩
  exact d_write I (by rw [e];exact True.intro) hs he (dk_new hl hd (rel.put k rv) dd')
 ·subst ey eH
  cases (show u=Value.ref b from ry)
  obtain ⟨z,hd,xs,rel,dd⟩:=dt_of I.hok e
  have hz:xs.length<=sizeLine:=by rw [<-Paired.length rel];exact z
  have hl:(qEn kvs k v).length<=sizeLine:=by have:=qCl kvs k v;omega
  refine wpAny_setItem_heap (hsz:=hz) (tupleKind_room_in1 hu) (key_of I.hok eb) dd fun h' dd' hs=>h _ ?_
  obtain ⟨q,es,ep,hq,h2,h3,h4,_,h5⟩:=dd'
  refine d_write I (by rw [e];exact True.intro) hs ⟨q,hq⟩ ⟨hl,hd,_,(rel.put k eb rv).keeps fun c ys ec=>?_,q,es,ep,hq,h2,h3,h4,h5⟩
  rw [qAe (ne_of ec e (fun z=>nomatch z))]
  exact ec
end
def NoSl (i:Expr):Prop:=∀ ov iv,subscripted i false ov iv=operate [ov,iv] (getItem ov iv)
theorem subD_of {prog:Program} {w:World} {A:Around} {E:Value->Shared->Prop} {s:Shared} {env:Env} {value slice:Expr} {pos:Pos} {T id:String} {Q:Value->Shared->Prop}
  (hl:typeLookup (.type T) "__getitem__" = pure (some (.builtin id))) (hs:NoSl slice)
  (h:wpAny (model prog w) A (eval value env) (fun o s₁=>wpAny (model prog w) A (eval slice env) (fun i s₂=>s₂.TypeIs o T/\wpAny (model prog w) A (getItem o i) Q E s₂) E s₁) E s) :
  wpAny (model prog w) A (eval (.Subscript value slice pos) env) Q E s:=by
 refine Subscript_ (wpAny_mono h (fun o s₁ h₁=>wpAny_mono h₁ (fun i s₂ h₂=>?_) fun _ _ x=>x) fun _ _ x=>x)
 obtain ⟨hT,h₂⟩:=h₂
 unfold subscriptTail
 refine wpAny_bind ?_
 rw [getitemInPython_of_ne hT.not_modules]
 refine wpAny_bind (wpAny_specialOf hT hl ?_)
 have fin:wpAny (model prog w) A (subscripted slice false o i) (fun r s₃=>wpAny (model prog w) A (letTemporaryGo value o r >>= fun _=>pure r) Q E s₃) E s₂:=by
  rw [hs o i]
  exact wpAny_operating (wpAny_mono h₂ (fun r s₃ h₃=>wpAny_bind (wpAny_letTemporaryGo (wpAny_pure h₃))) fun _ _ x=>x)
 first
  | exact wpAny_pure (wpAny_bind fin)
  | exact wpAny_bind (wpAny_pure (wpAny_bind fin))
  | exact wpAny_bind fin
theorem dict_typeIs {X:Cx} {pins:List (Addr×Obj)} {σ:St} {H:Hp} {s:Shared} {a:Addr} {y:V} {o:Option V} (I:Inv X pins σ H s) (g:DGet H a y o):s.TypeIs (.ref a) "dict":=by
 rcases g with ⟨kvs,k,e,_,_⟩ | ⟨kvs,k,b,e,_,_,_⟩
 ·obtain ⟨_,_,vs,_,dd⟩:=dk_rd I.hok e
  exact dd.typeIs
 ·obtain ⟨_,_,xs,_,dd⟩:=dt_rd I.hok e
  exact dd.typeIs
def tDGet (td ty:TE):TE:=fun σ H Q=>td σ H fun x H1=>ty σ H1 fun y H2=>∃ a v,x = .ref a/\DGet H2 a y (some v)/\Q v H2
def sDPut (td ty tv:TE):TS:=fun D σ H=>tv σ H fun v H1=>td σ H1 fun x H2=>ty σ H2 fun y H3=>∃ a H4,x = .ref a/\DPut H3 a y v H4/\D.nx σ H4
section
variable {X:Cx} {o i e value:Expr} {pos pos' tpos:Pos} {td ty tv:TE}
theorem qD2 (hu:X.A.units+1<cLine) (ho:PE X o td) (hi:PE X i ty) (hs:NoSl i):PE X (.Subscript o i pos) (tDGet td ty):=by
 intro pins s σ H Q I h
 refine subD_of PySem.F.slot_dict_getitem.lookup hs (thn (ho pins s σ H _ I h) fun u s1 ⟨x,H1,I1,rx,q1⟩=>thn (hi pins s1 σ H1 _ I1 q1) fun iv s2 ⟨y,H2,I2,ry,a,v,ex,g,q2⟩=>?_)
 subst ex
 obtain rfl:u=Value.ref a:=rx
 exact ⟨dict_typeIs I2 g,d_getItem hu I2 g ry fun w' s3 I3 rw'=>⟨v,H2,I3,rw',q2⟩⟩
theorem ps_dput (hu:X.A.units+1<cLine) (ho:PE X o td) (hi:PE X i ty) (hv:PE X value tv) (hs:swapsWith value (some (.Subscript o i pos')) pos.line X.env=pure false) :
  PS X (.Assign [.Subscript o i pos'] value pos) (sDPut td ty tv):=by
 intro pins s σ H D I h
 refine wpAny_Assign_Subscript (thn (hv pins s σ H _ I h) fun r s1 ⟨v,H1,I1,rv,q1⟩=>thn (ho pins s1 σ H1 _ I1 q1) fun u s2 ⟨x,H2,I2,rx,q2⟩=>thn (hi pins s2 σ H2 _ I2 q2) fun iv s3 ⟨y,H3,I3,ry,a,H4,ex,g,q3⟩=>?_) hs
 subst ex
 obtain rfl:u=Value.ref a:=rx
 exact d_setItem hu I3 g ry rv fun s4 I4=>⟨σ,H4,I4,q3⟩
end
theorem dk_empty {P:Program} {w:World} {H:Hp} (h:Heap) (hb:sysModules<h.objs.size):qBf P w H (h.push { cls:=.type "dict",data:=.dict #[] }) h.objs.size (.dK []) :=
 ⟨hAt _,beq_eq_false_iff_ne.mpr (Ne.symm (hAk hb)),[],.nil,Heap.DictOf.new h⟩
def tDNewK:TE:=fun _ H Q=>∀ p,H p=none->Q (.ref p) (upd H p (.dK []))
section
variable {X:Cx} {pos:Pos}
theorem pe_dnewK:PE X (.Dict [] [] pos) tDNewK:=fun pins s σ H Q I h =>
 wpAny_Dict_empty ⟨.ref s.heap.objs.size,_,I.laid (a:=s.heap.objs.size) (o:=.dK []) (t':=s.toks) (fun _ _ q=>Heap.get?_push_of_some _ q) (hA5 _) (dk_empty s.heap I.big),rfl,h _ (I.hok.fresh (hA5 _))⟩
end
structure M1 (X:Cx) (o:Expr) (m:Str) (apos:Pos) (e:Expr) (cpos:Pos):Prop where
 base:attributeBase o m X.env (eval o X.env)=eval o X.env
 few:((backTo cpos (starEach [e] X.env)).all (fun x=>!x.1) && (backToKw cpos (keywordEach [] X.env)).all (fun x=>x.1.isSome)
  && decide (([e]:List Expr).length+([]:List Keyword).length+(if ([]:List Keyword).isEmpty then 0 else 1)<30))=true
 line:(apos.endLine == cpos.line)=true
 trees:backTo cpos (starEach [e] X.env)=[(false,eval e X.env)]
structure M2 (X:Cx) (o:Expr) (m:Str) (apos:Pos) (e f:Expr) (cpos:Pos):Prop where
 base:attributeBase o m X.env (eval o X.env)=eval o X.env
 few:((backTo cpos (starEach [e,f] X.env)).all (fun x=>!x.1) && (backToKw cpos (keywordEach [] X.env)).all (fun x=>x.1.isSome)
  && decide (([e,f]:List Expr).length+([]:List Keyword).length+(if ([]:List Keyword).isEmpty then 0 else 1)<30))=true
 line:(apos.endLine == cpos.line)=true
 trees:backTo cpos (starEach [e,f] X.env)=[(false,eval e X.env),(false,eval f X.env)]
def IsD (H:Hp) (a:Addr):Prop:=(∃ kvs,Rd H a (.dK kvs))\/∃ kvs,Rd H a (.dT kvs)
theorem isD_at {X:Cx} {pins:List (Addr×Obj)} {σ:St} {H:Hp} {s:Shared} {a:Addr} (I:Inv X pins σ H s) (d:IsD H a) :
  s.TypeIs (.ref a) "dict"/\(∀ b,Value.ref a = .ref b->∃ ob,s.heap.get? b=some ob/\ob.dict=none)/\(a == sysModules)=false:=by
 rcases d with ⟨kvs,e⟩ | ⟨kvs,e⟩
 ·obtain ⟨_,hd,vs,_,dd⟩:=dk_rd I.hok e
  refine ⟨dd.typeIs,fun b q=>?_,hd⟩
  cases q
  obtain ⟨ob,_,_,h1,h2,_⟩:=dd
  exact ⟨ob,h1,h2.2.1⟩
 ·obtain ⟨_,hd,xs,_,dd⟩:=dt_rd I.hok e
  refine ⟨dd.typeIs,fun b q=>?_,hd⟩
  cases q
  obtain ⟨ob,_,_,h1,h2,_⟩:=dd
  exact ⟨ob,h1,h2.2.1⟩
section
variable {X:Cx} {pins:List (Addr×Obj)} {σ:St} {H:Hp} {s:Shared} {a:Addr} {y d:V} {u r:Value} {o:Option V} {A:Around} {E:Value->Shared->Prop}
theorem d_get2 {Q:Value->Shared->Prop} (hu:A.units+1<cLine) (I:Inv X pins σ H s) (g:DGet H a y o) (ry:qBg y u) (rd:qBg d r) (h:∀ w' s',Inv X pins σ H s'->qBg (o.getD d) w'->Q w' s') :
  wpAny (model X.prog X.w) A (call (.builtin "dict.get") [.ref a,u,r]) Q E s:=by
 rcases g with ⟨kvs,k,e,ey,l⟩ | ⟨kvs,k,b,e,ey,eb,l⟩
 ·subst ey
  obtain ⟨z,hd,vs,rel,dd⟩:=dk_rd I.hok e
  refine call_meetsIn PySem.F.slot_dict_get dd.typeIs PySem.F.entry_dict_get (PySem.F.args_dict_get_3 _ _ _) (meets_dict_get_default (qAz X.prog X.w) a (kV_is ry) hd r) ⟨_,dd.mapOf,h _ _ (I.tok _) ?_⟩
  rw [l]
  exact (rel.val k).getD rd
 ·subst ey
  cases (show u=Value.ref b from ry)
  obtain ⟨z,hd,xs,rel,dd⟩:=dt_rd I.hok e
  refine call_meetsIn PySem.F.slot_dict_get dd.typeIs PySem.F.entry_dict_get (PySem.F.args_dict_get_3 _ _ _) (meetsH_dict_get_default (tupleKind (qAz X.prog X.w)) a b hd r) ⟨tupleKind_room_in1 hu,k,xs,key_of I.hok eb,dd,h _ _ (I.tok _) ?_⟩
  rw [l]
  exact (rel.val k).getD rd
end
def tDGet2 (td ty tx:TE):TE:=fun σ H Q=>td σ H fun x H1=>∃ a,x = .ref a/\IsD H1 a/\ty σ H1 fun y H2=>tx σ H2 fun z H3=>∃ o,DGet H3 a y o/\Q (o.getD z) H3
section
variable {X:Cx} {o e f:Expr} {apos cpos:Pos} {td ty tx:TE}
theorem pe_dget2 (hu:X.A.units+1<cLine) (ho:PE X o td) (he:PE X e ty) (hf:PE X f tx) (m:M2 X o "get" apos e f cpos):PE X (.Call (.Attribute o "get" apos) [e,f] [] cpos) (tDGet2 td ty tx):=by
 intro pins s σ H Q I h
 refine wpAny_Call_method m.base m.few m.line PySem.F.plainAttrs_dict PySem.F.slot_dict_get PySem.F.type_dict_get (thn (ho pins s σ H _ I h) fun u s1 ⟨x,H1,I1,rx,a,ex,d,q1⟩=>?_)
 subst ex
 obtain rfl:u=Value.ref a:=rx
 obtain ⟨t1,t2,_⟩:=isD_at I1 d
 refine ⟨t1,t2,?_⟩
 rw [m.trees]
 refine Calls.callWith_builtin rfl (Calls.evalArgs_plain (Calls.spliced_cons (thn (he pins s1 σ H1 _ I1 q1) fun iv s2 ⟨y,H2,I2,ry,q2⟩ =>
  Calls.spliced_cons (thn (hf pins s2 σ H2 _ I2 q2) fun fv s3 ⟨z,H3,I3,rz,ov,g,q3⟩=>Calls.spliced_nil ?_))))
 exact d_get2 hu I3 g ry rz fun w' s4 I4 rw'=>⟨_,H3,I4,rw',q3⟩
end
end L2
namespace L2
open PySem PySem.Spec PyProof.Rows
end L2
namespace L2
open PySem PySem.Spec PyProof.Rows
def qB0 (cells:List (Str×Addr)):List (Str×NameKind)->List (Str×Addr)->List (Str×Addr)
 | [],acc=>acc
 | (n,k) :: r,acc=>if k == .free then qB0 cells r ((n,(cells.lookup n).getD 0) :: acc) else qB0 cells r acc
theorem qGn (env:Env) (f:Str×NameKind->List (Str×Addr)->Sem (ForInStep (List (Str×Addr))))
  (hf:∀ n k cs,f (n,k) cs=if k == .free then (do let a ← cellOf env n;pure (.yield ((n,a) :: cs))) else pure (.yield cs)) :
  ∀ (names:List (Str×NameKind)) (acc:List (Str×Addr)),(∀ x∈names,x.2 = .free->∃ c,env.cells.lookup x.1=some c)->forIn names acc f=pure (qB0 env.cells names acc)
 | [],acc,_=>by rw [List.forIn_nil];rfl
 | (n,k) :: r,acc,h=>by
  have ih:=qGn env f hf r
  rw [List.forIn_cons,hf]
  unfold qB0
  by_cases hk:(k == NameKind.free)=true
  ·rw [if_pos hk,if_pos hk]
   obtain ⟨c,hc⟩:=h (n,k) hA2 (by simpa using hk)
   have e:cellOf env n=pure c:=by unfold cellOf;rw [hc]
   rw [e,hc]
   exact ih _ fun x hx=>h x (hA4 _ hx)
  ·rw [if_neg hk,if_neg hk]
   exact ih _ fun x hx=>h x (hA4 _ hx)
theorem closureFor_eq {scope:Scope} {env:Env} (h:∀ x∈scope.names,x.2 = .free->∃ c,env.cells.lookup x.1=some c):closureFor scope env=pure (qB0 env.cells scope.names []):=by
 simp only [closureFor]
 rw [qGn env _ (fun n k cs=>by cases hk:k == NameKind.free <;> simp [hk]) scope.names [] h]
 rfl
theorem closL_mem {cells:List (Str×Addr)}:∀ {names:List (Str×NameKind)} {acc:List (Str×Addr)} {x:Str} {c:Addr},(x,c)∈qB0 cells names acc->(x,c)∈acc\/((x,NameKind.free)∈names/\c=(cells.lookup x).getD 0)
 | [],acc,x,c,h=>.inl h
 | (n,k) :: r,acc,x,c,h=>by
  unfold qB0 at h
  by_cases hk:(k == NameKind.free)=true
  ·rw [if_pos hk] at h
   rcases closL_mem h with q | ⟨q,e⟩
   ·rcases hA9.mp q with z | z
    ·cases z
     exact .inr ⟨by rw [show NameKind.free=k from (by simpa using hk:k=NameKind.free).symm];exact hA2,rfl⟩
    ·exact .inl z
   ·exact .inr ⟨hA4 _ q,e⟩
  ·rw [if_neg hk] at h
   rcases closL_mem h with q | ⟨q,e⟩
   ·exact .inl q
   ·exact .inr ⟨hA4 _ q,e⟩
theorem qEo {α:Type} {x n:Str} {c:α} {l:List (Str×α)} (h:(l.lookup x).isSome=true):(((n,c) :: l).lookup x).isSome=true:=by
 rw [hCm]
 cases x == n <;> simp [h]
theorem qC6 {cells:List (Str×Addr)} {x:Str}:∀ {names:List (Str×NameKind)} {acc:List (Str×Addr)},((x,NameKind.free)∈names\/(acc.lookup x).isSome=true)->((qB0 cells names acc).lookup x).isSome=true
 | [],acc,h=>by
  rcases h with h | h
  ·cases h
  ·exact h
 | (n,k) :: r,acc,h=>by
  unfold qB0
  by_cases hk:(k == NameKind.free)=true
  ·rw [if_pos hk]
   refine qC6 ?_
   rcases h with h | h
   ·rcases hA9.mp h with z | z
    ·cases z;exact .inr (by rw [hCm];simp)
    ·exact .inl z
   ·exact .inr (qEo h)
  ·rw [if_neg hk]
   refine qC6 ?_
   rcases h with h | h
   ·rcases hA9.mp h with z | z
    ·cases z;exact absurd rfl hk
    ·exact .inl z
   ·exact .inr h
theorem cellsFrom_mem:∀ {names:List (Str×NameKind)} {n:Nat} {acc:List (Str×Addr)} {x:Str} {c:Addr},(x,c)∈cellsFrom n names acc->(x,c)∈acc\/(x,NameKind.cell)∈names
 | [],_,_,_,_,h=>.inl h
 | (y,k) :: r,n,acc,x,c,h=>by
  unfold cellsFrom at h
  by_cases hk:(k == NameKind.cell)=true
  ·rw [if_pos hk] at h
   rcases cellsFrom_mem h with q | q
   ·rcases hA9.mp q with z | z
    ·cases z
     exact .inr (by rw [show NameKind.cell=k from (by simpa using hk:k=NameKind.cell).symm];exact hA2)
    ·exact .inl z
   ·exact .inr (hA4 _ q)
  ·rw [if_neg hk] at h
   rcases cellsFrom_mem h with q | q
   ·exact .inl q
   ·exact .inr (hA4 _ q)
structure CellsTwo (h:Heap) (lo:Nat) (acc cs:List (Str×Addr)):Prop where
 part:∀ x c,(x,c)∈cs->(x,c)∈acc\/(h.IsCell c none/\lo<=c)
 inj:∀ x y c,lo<=c->(x,c)∈cs->(y,c)∈cs->x=y
theorem qCm {acc0:List (Str×Addr)}:∀ (names:List (Str×NameKind)) (h:Heap) (lo:Nat) (acc:List (Str×Addr)),CellsTwo h lo acc0 acc->(∀ x c,(x,c)∈acc->c<h.objs.size)->lo<=h.objs.size ->
  CellsTwo (pushCells h names) lo acc0 (cellsFrom h.objs.size names acc)
 | [],_,_,_,x,_,_=>x
 | (name,kind) :: r,h,lo,acc,x,hl,hlo=>by
  unfold pushCells cellsFrom
  split
  ·have:=qCm (acc0:=acc0) r (h.push { cls:=.type "cell",data:=.cell none }) lo ((name,h.objs.size) :: acc)
    ⟨fun n c hm=>by
      rcases hA9.mp hm with e | hm
      ·cases e;exact .inr ⟨⟨_,Heap.get?_push_size _ rfl,rfl⟩,hlo⟩
      ·rcases x.part n c hm with q | q
       ·exact .inl q
       ·exact .inr ⟨q.1.keeps fun b o e=>Heap.get?_push_of_some _ e,q.2⟩,
     fun a b c hc h1 h2=>by
      rcases hA9.mp h1 with e1 | h1 <;> rcases hA9.mp h2 with e2 | h2
      ·cases e1;cases e2;rfl
      ·cases e1;exact absurd (hl _ _ h2) (hC0 _)
      ·cases e2;exact absurd (hl _ _ h1) (hC0 _)
      ·exact x.inj a b c hc h1 h2⟩
    (fun n c hm=>by
     rw [Heap.size_push]
     rcases hA9.mp hm with e | hm
     ·cases e;exact hBl _
     ·exact hB8 (hl n c hm)) (by rw [Heap.size_push];omega)
   rwa [Heap.size_push] at this
  ·exact qCm r h lo acc x hl hlo
def qBm (env:Env) (scope:Scope) (C:Addr):Env :=
 { scope:=relabel scope env,locals:=C,globals:=env.globals,cells:=cellsFrom (C+1) scope.names (qB0 env.cells scope.names []),qual:=env.qual,func:=none,code:=env.code,frame:=env.frame,builtins:=env.builtins }
theorem qDf {M:Model} {A:Around} {E:Value->Shared->Prop} {s:Shared} {scope:Scope} {env:Env} {cl:List (Str×Addr)} {Q:Env->Shared->Prop}
  (hQ:Q { scope:=scope,locals:=s.heap.objs.size,globals:=env.globals,cells:=cellsFrom (s.heap.objs.size+1) scope.names cl,qual:=env.qual,func:=none,code:=env.code,frame:=env.frame,builtins:=env.builtins }
   { s with heap:=pushCells (s.heap.push { cls:=.type "dict",data:=.dict #[] }) scope.names }) :
  wpAny M A (newFunctionEnv scope env.globals cl [] env.qual none .none (some env)) Q E s:=by
 simp only [newFunctionEnv,Option.isSome_some,if_true]
 refine wpAny_bind (wpAny_alloc ?_)
 refine wpAny_bind (wpAny_layCells _ (fun name kind cells=>by cases hkc:kind == NameKind.cell <;> simp [hkc]) _ _ _ _ ?_)
 rw [show ({ s with heap:=s.heap.push { cls:=.type "dict",data:=.dict #[] } }:Shared).heap.objs.size=s.heap.objs.size+1 from Heap.size_push ..]
 rw [List.forIn_nil]
 exact wpAny_bind (wpAny_pure (wpAny_pure hQ))
theorem compLoop_any {prog:Program} {w:World} {A:Around} {R:Result->Shared->Prop} {s:Shared} {elt target iter:Expr} {ifs:List Expr} {scope:Scope} {pos:Pos} {it acc:Value} {env:Env} (I:Nat->Shared->Prop)
  (turn:∀ n s,I n s->wpAny (model prog w) A (pyNext it) (fun r s₁=>match r with
   | none=>R (.ok .next) s₁
   | some v=>wpAny (model prog w) A (letOwnedTupleGo target it v) (fun _ s₁'=>wpAny (model prog w) A (assign target env v) (fun _ s₂ =>
     wpAny (model prog w) A (forIn ifs true fun c r=>if r=true then do let ok ← isTrue c env (eval c env);pure (ForInStep.yield ok) else pure (ForInStep.yield r)) (fun ok s₃ =>
      if ok=true then wpAny (model prog w) A (eval elt env) (fun x s₄ =>
       wpAny (model prog w) A (call (.builtin "list.append") [acc,x]) (fun _ s₅=>∃ m,m<n/\I m s₅) (fun _ _=>False) s₄) (fun _ _=>False) s₃
      else ∃ m,m<n/\I m s₃) (fun _ _=>False) s₂) (fun _ _=>False) s₁') (fun _ _=>False) s₁) (fun _ _=>False) s)
  (n:Nat) (h:I n s) :
  codeAny (model prog w) A (.compLoop (.ListComp elt [⟨target,iter,ifs,0⟩] scope pos) 0 it acc env) R s:=by
 refine codeAny_loop rfl I (fun n s hI=>?_) n h
 show wpAny _ A ((compTurn (.ListComp elt [⟨target,iter,ifs,0⟩] scope pos) 0 it acc env).onRaise (fun x=>do noteFrame x env;theTreesLotGoes x)) _ _ s
 refine wpAny_noted ?_
 rw [compTurn_list]
 refine wpAny_bind (wpAny_standAt (wpAny_bind (wpAny_mono (turn n s hI) (fun r s₁ h₁=>?_) fun _ _ h'=>h'.elim)))
 cases r with
 | none=>exact wpAny_pure h₁
 | some v =>
  refine wpAny_bind (wpAny_mono h₁ (fun _ s₁' h₁=>?_) fun _ _ h'=>h'.elim)
  refine wpAny_bind (wpAny_mono h₁ (fun _ s₂ h₂=>wpAny_bind (wpAny_mono h₂ (fun ok s₃ h₃=>?_) fun _ _ h'=>h'.elim)) fun _ _ h'=>h'.elim)
  cases ok with
  | false=>exact wpAny_pure ⟨rfl,h₃⟩
  | true =>
   exact wpAny_bind (wpAny_bind (wpAny_mono h₃ (fun x s₄ h₄=>wpAny_bind (wpAny_mono h₄ (fun _ s₅ h₅=>wpAny_pure (wpAny_pure ⟨rfl,h₅⟩)) fun _ _ h'=>h'.elim)) fun _ _ h'=>h'.elim))
end L2
namespace L2
open PySem PySem.Spec PyProof.Rows
def qBh (X:Cx) (scope:Scope) (N':List Str) (C:Addr) (s:Shared) (H:Hp) (fp:List Addr):Cx :=
 { X with N:=N',s₀:=s,H₀:=H,env:=qBm X.env scope C,outer:=X.stack,stack:=X.stack,ex:=fp,fn:=fun x=>!(scope.names.lookup x == some .free),pn:=[],xe:=fun _ _=>False }
def subσ (sub:List (Option Nat)) (σ:St):St:=sub.map fun o=>o.bind fun i=>(σ[i]?).join
def cmpOkB (N:List Str) (sc:Scope) (N':List Str) (scope:Scope) (sub:List (Option Nat)):Bool :=
 scope.kind == .function && decide ((scope.names.map (·.1)).Nodup) && decide N'.Nodup && sub.length == N'.length &&
 (scope.names.all fun x=>!(x.2 == .free) || sc.names.lookup x.1 == some .cell || sc.names.lookup x.1 == some .free) &&
 ((sub.zip N').all fun p=>match p.1 with
  | none=>true
  | some i=>N[i]? == some p.2 && scope.names.lookup p.2 == some .free)
structure CmpOk (N:List Str) (sc:Scope) (N':List Str) (scope:Scope) (sub:List (Option Nat)):Prop where
 kind:scope.kind = .function
 nd:(scope.names.map (·.1)).Nodup
 nd':N'.Nodup
 len:sub.length=N'.length
 free:∀ x∈scope.names,x.2 = .free->sc.names.lookup x.1=some .cell\/sc.names.lookup x.1=some .free
 sub:∀ (j i:Nat) (x:Str),sub[j]?=some (some i)->N'[j]?=some x->N[i]?=some x/\scope.names.lookup x=some .free
theorem CmpOk.of {N:List Str} {sc:Scope} {N':List Str} {scope:Scope} {sub:List (Option Nat)} (h:cmpOkB N sc N' scope sub=true):CmpOk N sc N' scope sub:=by
 unfold cmpOkB at h
 simp only [hBa] at h
 obtain ⟨⟨⟨⟨⟨h1,h2⟩,h3⟩,h4⟩,h5⟩,h6⟩:=h
 refine ⟨by simpa using h1,of_decide_eq_true h2,of_decide_eq_true h3,by simpa using h4,fun x hx hf=>?_,fun j i x hj hx=>?_⟩
 ·have q:=hCw.mp h5 x hx
  rw [hf] at q
  simp only [beq_self_eq_true,Bool.not_true,Bool.false_or,Bool.or_eq_true] at q
  rcases q with q | q
  ·exact .inl (by simpa using q)
  ·exact .inr (by simpa using q)
 ·have q:=hCw.mp h6 (some i,x) (by
   refine hAr (i:=j) ?_
   rw [List.getElem?_zip_eq_some]
   exact ⟨hj,hx⟩)
  simp only [hBa] at q
  exact ⟨by simpa using q.1,by simpa using q.2⟩
theorem qBd {α:Type}:∀ {l:List (Str×α)} {x:Str} {c:α},(l.map (·.1)).Nodup->(x,c)∈l->l.lookup x=some c
 | (y,d) :: r,x,c,nd,h=>by
  rw [hCm]
  rcases hA9.mp h with e | h
  ·cases e;simp
  ·have ne:x≠y:=fun e=>by
    rw [hAl] at nd
    exact (hB0.mp nd).1 (by rw [<-e];exact hAb.mpr ⟨(x,c),h,rfl⟩)
   rw [show (x == y)=false from by simpa using ne]
   exact qBd (hB0.mp nd).2 h
theorem qCu {sc:Scope}:∀ {names:List (Str×NameKind)} {x:Str},
  ((names.map fun (n,k)=>if (k == NameKind.free && sc.kind == .function && sc.names.lookup n == some .cell) then (n,NameKind.cell) else (n,k)).lookup x) =
   (names.lookup x).map fun k=>if (k == NameKind.free && sc.kind == .function && sc.names.lookup x == some .cell) then NameKind.cell else k
 | [],x=>rfl
 | (n,k) :: r,x=>by
  have ih:=@qCu sc r x
  rw [hAl]
  show List.lookup x ((if (k == NameKind.free && sc.kind == .function && sc.names.lookup n == some .cell)=true then (n,NameKind.cell) else (n,k)) :: _)=_
  by_cases hc:(k == NameKind.free && sc.kind == .function && sc.names.lookup n == some .cell)=true
  ·rw [if_pos hc,hCm,hCm]
   by_cases hx:x=n
   ·subst hx
    rw [show (x == x)=true from beq_self_eq_true x]
    show some NameKind.cell=Option.map _ (some k)
    rw [hCa,if_pos hc]
   ·rw [show (x == n)=false by simpa using hx]
    exact ih
  ·rw [if_neg hc,hCm,hCm]
   by_cases hx:x=n
   ·subst hx
    rw [show (x == x)=true from beq_self_eq_true x]
    show some k=Option.map _ (some k)
    rw [hCa,if_neg hc]
   ·rw [show (x == n)=false by simpa using hx]
    exact ih
section
variable {X:Cx} {pins:List (Addr×Obj)} {σ:St} {H H':Hp} {s:Shared}
theorem qGj (I:Inv X pins σ H s) {b:Addr} (hb:b∈frs X.stack) (n1:b≠X.env.locals):b∈X.fs:=(hA9.mp (I.stkSub b hb)).elim (fun e=>absurd e n1) id
theorem qFq {N':List Str} {scope:Scope} {sub:List (Option Nat)} {h3:Heap} (I:Inv X pins σ H s) (O:CmpOk X.N X.env.scope N' scope sub)
  (hk:∀ b o,s.heap.get? b=some o->h3.get? b=some o) :
  (∀ x c,(cellsFrom (h3.objs.size+1) scope.names (qB0 X.env.cells scope.names [])).lookup x=some c ->
   (((pushCells (h3.push { cls:=.type "dict",data:=.dict #[] }) scope.names).IsCell c none/\h3.objs.size+1<=c/\(x,NameKind.cell)∈scope.names)\/((x,NameKind.free)∈scope.names/\X.env.cells.lookup x=some c))) /\
  (∀ x y c,(cellsFrom (h3.objs.size+1) scope.names (qB0 X.env.cells scope.names [])).lookup x=some c->(cellsFrom (h3.objs.size+1) scope.names (qB0 X.env.cells scope.names [])).lookup y=some c->x=y):=by
 have hin:∀ x c,(x,c)∈qB0 X.env.cells scope.names []->(x,NameKind.free)∈scope.names/\X.env.cells.lookup x=some c:=fun x c h=>by
  rcases closL_mem h with q | ⟨q,e⟩
  ·cases q
  ·have hx:∃ c,X.env.cells.lookup x=some c:=by
    refine I.ok.has x ?_
    rcases O.free _ q rfl with z | z
    ·exact .inl z
    ·exact .inr z
   obtain ⟨c',hc'⟩:=hx
   rw [hc'] at e
   exact ⟨q,by rw [hc',e];rfl⟩
 have hlt:∀ x c,(x,c)∈qB0 X.env.cells scope.names []->c<h3.objs.size:=fun x c h=>by
  obtain ⟨v,o,ho,_⟩:=I.cell x c (hin x c h).2
  exact Heap.lt_size (hk _ _ ho)
 have two:=qCm (acc0:=qB0 X.env.cells scope.names []) scope.names (h3.push { cls:=.type "dict",data:=.dict #[] }) (h3.objs.size+1) (qB0 X.env.cells scope.names [])
  ⟨fun x c h=>.inl h,fun x y c hc h1 _=>absurd (hlt x c h1) (Nat.not_lt.mpr (Nat.le_of_succ_le hc))⟩ (fun x c h=>by rw [Heap.size_push];exact hB8 (hlt x c h)) (by rw [Heap.size_push];exact hA5 _)
 rw [Heap.size_push] at two
 refine ⟨fun x c h=>?_,fun x y c h1 h2=>?_⟩
 ·have m:=hBb h
  rcases two.part x c m with q | q
  ·exact .inr (hin x c q)
  ·refine .inl ⟨q.1,q.2,?_⟩
   rcases cellsFrom_mem m with z | z
   ·exact absurd (hlt x c z) (Nat.not_lt.mpr (Nat.le_of_succ_le q.2))
   ·exact z
 ·have m1:=hBb h1
  have m2:=hBb h2
  by_cases hc:h3.objs.size+1<=c
  ·exact two.inj x y c hc m1 m2
  ·rcases two.part x c m1 with q1 | q1
   ·rcases two.part y c m2 with q2 | q2
    ·exact I.ok.inj x y c (hin x c q1).2 (hin y c q2).2
    ·exact absurd q2.2 hc
   ·exact absurd q1.2 hc
theorem inv_comp {N':List Str} {scope:Scope} {sub:List (Option Nat)} {fp:List Addr} (I:Inv X pins σ H s) (O:CmpOk X.N X.env.scope N' scope sub) (hf:∀ b∈fp,FpOk X pins H b)
  (hfl:∀ b∈fp,b<s.heap.objs.size) :
  Inv (qBh X scope N' (s.heap.objs.size+1) s H fp) [(s.heap.objs.size,{ cls:=.type "list",data:=.seq #[] })] (subσ sub σ) H
   { s with heap:=pushCells ((s.heap.push { cls:=.type "list",data:=.seq #[] }).push { cls:=.type "dict",data:=.dict #[] }) scope.names }:=by
 have hk3:∀ b o,s.heap.get? b=some o->(s.heap.push { cls:=.type "list",data:=.seq #[] }).get? b=some o:=fun b o e=>Heap.get?_push_of_some _ e
 have sz3:(s.heap.push { cls:=.type "list",data:=.seq #[] }).objs.size=s.heap.objs.size+1:=Heap.size_push ..
 have hk:∀ b o,s.heap.get? b=some o->(pushCells ((s.heap.push { cls:=.type "list",data:=.seq #[] }).push { cls:=.type "dict",data:=.dict #[] }) scope.names).get? b=some o :=
  fun b o e=>pushCells_keeps _ _ b o (Heap.get?_push_of_some _ (hk3 b o e))
 have cf:=qFq (h3:=s.heap.push { cls:=.type "list",data:=.seq #[] }) I O hk3
 rw [sz3] at cf
 have hC:H (s.heap.objs.size+1)=none:=I.hok.fresh (hAx _)
 have nsC:(pushCells ((s.heap.push { cls:=.type "list",data:=.seq #[] }).push { cls:=.type "dict",data:=.dict #[] }) scope.names).Ns (s.heap.objs.size+1) (fun _=>none):=by
  rw [<-sz3]
  exact (Heap.Ns.new _ _).keeps (pushCells_keeps _ _)
 have has:∀ x,(scope.names.lookup x=some .cell\/scope.names.lookup x=some .free)->∃ c,(cellsFrom (s.heap.objs.size+1+1) scope.names (qB0 X.env.cells scope.names [])).lookup x=some c:=fun x hx=>by
  refine hD2.mp (hCv _ _ _ ?_)
  rcases hx with z | z
  ·exact .inl z
  ·exact .inr (qC6 (.inl (hBb z)))
 have kindB:∀ x,(qBm X.env scope (s.heap.objs.size+1)).kindOf x=(scope.names.lookup x).map fun k=>if (k == NameKind.free && X.env.scope.kind == .function && X.env.scope.names.lookup x == some .cell) then NameKind.cell else k:=fun x=>qCu
 have cellOk:∀ x c,(qBm X.env scope (s.heap.objs.size+1)).cells.lookup x=some c->∃ v,(pushCells ((s.heap.push { cls:=.type "list",data:=.seq #[] }).push { cls:=.type "dict",data:=.dict #[] }) scope.names).IsCell c v:=fun x c h=>by
  rcases cf.1 x c h with q | q
  ·exact ⟨_,q.1⟩
  ·obtain ⟨v,z⟩:=I.cell x c q.2
   exact ⟨v,z.keeps hk⟩
 refine ⟨⟨I.ok.mod,O.kind,I.ok.glob,I.ok.blt,hAx _,fun x y c h1 h2=>cf.2 x y c h1 h2,fun x hx=>?_,fun x c hx h=>?_,I.ok.hd,I.ok.frames,.inl rfl,fun b hb=>?_,fun b o e=>I.bs b o e,hAv I.ok.bsz I.sz,fun b o e hb=>?_,fun b hb=>?_,I.stack,I.stkFree⟩,
  rfl,I.bare,Un.kept hk,⟨fun _=>none,nsC,fun i x v h1 h2 h3=>?_⟩,cellOk,hC,fun x c h=>?_,fun p hp=>?_,I.hok.kept hk,?_⟩
 ·-- has
  refine has x ?_
  have hx:(qBm X.env scope (s.heap.objs.size+1)).kindOf x=some .cell\/(qBm X.env scope (s.heap.objs.size+1)).kindOf x=some .free:=hx
  rw [kindB] at hx
  cases e:scope.names.lookup x with
  | none=>rw [e] at hx;rcases hx with z | z <;> cases z
  | some k =>
   rw [e] at hx
   cases k with
   | cell=>exact .inl rfl
   | free=>exact .inr rfl
   | _=>exfalso;rcases hx with z | z <;> simp at z
 ·-- cab
  rcases cf.1 x c h with q | q
  ·have:=q.2.1
   show s.heap.objs.size<=c
   omega
  ·exfalso
   have e:=qBd O.nd q.1
   have hx':(!(scope.names.lookup x == some NameKind.free))=true:=hx
   rw [e] at hx'
   exact absurd hx' (by decide)
 ·-- exf
  obtain ⟨f0,f1,f2,f3,f4,f5⟩:=hf b hb
  have lt:=hfl b hb
  refine ⟨fun e=>?_,fun x c h e=>?_⟩
  ·have e':b=s.heap.objs.size+1:=e
   rw [e'] at lt
   exact absurd lt (Nat.not_lt.mpr (hAx _))
  ·rcases cf.1 x c h with q | q
   ·have z:=q.2.1
    rw [e] at z
    exact absurd lt (Nat.not_lt.mpr (hAv (hAv (hAx _) (hAx _)) z))
   ·exact f4 x c q.2 e
 ·-- noex
  obtain ⟨f0,f1,f2,f3,f4,f5⟩:=hf b hb
  rcases f3 with z | z
  ·exact I.ok.noex b o e z
  ·exact absurd (hAi (Heap.lt_size (I.ok.bs b o e).1) z) (hC0 _)
 ·-- exfs
  obtain ⟨f0,f1,f2,f3,f4,f5⟩:=hf b hb
  exact fun z=>f2 (qGj I z f1)
 ·-- loc
  have h1':N'[i]?=some x:=h1
  have hsub:∃ k,sub[i]?=some (some k)/\(σ[k]?).join=some v:=by
   unfold subσ at h2
   rw [hAj] at h2
   cases e:sub[i]? with
   | none=>rw [e] at h2;cases h2
   | some o =>
    rw [e] at h2
    cases o with
    | none=>cases h2
    | some k=>exact ⟨k,rfl,by simpa using h2⟩
  obtain ⟨k,hk1,hk2⟩:=hsub
  obtain ⟨nk,fx⟩:=O.sub i k x hk1 h1'
  have sk:σ[k]?=some (some v):=by
   cases e:σ[k]? with
   | none=>rw [e] at hk2;cases hk2
   | some o=>rw [e] at hk2;cases o with
    | none=>cases hk2
    | some y=>cases hk2;rfl
  have cx:=O.free _ (hBb fx) rfl
  obtain ⟨m,hn,hl⟩:=I.loc
  obtain ⟨u,ru,lk⟩:=hl k x v nk sk (by
   rcases cx with z | z
   ·exact .inr (.inl z)
   ·exact .inr (.inr z))
  refine ⟨u,ru,.inr ⟨?_,?_⟩⟩
  ·show (qBm X.env scope (s.heap.objs.size+1)).kindOf x=some .cell\/(qBm X.env scope (s.heap.objs.size+1)).kindOf x=some .free
   rw [kindB,fx]
   by_cases hc:(NameKind.free == NameKind.free && X.env.scope.kind == .function && X.env.scope.names.lookup x == some .cell)=true
   ·exact .inl (by rw [hCa,if_pos hc])
   ·exact .inr (by rw [hCa,if_neg hc])
  ·rcases lk with ⟨kl,_⟩ | ⟨_,c,hc,hcell⟩
   ·exfalso
    have kl':X.env.scope.names.lookup x=some .local:=kl
    rcases cx with z | z <;> rw [kl'] at z <;> cases z
   ·obtain ⟨c',hc'⟩:=has x (.inr fx)
    refine ⟨c',hc',?_⟩
    rcases cf.1 x c' hc' with q | q
    ·exfalso
     have e:=qBd O.nd q.2.2
     rw [fx] at e;cases e
    ·rw [hc] at q
     have e:c=c':=hAs q.2
     subst e
     exact hcell.keeps hk
 ·-- freeC
  rcases cf.1 x c h with q | q
  ·exact I.hok.fresh (by have:=q.2.1;omega)
  ·exact I.freeC x c q.2
 ·-- pin
  have hp':p=(s.heap.objs.size,({ cls:=.type "list",data:=.seq #[] }:Obj)):=by
   have:p∈([]++[(s.heap.objs.size,({ cls:=.type "list",data:=.seq #[] }:Obj))]:List (Addr×Obj)):=hp
   simpa using this
  subst hp'
  refine ⟨pushCells_keeps _ _ _ _ (Heap.get?_push_of_some _ (Heap.get?_push_size _ rfl)),I.hok.fresh (hA5 _),hAk (hBl _),fun z=>?_,fun v z=>?_⟩
  ·rcases hA9.mp (I.stkSub _ z) with e | e
   ·exact absurd I.lt (by rw [<-e];exact hC0 _)
   ·exact I.nofs (hA5 _) e
  ·cases z
 ·-- len
  show (subσ sub σ).length=N'.length
  unfold subσ
  rw [hA1,O.len]
end
end L2
namespace L2
open PySem PySem.Spec PyProof.Rows
def Sle (σ σ2:St):Prop:=σ2.length=σ.length/\∀ (i:Nat) (v:V),σ[i]?=some (some v)->σ2[i]?=some (some v)
theorem Sle.refl (σ:St):Sle σ σ:=⟨rfl,fun _ _ h=>h⟩
theorem Sle.set {σ σ2:St} {i:Nat} (v:V) (h:Sle σ σ2) (hi:∀ u,σ[i]?≠some (some u)):Sle σ (σ2.set i (some v)):=by
 refine ⟨by rw [List.length_set];exact h.1,fun j u hj=>?_⟩
 have ne:i≠j:=fun e=>hi u (by rw [e];exact hj)
 rw [List.getElem?_set_ne ne]
 exact h.2 j u hj
def PTs (X:Cx) (ifs:List Expr) (t:TT):Prop :=
 ∀ (pins:List (Addr×Obj)) (s:Shared) (σ:St) (H:Hp) (Q:Bool->Hp->Prop),Inv X pins σ H s->t σ H Q ->
  wpAny (model X.prog X.w) X.A (forIn ifs true fun c r=>if r=true then do let ok ← isTrue c X.env (eval c X.env);pure (ForInStep.yield ok) else pure (ForInStep.yield r)) (TP X pins σ Q) X.xe s
def tNoTest:TT:=fun _ H Q=>Q true H
theorem qA4 {X:Cx}:PTs X [] tNoTest:=fun pins s σ H Q I h=>wpAny_tests_nil ⟨H,I,h⟩
theorem qDd {X:Cx} {c:Expr} {t:TT} (h:PT X c t):PTs X [c] t:=fun pins s σ H Q I hw=>wpAny_tests_one (h pins s σ H Q I hw)
def qEj (J:It) (σ0:St) (g:TG) (tt:TT) (te:TE) (Q:List V->Hp->Prop) (H1:Hp):Prop :=
 ∃ W:Nat->Nat->List V->Hp->Prop,(∃ m,W 0 m [] H1)/\∀ i m ys H,W i m ys H ->
  (J.stop i H/\Q ys H) \/
  (J.go i H/\∀ x H',J.yld i H x H'->g x σ0 H' fun σ2 H2=>Sle σ0 σ2/\tt σ2 H2 fun b H3 =>
   if b=true then te σ2 H3 (fun v H4=>ys.length<sizeLine/\∃ m',m'<m/\W (i+1) m' (ys++[v]) H4) else ∃ m',m'<m/\W (i+1) m' ys H3)
section
variable {X:Cx} {pins:List (Addr×Obj)} {σ:St} {H:Hp} {s:Shared}
theorem comp_core {target iter elt:Expr} {ifs:List Expr} {scope:Scope} {pos:Pos} {N':List Str} {sub:List (Option Nat)} {J:It} {fp:List Addr} {it:Addr} {tn:Nat->Heap->Prop} {g:TG} {tt:TT} {te:TE}
  {Qe:List V->Hp->Prop} {E:Value->Shared->Prop} {RR:Value->Addr->Result->Shared->Prop}
  (hc:X.calm=true) (I:Inv X pins σ H s) (O:CmpOk X.N X.env.scope N' scope sub) (T:Turn X.prog X.w X.K target J fp it tn) (st:tn 0 s.heap) (hf:∀ b∈fp,FpOk X pins H b)
  (B:∀ C s H fp,PG (qBh X scope N' C s H fp) target g/\PTs (qBh X scope N' C s H fp) ifs tt/\PE (qBh X scope N' C s H fp) elt te)
  (rd:qEj J (subσ sub σ) g tt te Qe H)
  (hRR:∀ (acc C:Addr) (ys:List V) (H':Hp) (s':Shared),Inv X pins σ (upd H' acc (.lst ys)) s'->FpOk X pins (upd H' acc (.lst ys)) C->(∃ m,s'.heap.Ns C m)->H' acc=none->Qe ys H'->RR (.ref acc) C (.ok .next) s') :
  wpAny (model X.prog X.w) X.A (newList []) (fun acc s₃=>wpAny (model X.prog X.w) X.A (newFunctionEnv scope X.env.globals (qB0 X.env.cells scope.names []) [] X.env.qual none .none (some X.env)) (fun cenv s₄ =>
   codeAny (model X.prog X.w) X.A (.compStart (.ListComp elt [⟨target,iter,ifs,0⟩] scope pos) 0 (.ref it) acc { cenv with scope:=relabel scope X.env }) (RR acc cenv.locals) s₄) E s₃) E s:=by
 refine wpAny_newObj_type (qDf ?_)
 have hfl:∀ b∈fp,b<s.heap.objs.size:=fun b hb=>by
  obtain ⟨o,e,_⟩:=T.obj _ _ st b hb
  exact Heap.lt_size e
 have I0:=inv_comp (sub:=sub) I O hf hfl
 have sz3:(s.heap.push { cls:=.type "list",data:=.seq #[] }).objs.size=s.heap.objs.size+1:=Heap.size_push ..
 dsimp only
 show codeAny _ _ (.compStart _ 0 (.ref it) (.ref s.heap.objs.size) { scope:=relabel scope X.env,locals:=(s.heap.push { cls:=.type "list",data:=.seq #[] }).objs.size,globals:=X.env.globals,cells:=cellsFrom ((s.heap.push { cls:=.type "list",data:=.seq #[] }).objs.size+1) scope.names (qB0 X.env.cells scope.names []),qual:=X.env.qual,func:=none,code:=X.env.code,frame:=X.env.frame,builtins:=X.env.builtins })
  (RR (.ref s.heap.objs.size) (s.heap.push { cls:=.type "list",data:=.seq #[] }).objs.size) { s with heap:=pushCells ((s.heap.push { cls:=.type "list",data:=.seq #[] }).push { cls:=.type "dict",data:=.dict #[] }) scope.names }
 rw [sz3]
 show codeAny _ _ (.compStart _ 0 (.ref it) (.ref s.heap.objs.size) (qBm X.env scope (s.heap.objs.size+1))) (RR (.ref s.heap.objs.size) (s.heap.objs.size+1)) _
 generalize hs0:({ s with heap:=pushCells ((s.heap.push { cls:=.type "list",data:=.seq #[] }).push { cls:=.type "dict",data:=.dict #[] }) scope.names }:Shared)=s0 at I0 ⊢
 have hk0:∀ b o,s.heap.get? b=some o->s0.heap.get? b=some o:=fun b o e=>by
  rw [<-hs0]
  exact pushCells_keeps _ _ b o (Heap.get?_push_of_some _ (Heap.get?_push_of_some _ e))
 have st0:tn 0 s0.heap:=T.keep _ _ _ st fun b hb o e=>hk0 b o e
 clear hs0 sz3
 generalize hX:qBh X scope N' (s.heap.objs.size+1) s H fp=X' at I0
 have xp:X'.prog=X.prog:=by rw [<-hX];rfl
 have xw:X'.w=X.w:=by rw [<-hX];rfl
 have xK:X'.K=X.K:=by rw [<-hX];rfl
 have xA:X'.A=X.A:=by rw [<-hX];rfl
 have xc:X'.calm=true:=by rw [<-hX];exact hc
 have xe:X'.env=qBm X.env scope (s.heap.objs.size+1):=by rw [<-hX];rfl
 have xx:X'.ex=fp:=by rw [<-hX];rfl
 have xo:X'.outer=X.stack:=by rw [<-hX];rfl
 have xf:X'.fs=frs X.stack:=by rw [<-hX];rfl
 have xpn:X'.pn=[]:=by rw [<-hX];rfl
 have x0:X'.s₀=s:=by rw [<-hX];rfl
 have xh:X'.H₀=H:=by rw [<-hX];rfl
 have xxe:X'.xe=fun _ _=>False:=by rw [<-hX];rfl
 obtain ⟨hg,ht,he⟩:=B (s.heap.objs.size+1) s H fp
 rw [hX] at hg ht he
 clear hX
 have stat:∀ {pl:List (Addr×Obj)} {H':Hp},(∀ p∈pl,p.1=s.heap.objs.size)->(∀ b∈fp,H' b=none)->∀ b∈fp,FpOk X' pl H' b:=fun {pl H'} hp hn b hb=>by
  obtain ⟨f0,f1,f2,f3,f4,f5⟩:=hf b hb
  refine ⟨hn b hb,(I0.ok.exf b (by rw [xx];exact hb)).1,I0.ok.exfs b (by rw [xx];exact hb),.inl (by rw [xx];exact hb),(I0.ok.exf b (by rw [xx];exact hb)).2,fun p hp'=>?_⟩
  rw [xpn,List.nil_append] at hp'
  rw [hp p hp']
  exact hCd (hfl b hb)
 obtain ⟨W,⟨m0,w0⟩,turn⟩:=rd
 have loop:∀ s3:Shared,s3=s0->codeAny (model X.prog X.w) X.A (.compLoop (.ListComp elt [⟨target,iter,ifs,0⟩] scope pos) 0 (.ref it) (.ref s.heap.objs.size) (qBm X.env scope (s.heap.objs.size+1))) (RR (.ref s.heap.objs.size) (s.heap.objs.size+1)) s3:=by
  intro s3 e3
  refine compLoop_any (fun n s'=>∃ (i:Nat) (ys:List V) (H':Hp) (its:List Value) (k:Nat),Inv X' [(s.heap.objs.size,{ cls:=.type "list",data:=.seq its.toArray k })] (subσ sub σ) H' s'/\qA6 ys its/\ys.length<=sizeLine/\tn i s'.heap/\(∀ b∈fp,H' b=none)/\W i n ys H') ?_ m0
   ⟨0,[],H,[],0,by rw [e3];exact I0,.nil,hAt _,by rw [e3];exact st0,fun b hb=>(hf b hb).1,w0⟩
  rintro n s4 ⟨i,ys,H4,its,k,I4,rv,hz,st4,fr4,w4⟩
  have pe:∀ p∈([(s.heap.objs.size,({ cls:=.type "list",data:=.seq its.toArray k }:Obj))]:List (Addr×Obj)),p.1=s.heap.objs.size:=fun p hp=>by
   rw [hA7] at hp
   rw [hp]
  rcases turn i n ys H4 w4 with ⟨stop,q⟩ | ⟨go,step⟩
  ·-- the end
   have td:=T.done X' xp xw xK xc i _ s4 (subσ sub σ) H4 (fun _ _=>False) I4 (stat pe fr4) st4 stop
   rw [xA] at td
   refine thn td fun r s5 ⟨hr,I5⟩=>?_
   subst hr
   have pa:=I5.pin (s.heap.objs.size,{ cls:=.type "list",data:=.seq its.toArray k }) (by rw [xpn];simp)
   have nacc:H4 s.heap.objs.size=none:=pa.2.1
   have nC:H4 (s.heap.objs.size+1)=none:=by have z:=I5.free;rw [xe] at z;exact z
   have un:Un (frs X.stack) fp H H4 s.heap s5.heap:=by have z:=I5.base;rw [xf,xx,xh,x0] at z;exact z
   have un2:Un (frs X.stack) fp H (upd H4 s.heap.objs.size (.lst ys)) s.heap s5.heap:=by
    refine ⟨un.keep,un.slot,fun b o e n hx=>?_,un.there,fun b xs e=>?_,fun b o u e=>?_,fun b ps e=>?_⟩
    ·rw [qAe (hAk (Heap.lt_size e))]
     exact un.free b o e n hx
    ·have z:=un.tups b xs e
     rw [qAe (qAd z nacc)];exact z
    ·have z:=un.frzs b o u e
     rw [qAe (qAd z nacc)];exact z
    ·obtain ⟨more,z⟩:=un.tbls b ps e
     exact ⟨more,by rw [qAe (qAd z nacc)];exact z⟩
   have hok5:HOk X.prog X.w H4 s5.heap:=by have z:=I5.hok;rw [xp,xw] at z;exact z
   have hok2:HOk X.prog X.w (upd H4 s.heap.objs.size (.lst ys)) s5.heap:=fun b u e=>by
    by_cases hb:b=s.heap.objs.size
    ·subst hb
     rw [upd_same] at e
     cases e
     exact ⟨hz,its,k,rv,pa.1⟩
    ·rw [qAe hb] at e
     exact (hok5 b u e).stay (fun _ _ _ q=>q) (fun c q=>by rw [qAe (qAd q nacc)];exact q) fun c xs q=>by rw [qAe (qAd q nacc)];exact q
   have os5:s5.os=s.os:=by have z:=I5.os;rw [x0] at z;exact z
   have J5:Inv X pins σ (upd H4 s.heap.objs.size (.lst ys)) s5:=I.call' os5 un2 hok2 I5.bare fun b hb=>by
    obtain ⟨f0,f1,f2,f3,f4,f5⟩:=hf b hb
    exact ⟨f3,f1,f4,f5⟩
   refine hRR _ _ ys H4 s5 J5 (I.fpOk (hAx _) ?_) ?_ nacc q
   ·rw [qAe (Nat.succ_ne_self _)];exact nC
   ·obtain ⟨m,hn,_⟩:=I5.loc
    rw [xe] at hn
    exact ⟨m,hn⟩
  ·-- one turn
   have ti:=T.item X' xp xw xK xc i _ s4 (subσ sub σ) H4 (fun _ _=>False) I4 (stat pe fr4) st4 go
   rw [xA] at ti
   refine thn ti fun r s5 ⟨u,hr,h5⟩=>?_
   subst hr
   refine thn h5 fun _ s6 ⟨x,H6,I6,r6,y6,st6,fr6⟩=>?_
   have I6':=I6.pinned (stat pe fr6) (T.obj _ _ st6)
   have tg:=hg _ s6 (subσ sub σ) H6 x u _ I6' r6 (step x H6 y6)
   rw [xp,xw,xA,xe,xxe] at tg
   refine thn tg fun _ s7 ⟨σ7,H7,I7,le7,q7⟩=>?_
   have tts:=ht _ s7 σ7 H7 _ I7 q7
   rw [xp,xw,xA,xe,xxe] at tts
   refine thn tts fun b s8 ⟨H8,I8,q8⟩=>?_
   cases b with
   | false =>
    rw [if_neg hAn] at q8 ⊢
    obtain ⟨m',hm',w8⟩:=q8
    have I9:Inv X' ([(s.heap.objs.size,{ cls:=.type "list",data:=.seq its.toArray k })]++pinsAt fp s6.heap) (subσ sub σ) H8 s8:=I8.weak le7.1.symm le7.2
    refine ⟨m',hm',i+1,ys,H8,its,k,I9.unpinned,rv,hz,T.keep _ _ _ st6 fun b hb o e=>(I9.pin (b,o) (hA6 _ (hA6 _ (qBi hb e)))).1,fun b hb=>?_,w8⟩
    obtain ⟨o,e,d⟩:=T.obj _ _ st6 b hb
    exact (I9.pin (b,o) (hA6 _ (hA6 _ (qBi hb e)))).2.1
   | true =>
    rw [if_pos rfl] at q8 ⊢
    have tee:=he _ s8 σ7 H8 _ I8 q8
    rw [xp,xw,xA,xe,xxe] at tee
    refine thn tee fun vv s9 ⟨v,H9,I9,r9,lz,m',hm',w9⟩=>?_
    have I10:Inv X' ([(s.heap.objs.size,{ cls:=.type "list",data:=.seq its.toArray k })]++pinsAt fp s6.heap) (subσ sub σ) H9 s9:=I9.weak le7.1.symm le7.2
    have pa:=I10.pin (s.heap.objs.size,{ cls:=.type "list",data:=.seq its.toArray k }) (by rw [xpn];simp)
    have hlen:=rv.length
    refine wpAny_list_append_plain (items:=its.toArray) ⟨k,pa.1⟩ (fun h' pl sb=>?_) (by rw [hAd];omega)
    obtain ⟨k',pl⟩:=pl
    have keepIt:∀ b∈fp,∀ o,s6.heap.get? b=some o->h'.get? b=some o:=fun b hb o e=>by
     have nb:b≠s.heap.objs.size:=hAk (hfl b hb)
     exact (sb.2 b nb).trans (I10.pin (b,o) (hA6 _ (hA6 _ (qBi hb e)))).1
    have I11:Inv X' [] (subσ sub σ) H9 s9:=I10.pins_of fun p hp=>absurd hp (by simp)
    have sacc:s.heap.objs.size≠X'.env.locals:=pa.2.2.1
    have I12:Inv X' [] (subσ sub σ) H9 { s9 with heap:=h' }:=I11.turned (t':=s9.toks) (it:=s.heap.objs.size) (fun b o hb e=>(sb.2 b hb).trans e) pa.2.1 sacc (.inr (by rw [x0];exact hA5 _))
     (fun y c hy z=>by
      obtain ⟨w',o',ho',hd'⟩:=I10.cell y c hy
      rw [z,pa.1] at ho'
      have z2:=hAs ho'
      rw [<-z2] at hd'
      cases hd') (fun p hp=>absurd hp (by rw [xpn];simp))
    refine ⟨m',hm',i+1,ys++[v],H9,its++[vv],k',I12.pins_of (fun p hp=>?_),rv.append (.cons r9 .nil),by rw [hAc,List.length_singleton];omega,T.keep _ _ _ st6 keepIt,fun b hb=>?_,w9⟩
    ·rw [hA7] at hp
     subst hp
     refine ⟨?_,pa.2.1,sacc,pa.2.2.2.1,fun v z=>by cases z⟩
     show h'.get? s.heap.objs.size=_
     rw [pl]
     simp
    ·obtain ⟨o,e,d⟩:=T.obj _ _ st6 b hb
     exact (I10.pin (b,o) (hA6 _ (hA6 _ (qBi hb e)))).2.1
 exact codeAny_compStart_list (loop _ rfl) (T.self _ 0 _ _ _ st0 (loop _ rfl))
end
end L2
namespace L2
open PySem PySem.Spec PyProof.Rows
def tComp (sub:List (Option Nat)) (wi:TI) (g:TG) (tt:TT) (te:TE):TE:=fun σ H Q=>wi σ H fun J H1 =>
 qEj J (subσ sub σ) g tt te (fun ys H'=>∀ r,H' r=none->Q (.ref r) (upd H' r (.lst ys))) H1
section
variable {X:Cx} {target iter elt:Expr} {ifs:List Expr} {scope:Scope} {pos:Pos} {N':List Str} {sub:List (Option Nat)} {wi:TI} {g:TG} {tt:TT} {te:TE}
theorem clos_of {pins:List (Addr×Obj)} {σ:St} {H:Hp} {s:Shared} (I:Inv X pins σ H s) (O:CmpOk X.N X.env.scope N' scope sub):closureFor scope X.env=pure (qB0 X.env.cells scope.names []) :=
 closureFor_eq fun x hx hf=>I.ok.has x.1 (by rcases O.free x hx hf with z | z;exact .inl z;exact .inr z)
theorem qEv (O:CmpOk X.N X.env.scope N' scope sub):∀ y∈scope.names,y.2 = .local->scope.names.lookup y.1=some .local:=fun y hy e=>by
 obtain ⟨n,k⟩:=y
 cases e
 exact qBd O.nd hy
theorem pe_comp (hc:X.calm=true) (O:CmpOk X.N X.env.scope N' scope sub) (hi:PI X target iter wi)
  (B:∀ C s H fp,PG (qBh X scope N' C s H fp) target g/\PTs (qBh X scope N' C s H fp) ifs tt/\PE (qBh X scope N' C s H fp) elt te)
  (hs:∀ x,foldedSetIterable iter X.env x=pure x:=by intro _;rfl):PE X (.ListComp elt [⟨target,iter,ifs,0⟩] scope pos) (tComp sub wi g tt te):=by
 intro pins s σ H Q I h
 rw [eval_ListComp]
 refine wpAny_comprehension_free (use:=none) rfl hs (clos_of I O) O.kind (qEv O) (thn (hi pins s σ H _ I h) fun v s1 h1=>thn h1 fun itv s2 h2=>?_)
 obtain ⟨it,fp,tn,J,H2,e,I2,T,st2,f2,rd⟩:=h2
 subst e
 refine comp_core (RR:=fun acc C=>compPost (model X.prog X.w) X.A X.xe none (EP X pins σ Q) acc C) hc I2 O T st2 f2 B rd fun acc C ys H' s' I' fC hn na q=>?_
 obtain ⟨m,hn⟩:=hn
 obtain ⟨f0,f1,f3,f4,f5,f6⟩:=fC
 refine ⟨m,hn,fun h' sb=>?_⟩
 exact ⟨.ref acc,upd H' acc (.lst ys),I'.turned (t':=s'.toks) (it:=C) (fun b o hb e=>(sb.2 b hb).trans e) f0 f1 f4 f5 f6,rfl,q acc na⟩
theorem ps_comp {i:Nat} {y:Str} {py spos:Pos} (hc:X.calm=true) (O:CmpOk X.N X.env.scope N' scope sub) (hi:PI X target iter wi)
  (B:∀ C s H fp,PG (qBh X scope N' C s H fp) target g/\PTs (qBh X scope N' C s H fp) ifs tt/\PE (qBh X scope N' C s H fp) elt te)
  (hN:X.N.Nodup) (hy:X.N[i]?=some y) (hx:Loc X.env.scope y)
  (hsw:swapsWith (.ListComp elt [⟨target,iter,ifs,0⟩] scope pos) (some (.Name y py)) spos.line X.env=pure true)
  (hs:∀ x,foldedSetIterable iter X.env x=pure x:=by intro _;rfl) (hf:X.fn y=true\/X.env.scope.names.lookup y=some .local:=by first | exact .inl rfl | exact .inr rfl | assumption) :
  PS X (.Assign [.Name y py] (.ListComp elt [⟨target,iter,ifs,0⟩] scope pos) spos) (tAsg (tComp sub wi g tt te) (gName i)):=by
 intro pins s σ H D I h
 rw [exec_Assign_Name_used _ _ _ _ hsw]
 refine wpAny_bind (wpAny_standAt (wpAny_bind ?_))
 show wpAny _ _ (do let _ ← comprehension (.ListComp elt [⟨target,iter,ifs,0⟩] scope pos) scope X.env _ (newList []) false (eval iter X.env) (some (assign (.Name y py) X.env))) _ _ s
 refine wpAny_bind (wpAny_mono (wpAny_comprehension_free (use:=some (assign (.Name y py) X.env)) (Q:=fun _ s'=>SP X pins D .next s') rfl hs (clos_of I O) O.kind (qEv O)
  (thn (hi pins s σ H _ I h) fun v s1 h1=>thn h1 fun itv s2 h2=>?_)) (fun _ s' hq=>wpAny_pure (wpAny_pure hq)) fun _ _ e=>e)
 obtain ⟨it,fp,tn,J,H2,e,I2,T,st2,f2,rd⟩:=h2
 subst e
 refine comp_core (RR:=fun acc C=>compPost (model X.prog X.w) X.A X.xe (some (assign (.Name y py) X.env)) (fun _ s'=>SP X pins D .next s') acc C) hc I2 O T st2 f2 B rd fun acc C ys H' s' I' fC hn na q=>?_
 obtain ⟨m,hn⟩:=hn
 obtain ⟨f0,f1,f3,f4,f5,f6⟩:=fC
 show wpAny _ _ (assign (.Name y py) X.env (.ref acc)) _ _ s'
 refine wpAny_assign_Name (qE1 (v:=.ref acc) I' hN hy hx rfl (fun s'' I'' ⟨a,sb,ha⟩=>?_) hf)
 have nCa:C≠a:=by
  rcases ha with z | z
  ·rw [z];exact f1
  ·exact fun e=>f5 _ _ z e.symm
 refine ⟨m,hn.sameBut sb nCa,fun h' sb'=>?_⟩
 exact ⟨_,upd H' acc (.lst ys),I''.turned (t':=s''.toks) (it:=C) (fun b o hb e=>(sb'.2 b hb).trans e) f0 f1 f4 f5 f6,q acc na⟩
end
section
variable {σ0:St} {g:TG} {tt:TT} {te:TE} {Q:List V->Hp->Prop} {H1:Hp}
def Nxt (n i:Nat) (Pv:Nat->List V->Hp->Prop) (ys:List V) (H:Hp):Prop:=∃ m',m'<n - i/\m'=n - (i+1)/\i+1<=n/\Pv (i+1) ys H
theorem nxt {n i:Nat} {Pv:Nat->List V->Hp->Prop} {ys:List V} {H:Hp} (hi:i<n) (h:Pv (i+1) ys H):Nxt n i Pv ys H:=⟨_,by omega,rfl,hi,h⟩
theorem qAr {K:PySem.W.Frag} {a:Addr} {xs:List V} (Pv:Nat->List V->Hp->Prop) (h0:Pv 0 [] H1) (hl:∀ i ys H,i<=xs.length->Pv i ys H->SqL K H a xs)
  (hs:∀ i x ys H,xs[i]?=some x->Pv i ys H->g x σ0 H fun σ2 H2=>Sle σ0 σ2/\tt σ2 H2 fun b H3=>if b=true then te σ2 H3 (fun v H4=>ys.length<sizeLine/\Nxt xs.length i Pv (ys++[v]) H4) else Nxt xs.length i Pv ys H3)
  (hd:∀ ys H,Pv xs.length ys H->Q ys H):qEj (Itl K a) σ0 g tt te Q H1:=by
 refine ⟨fun i m ys H=>m=xs.length - i/\i<=xs.length/\Pv i ys H,⟨xs.length,by simp,hAt _,h0⟩,?_⟩
 rintro i m ys H ⟨rfl,hi,p⟩
 have q:=hl i ys H hi p
 by_cases hlt:i<xs.length
 ·refine .inr ⟨⟨xs,xs[i],q,by simp [hlt]⟩,fun x H' y=>?_⟩
  obtain ⟨e,y⟩:=y
  subst e
  exact hs i x ys _ (y xs q) p
 ·have e:i=xs.length:=by omega
  subst e
  exact .inl ⟨⟨xs,q,hA5 _⟩,hd ys H p⟩
theorem turns_range {lo:Int} {n:Nat} (Pv:Nat->List V->Hp->Prop) (h0:Pv 0 [] H1)
  (hs:∀ i ys H,i<n->Pv i ys H->g (.int (lo+i)) σ0 H fun σ2 H2=>Sle σ0 σ2/\tt σ2 H2 fun b H3=>if b=true then te σ2 H3 (fun v H4=>ys.length<sizeLine/\Nxt n i Pv (ys++[v]) H4) else Nxt n i Pv ys H3)
  (hd:∀ ys H,Pv n ys H->Q ys H):qEj (Itr lo n) σ0 g tt te Q H1:=by
 refine ⟨fun i m ys H=>m=n - i/\i<=n/\Pv i ys H,⟨n,by simp,hAt _,h0⟩,?_⟩
 rintro i m ys H ⟨rfl,hi,p⟩
 by_cases hlt:i<n
 ·refine .inr ⟨hlt,fun x H' y=>?_⟩
  obtain ⟨e,y⟩:=y
  subst e y
  exact hs i ys _ hlt p
 ·have e:i=n:=by omega
  subst e
  exact .inl ⟨hA5 _,hd ys H p⟩
end
end L2
namespace L2
open PySem PySem.Spec PyProof.Rows PySem.SeqAt
mutual
inductive DR (K:PySem.W.Frag) (H:Hp):V->PyData->Prop
 | non:DR K H .non .none
 | bl (b:Bool):DR K H (.bl b) (.bool b)
 | int (i:Int):DR K H (.int i) (.int i)
 | str (x:Str):DR K H (.str x) (.str x)
 | lst {a:Addr} {xs:List V} {ds:List PyData}:SqL K H a xs->DRs K H xs ds->DR K H (.ref a) (.list ds)
 | tup {a:Addr} {xs:List V} {ds:List PyData}:SqT K H a xs->DRs K H xs ds->DR K H (.ref a) (.tuple ds)
inductive DRs (K:PySem.W.Frag) (H:Hp):List V->List PyData->Prop
 | nil:DRs K H [] []
 | cons {v:V} {d:PyData} {vs:List V} {ds:List PyData}:DR K H v d->DRs K H vs ds->DRs K H (v :: vs) (d :: ds)
end
section
variable {X:Cx} {pins:List (Addr×Obj)} {σ:St} {H:Hp} {s:Shared}
mutual
theorem DR.reads (I:Inv X pins σ H s):∀ {v:V} {d:PyData} {u:Value},DR X.K H v d->qBg v u->∃ as,Reads s.heap u d as
 | _,_,_,.non,r=>by cases r;exact ⟨_,.none⟩
 | _,_,_,.bl b,r=>by cases r;exact ⟨_,.bool b⟩
 | _,_,_,.int i,r=>by obtain ⟨t,rfl⟩:=r;exact ⟨_,.int i t⟩
 | _,_,_,.str x,r=>by obtain ⟨t,rfl⟩:=r;exact ⟨_,.str x t⟩
 | _,_,_,.lst hq hd,r=>by
  cases r
  obtain ⟨its,rv,⟨o,n,e,c,_,dt⟩,_⟩:=I.list hq
  obtain ⟨as,ra⟩:=DRs.reads I hd rv
  exact ⟨_,.list e c dt ra⟩
 | _,_,_,.tup hq hd,r=>by
  cases r
  obtain ⟨its,rv,⟨o,e,c,n,dt⟩,_⟩:=I.tuple hq
  obtain ⟨as,ra⟩:=DRs.reads I hd rv
  exact ⟨_,.tuple e c dt ra⟩
theorem DRs.reads (I:Inv X pins σ H s):∀ {vs:List V} {ds:List PyData} {us:List Value},DRs X.K H vs ds->qA6 vs us->∃ as,ReadsAll s.heap us ds as
 | _,_,_,.nil,r=>by cases r;exact ⟨_,.nil⟩
 | _,_,_,.cons h t,r=>by
  cases r with
  | cons r rr =>
   obtain ⟨a1,q1⟩:=DR.reads I h r
   obtain ⟨a2,q2⟩:=DRs.reads I t rr
   exact ⟨_,.cons q1 q2⟩
end
end
def rEqD (K:PySem.W.Frag) (neg:Bool):R2:=fun x y H Q=>∃ dx dy,DR K H x dx/\DR K H y dy/\shaped dx=true/\shaped dy=true/\Q (.bl (if neg then !PyData.eqv dx dy else PyData.eqv dx dy)) H
section
variable {X:Cx}
theorem op_eqD (hu:X.A.units+64<cLine):OpR X (compareOp .Eq) (rEqD X.K false):=by
 intro pins s σ H x y v u Q I rx ry h
 obtain ⟨dx,dy,hx,hy,sx,sy,q⟩:=h
 obtain ⟨a1,r1⟩:=DR.reads I hx rx
 obtain ⟨a2,r2⟩:=DR.reads I hy ry
 exact eq_dataH r1 r2 sx sy hu ⟨.bl (PyData.eqv dx dy),H,I,rfl,q⟩
theorem qGd (hu:X.A.units+64<cLine):OpR X (compareOp .NotEq) (rEqD X.K true):=by
 intro pins s σ H x y v u Q I rx ry h
 obtain ⟨dx,dy,hx,hy,sx,sy,q⟩:=h
 obtain ⟨a1,r1⟩:=DR.reads I hx rx
 obtain ⟨a2,r2⟩:=DR.reads I hy ry
 exact ne_dataH r1 r2 sx sy hu ⟨.bl (!PyData.eqv dx dy),H,I,rfl,q⟩
theorem qCe {ss:List Str}:∀ {us:List Value},qA6 (ss.map V.str) us->StrsAre us ss:=by
 induction ss with
 | nil=>intro us r;cases r;exact .nil
 | cons a l ih =>
  intro us r
  cases r with
  | cons r rr =>
   obtain ⟨t,rfl⟩:=r
   exact .cons a t (ih rr)
theorem qGe {ss:List Str}:∀ {us:List Value},StrsAre us ss->qA6 (ss.map V.str) us:=by
 induction ss with
 | nil=>intro us r;cases r;exact .nil
 | cons a l ih =>
  intro us r
  cases r with
  | cons _ _ r=>exact .cons ⟨_,rfl⟩ (ih r)
theorem qEi:qBq X (.builtin "sorted") (fun xs H Q=>∃ p ss,xs=[.ref p]/\SqL X.K H p (ss.map V.str)/\ss.length<64/\∀ r ss',H r=none->ss'.Perm ss->sortedS ss'=true->Q (.ref r) (upd H r (.lst (ss'.map V.str)))):=by
 intro pins s σ H xs us Q I r h
 obtain ⟨p,ss,rfl,hq,h64,q⟩:=h
 obtain ⟨u,rfl,rx⟩:=qCa r
 cases rx
 obtain ⟨its,rv,pl,hz⟩:=I.list hq
 have hl:=rv.length
 rw [hA1] at hl
 refine sorted_strs pl.isList (qCe rv) (by omega) fun out ss' h1 h2 h3=>?_
 obtain ⟨e,he⟩:=sortedAll_at s.heap its out
 have nz:H (s.heap.objs.size+1)=none:=I.hok.fresh (hAx _)
 refine ⟨.ref (s.heap.objs.size+1),_,I.laid (t':=s.toks) (a:=s.heap.objs.size+1) (o:=.lst (ss'.map V.str)) (fun b o eb=>sortedAll_old eb) (hAx _) ?_,rfl,q _ ss' nz h2 h3⟩
 refine ⟨?_,out.toList,e,qGe h1,by simpa using he⟩
 rw [hA1,h2.length_eq]
 exact hBh (qAh (by omega))
end
end L2
namespace L2
open PySem PySem.Spec PyProof.Rows
section
variable {X:Cx}
theorem sl_str:SlR X (fun x lo hi H Q=>∃ z:Str,x = .str z/\z.length<=sizeLine/\Q (.str (Txt.slice z lo hi)) H):=by
 intro pins s σ H x v vl vu lo hi sl Q I rx hs pl pu h
 obtain ⟨z,rfl,hz,q⟩:=h
 obtain ⟨t,rfl⟩:=rx
 refine ⟨"str",_,F.slot_str_getitem.lookup,typeIs_str _ _ _,?_⟩
 obtain ⟨o,ho,hc,hd⟩:=hs
 have fin:∀ t' k,EP X pins σ Q (.str (Txt.slice z lo hi) t') { s with toks:=k }:=fun t' k=>⟨.str (Txt.slice z lo hi),H,I.tok k,⟨t',rfl⟩,q⟩
 cases pl with
 | none =>
  cases pu with
  | none=>exact wpAny_getItem_str_slice (l:=none) (u:=none) (st:=none) ⟨o,ho,hc,hd⟩ rfl (post_val_or_str ⟨hAv (Txt.slice_le z _ _) hz,fin⟩)
  | int j uj=>exact wpAny_getItem_str_slice (l:=none) (u:=some (j,uj)) (st:=none) ⟨o,ho,hc,hd⟩ rfl (post_val_or_str ⟨hAv (Txt.slice_le z _ _) hz,fin⟩)
 | int i ui =>
  cases pu with
  | none=>exact wpAny_getItem_str_slice (l:=some (i,ui)) (u:=none) (st:=none) ⟨o,ho,hc,hd⟩ rfl (post_val_or_str ⟨hAv (Txt.slice_le z _ _) hz,fin⟩)
  | int j uj=>exact wpAny_getItem_str_slice (l:=some (i,ui)) (u:=some (j,uj)) (st:=none) ⟨o,ho,hc,hd⟩ rfl (post_val_or_str ⟨hAv (Txt.slice_le z _ _) hz,fin⟩)
theorem qFr:qBq X (.builtin "isinstance") (fun xs H Q=>∃ x t c b,xs=[x,.ty c]/\TyOf X.K H x t/\PySem.W.kitOne X.K t (.type c)=some b/\Q (.bl b) H):=by
 intro pins s σ H xs us Q I r h
 obtain ⟨x,t,c,b,rfl,ty,e,q⟩:=h
 obtain ⟨u,w',rfl,rx,rc⟩:=vals2 r
 cases (show w'=Value.type c from rc)
 exact isinst_ok I rx ty e fun tk=>⟨.bl b,H,I.tok tk,rfl,q⟩
end
end L2
namespace L2
open PySem PySem.Spec PyProof.Rows
section
variable {X:Cx}
theorem getD_all (bs:List Bool) (d:Bool):(List.range bs.length).all (fun i=>bs.getD i d)=bs.all id:=by
 induction bs with
 | nil=>rfl
 | cons b r ih =>
  rw [hAy,List.range_succ_eq_map,List.all_cons,List.all_map,List.all_cons]
  have e:((fun i=>(b :: r).getD i d)∘Nat.succ)=fun i=>r.getD i d:=by
   funext i;simp
  rw [e,ih]
  simp
theorem getD_any (bs:List Bool) (d:Bool):(List.range bs.length).any (fun i=>bs.getD i d)=bs.any id:=by
 induction bs with
 | nil=>rfl
 | cons b r ih =>
  rw [hAy,List.range_succ_eq_map,hCh,List.any_map,hCh]
  have e:((fun i=>(b :: r).getD i d)∘Nat.succ)=fun i=>r.getD i d:=by
   funext i;simp
  rw [e,ih]
  simp
theorem truths {P:Program} {w:World} {A:Around} {bs:List Bool} {its:List Value} (rv:qA6 (bs.map V.bl) its) (d:Bool):TruthOf P w A (fun i v=>its.toArray[i]?=some v) (fun i=>bs.getD i d):=by
 intro i v s Q E hv hQ
 have hv':its[i]?=some v:=by simpa using hv
 have hi:i<its.length:=(hAp.mp hv').1
 have hl:=rv.length
 rw [hA1] at hl
 have hb:(bs.map V.bl)[i]?=some (V.bl bs[i]):=by rw [hAj,hA3 (by omega)];rfl
 obtain ⟨u,hu,ru⟩:=rv.get hb
 rw [hv'] at hu
 have e:v=Value.bool bs[i]:=(hAs hu).trans ru
 rw [e]
 have e2:bs.getD i d=bs[i]:=by rw [hAe,hA3 (by omega)];rfl
 have hQ:Q (bs.getD i d) s:=hQ
 rw [e2] at hQ
 exact wpAny_truthy_bool hQ
theorem call_allB (hc:X.calm=true):qBq X (.builtin "all") (fun xs H Q=>∃ (p:Addr) (bs:List Bool),xs=[.ref p]/\SqL X.K H p (bs.map V.bl)/\Q (.bl (bs.all id)) H):=by
 intro pins s σ H xs us Q I r h
 obtain ⟨p,bs,rfl,hq,q⟩:=h
 obtain ⟨u,rfl,rx⟩:=qCa r
 cases rx
 obtain ⟨its,rv,pl,hz⟩:=I.list hq
 have hl:=rv.length
 rw [hA1] at hl
 have hne:p≠s.heap.objs.size:=by
  obtain ⟨o,n,e,_⟩:=pl
  exact hAk (Heap.lt_size e)
 have hh:=I.ok.hd hc
 refine call_all_walk (wpAny_pyIter_list pl.isList ?_)
 refine ⟨s.heap.objs.size,_,_,_,_,_,fun i=>bs.getD i true,rfl,Walks.list (by exact hh) _ p hne its.toArray,⟨⟨_,Heap.get?_push_size _ rfl,rfl,rfl⟩,pl.isList.at fun o e=>Heap.get?_push_of_some _ e⟩,truths rv true,fun h' tk hk=>?_⟩
 refine ⟨.bl (bs.all id),H,I.kept (t':=tk) fun b o e=>hk b o ?_ (Heap.get?_push_of_some _ e),?_,q⟩
 ·intro z
  rw [hA7] at z
  exact absurd (Heap.lt_size e) (by rw [z];exact hC0 _)
 ·show Value.bool _=Value.bool _
  rw [hAd,<-hl,getD_all]
theorem call_anyB (hc:X.calm=true):qBq X (.builtin "any") (fun xs H Q=>∃ (p:Addr) (bs:List Bool),xs=[.ref p]/\SqL X.K H p (bs.map V.bl)/\Q (.bl (bs.any id)) H):=by
 intro pins s σ H xs us Q I r h
 obtain ⟨p,bs,rfl,hq,q⟩:=h
 obtain ⟨u,rfl,rx⟩:=qCa r
 cases rx
 obtain ⟨its,rv,pl,hz⟩:=I.list hq
 have hl:=rv.length
 rw [hA1] at hl
 have hne:p≠s.heap.objs.size:=by
  obtain ⟨o,n,e,_⟩:=pl
  exact hAk (Heap.lt_size e)
 have hh:=I.ok.hd hc
 refine call_any_walk (wpAny_pyIter_list pl.isList ?_)
 refine ⟨s.heap.objs.size,_,_,_,_,_,fun i=>bs.getD i true,rfl,Walks.list (by exact hh) _ p hne its.toArray,⟨⟨_,Heap.get?_push_size _ rfl,rfl,rfl⟩,pl.isList.at fun o e=>Heap.get?_push_of_some _ e⟩,truths rv true,fun h' tk hk=>?_⟩
 refine ⟨.bl (bs.any id),H,I.kept (t':=tk) fun b o e=>hk b o ?_ (Heap.get?_push_of_some _ e),?_,q⟩
 ·intro z
  rw [hA7] at z
  exact absurd (Heap.lt_size e) (by rw [z];exact hC0 _)
 ·show Value.bool _=Value.bool _
  rw [hAd,<-hl,getD_any]
end
end L2
namespace L2
open PySem PySem.Spec PyProof.Rows
theorem orstand_led (t:SetTable) (n:Nat):(t.orStandIn n).led=t.led:=by
 unfold SetTable.orStandIn
 split <;> rfl
theorem laynew_led (t:SetTable) (es:Array (Int×Value)) (h:Int) (x:Value):(layNew t es h x).2.1.led=t.led:=by
 unfold layNew
 split
 ·exact orstand_led _ _
 ·rfl
theorem relay_led (t:SetTable) (es:Array (Int×Value)) (k:Nat):(relayAll t es k).2.1.led=t.led:=by
 unfold relayAll
 split
 ·rename_i u order e
  have eu:u.led=t.led:=by
   unfold SetTable.relaid SetTable.laid at e
   cases hc:SetTable.layClean (SetTable.sizeAbove k - 1) (es.map (·.1)) with
   | none=>rw [hc] at e;cases e
   | some o =>
    rw [hc] at e
    injection e with e
    injection e with e1 e2
    rw [<-e1]
  dsimp only
  split
  ·exact eu
  ·rfl
 ·rfl
theorem relay_plain (t:SetTable) (es:Array (Int×Value)) (k:Nat) (hp:t.plain=false):(relayAll t es k).2.1.plain=false:=by
 unfold relayAll
 split
 ·rename_i u order e
  have eu:u.plain=t.plain:=by
   unfold SetTable.relaid SetTable.laid at e
   cases hc:SetTable.layClean (SetTable.sizeAbove k - 1) (es.map (·.1)) with
   | none=>rw [hc] at e;cases e
   | some o =>
    rw [hc] at e
    injection e with e
    injection e with e1 e2
    rw [<-e1]
  dsimp only
  split
  ·exact eu.trans hp
  ·rfl
 ·rfl
def qA8 (P:Program) (w:World) (h:Heap) (a:Addr) (ss:List Str):Prop :=
 ∃ (es:Array (Int×Value)) (ep:Nat) (t:SetTable),h.get? a=some { cls:=.type "set",dict:=none,data:=.set es ep t,slots:=#[] }/\ElemsOf (PySem.strKind P w) es.toList /\
  StrsAre (es.toList.map (·.2)) ss/\es.size<scanBound/\t.fits es.size=true/\t.led=!w.params.followText "set-order"/\(es.size≠0->t.plain=false)
theorem strs_mem {x:Str}:∀ {vs:List Value} {ss:List Str},StrsAre vs ss->((∃ v∈vs,Value.isStrOf x v=true)↔x∈ss)
 | _,_,.nil=>by simp
 | _,_,.cons y t r=>by
  have ih:=strs_mem (x:=x) r
  have hy:Value.isStrOf x (.str y t)=true↔x=y:=by
   constructor
   ·intro h
    obtain ⟨u,e⟩:=Value.isStrOf_shape h
    cases e;rfl
   ·rintro rfl;simp [Value.isStrOf]
  constructor
  ·rintro ⟨v,hv,hp⟩
   rcases hA9.mp hv with rfl | hv
   ·rw [hy.mp hp];exact hA2
   ·exact hA4 _ (ih.mp ⟨v,hv,hp⟩)
  ·intro h
   rcases hA9.mp h with h | h
   ·exact ⟨_,hA2,hy.mpr h⟩
   ·obtain ⟨v,hv,hp⟩:=ih.mpr h
    exact ⟨v,hA4 _ hv,hp⟩
theorem strs_perm {es es1:List (Int×Value)} {ss:List Str} {k:Int} {x:Str} {t:Tok} (hS:StrsAre (es.map (·.2)) ss) (p:es1.Perm (es++[(k,.str x t)])):∃ ss1,StrsAre (es1.map (·.2)) ss1/\ss1.Perm (ss++[x]):=by
 have hall:∀ v,v∈es1.map (·.2)->∃ y u,v = .str y u:=by
  intro v hv
  obtain ⟨e,he,rfl⟩:=hAb.mp hv
  rcases hAf.mp (p.mem_iff.mp he) with z | z
  ·exact hS.all _ (hB6 z)
  ·rw [hA7] at z;subst z;exact ⟨x,t,rfl⟩
 refine ⟨_,strsAre_map _ hall,?_⟩
 have q:=(p.map (·.2)).map strOf
 rw [hAa,hAa,hS.strs] at q
 exact q
theorem qDy {es es1:List (Int×Value)} {ss:List Str} (hS:StrsAre (es.map (·.2)) ss) (p:es1.Perm es):∃ ss1,StrsAre (es1.map (·.2)) ss1/\ss1.Perm ss:=by
 have hall:∀ v,v∈es1.map (·.2)->∃ y u,v = .str y u:=by
  intro v hv
  obtain ⟨e,he,rfl⟩:=hAb.mp hv
  exact hS.all _ (hB6 (p.mem_iff.mp he))
 refine ⟨_,strsAre_map _ hall,?_⟩
 have q:=(p.map (·.2)).map strOf
 rw [hS.strs] at q
 exact q
section
variable {P:Program} {w:World} {A:Around} {E:Value->Shared->Prop} {s:Shared} {a:Addr} {ss:List Str}
theorem qF3 {es es':Array (Int×Value)} {ep:Nat} {t t':SetTable} (ho:s.heap.get? a=some { cls:=.type "set",dict:=none,data:=.set es ep t,slots:=#[] }) :
  (s.heap.update a (Obj.putSet es' t')).get? a=some { cls:=.type "set",dict:=none,data:=.set es' (ep+1) t',slots:=#[] }:=by
 have q:=Heap.get?_update_self (Obj.putSet es' t') ho (by rw [putSet_of es' t' rfl];rfl)
 rw [putSet_of es' t' rfl] at q
 exact q
theorem tset_tail {g:Bool->Sem Unit} (hg:∀ (b:Bool) (s1:Shared) (Q':Unit->Shared->Prop),Q' () s1->wpAny (model P w) A (g b) Q' E s1) {es es1:Array (Int×Value)} {ep:Nat} {t t2:SetTable} {ss1:List Str}
  (ho:s.heap.get? a=some { cls:=.type "set",dict:=none,data:=.set es ep t,slots:=#[] }) (e1:ElemsOf (PySem.strKind P w) es1.toList) (e2:StrsAre (es1.toList.map (·.2)) ss1) (e3:es1.size<scanBound) (e4:t2.fits es1.size=true)
  (e5:t2.led=!w.params.followText "set-order") (e6:t2.plain=false) {wasD:Bool} {R:Option Bool->Shared->Prop} (h:∀ h' ss',Heap.SameBut a s.heap h'->qA8 P w h' a ss'->ss'.Perm ss1->R (some true) { s with heap:=h' }) :
  wpAny (model P w) A (do
    storeSet a es1 t2
    if (!wasD && t2.tooFull)=true then do
      g (relayAll t2 es1 (SetTable.grown es1.size)).2.2
      storeSet a (relayAll t2 es1 (SetTable.grown es1.size)).1 (relayAll t2 es1 (SetTable.grown es1.size)).2.1
      pure (some true)
     else pure (some true)) R E s:=by
 refine wpAny_bind (wpAny_storeSet_of ho rfl ?_ (fits_of_scanBound e3))
 have o1:(s.heap.update a (Obj.putSet es1 t2)).get? a=_:=qF3 (s:=s) ho
 have b1:=Heap.SameBut.update s.heap a (Obj.putSet es1 t2)
 split
 ·have p:=relayAll_perm t2 es1 (SetTable.grown es1.size)
  have f:=relayAll_fits t2 es1 (SetTable.grown es1.size)
  have l:=relay_led t2 es1 (SetTable.grown es1.size)
  have pl:=relay_plain t2 es1 (SetTable.grown es1.size) e6
  generalize relayAll t2 es1 (SetTable.grown es1.size)=Rl at p f l pl ⊢
  obtain ⟨es2,t3,gv⟩:=Rl
  dsimp only at p f l pl ⊢
  have z2:es2.size=es1.size:=by rw [<-hB2,p.length_eq,hB2]
  obtain ⟨ss2,q1,q2⟩:=qDy e2 p
  refine wpAny_bind (hg _ _ _ (wpAny_bind (wpAny_storeSet_of o1 rfl ?_ (fits_of_scanBound (by rw [z2];exact e3)))))
  have o2:((s.heap.update a (Obj.putSet es1 t2)).update a (Obj.putSet es2 t3)).get? a=_:=qF3 (s:={ s with heap:=s.heap.update a (Obj.putSet es1 t2) }) o1
  exact wpAny_pure (h _ ss2 (b1.trans (Heap.SameBut.update _ a _)) ⟨es2,_,t3,o2,e1.perm p,q1,by rw [z2];exact e3,f,l.trans e5,fun _=>pl⟩ q2)
 ·exact wpAny_pure (h _ ss1 b1 ⟨es1,_,t2,o1,e1,e2,e3,e4,e5,fun _=>e6⟩ (hCi _))
theorem tset_add {x:Str} {tk:Tok} {Q:Bool->Shared->Prop} (hS:qA8 P w s.heap a ss) (room:ss.length+1<scanBound)
  (h:∀ h' ss',Heap.SameBut a s.heap h'->qA8 P w h' a ss'->(if x∈ss then ss'=ss else ss'.Perm (ss++[x]))->Q (!decide (x∈ss)) { s with heap:=h' }) :
  wpAny (model P w) A (setAddHashed a (.str x tk) ((PySem.strKind P w).hash x)) Q E s:=by
 obtain ⟨es,ep,t,ho,e1,e2,e3,e4,e5,e6⟩:=hS
 have hk:(PySem.strKind P w).is x (.str x tk)=true:=strKind_is P w x tk
 have hsc:Value.scannable (.str x tk)=true:=rfl
 have hz:ss.length=es.size:=by rw [<-e2.strs,hA1,hA1,hB2]
 unfold setAddHashed setAddHashedIn
 refine wpAny_holding (wpAny_bind (wpAny_setState_of ho rfl e4 ?_))
 dsimp only
 rw [byScan_of hsc e3 e1,if_pos rfl]
 unfold setAddByScan
 refine wpAny_bind (wpAny_bind (wpAny_rule (wpAny_bind (wpAny_setScan_of hk ho rfl e4 e1 ?_))))
 cases hr:List.findIdx? (fun e=>(PySem.strKind P w).is x e.2) es.toList with
 | some j =>
  dsimp only
  obtain ⟨hj,hp,_⟩:=List.findIdx?_eq_some_iff_getElem.mp hr
  have hm:x∈ss:=(strs_mem e2).mp ⟨_,hB6 (hBf hj),hp⟩
  have q:=h s.heap ss (Heap.SameBut.refl a _) ⟨es,ep,t,ho,e1,e2,e3,e4,e5,e6⟩ (by rw [if_pos hm])
  rw [decide_eq_true hm] at q
  exact wpAny_pure (wpAny_pure q)
 | none =>
  dsimp only
  have hm:¬x∈ss:=fun z=>by
   obtain ⟨v,hv,hp⟩:=(strs_mem e2).mpr z
   obtain ⟨e,he,rfl⟩:=hAb.mp hv
   have q:=List.findIdx?_eq_none_iff.mp hr e he
   rw [show (PySem.strKind P w).is x e.2=true from hp] at q
   cases q
  have gw:∀ (b:Bool) (s1:Shared) (Q':Unit->Shared->Prop),Q' () s1->wpAny (model P w) A (match b with | true=>rule "set.scan.the-table-gave-way" | false=>pure ()) Q' E s1:=fun b s1 Q' hq=>by
   cases b
   ·exact wpAny_pure hq
   ·exact wpAny_rule hq
  have p:=layNew_perm t es ((PySem.strKind P w).hash x) (.str x tk)
  have f:=layNew_fits t es ((PySem.strKind P w).hash x) (.str x tk)
  have l:=laynew_led t es ((PySem.strKind P w).hash x) (.str x tk)
  generalize layNew t es ((PySem.strKind P w).hash x) (.str x tk)=L at p f l ⊢
  obtain ⟨es1,t1,wasD,gv⟩:=L
  dsimp only at p f l ⊢
  rw [hBq] at p
  have d1:ElemsOf (PySem.strKind P w) es1.toList:=(e1.push hk hsc).perm p
  obtain ⟨ss1,d2,d3⟩:=strs_perm e2 p
  have z1:es1.size=es.size+1:=by rw [<-hB2,p.length_eq,hAc,hB2];rfl
  have d4:es1.size<scanBound:=by rw [z1,<-hz];exact room
  have fin:∀ h' ss',Heap.SameBut a s.heap h'->qA8 P w h' a ss'->ss'.Perm ss1->Q true { s with heap:=h' }:=fun h' ss' b1 b2 b3=>by
   have q:=h h' ss' b1 b2 (by rw [if_neg hm];exact b3.trans d3)
   rw [decide_eq_false hm] at q
   exact q
  refine wpAny_bind (gw _ _ _ ?_)
  split
  ·rename_i hpl
   refine wpAny_bind ?_
   rw [hashByValue_scannable 8 hsc]
   refine wpAny_pure ?_
   refine tset_tail gw ho d1 d2 d4 (SetTable.fits_plain_off f) (l.trans e5) rfl fun h' ss' b1 b2 b3=>?_
   exact wpAny_pure (fin h' ss' b1 b2 b3)
  ·rename_i hpl
   refine wpAny_bind (wpAny_pure ?_)
   rw [if_pos rfl]
   refine tset_tail gw ho d1 d2 d4 f (l.trans e5) (by simpa using hpl) fun h' ss' b1 b2 b3=>?_
   exact wpAny_pure (fin h' ss' b1 b2 b3)
end
end L2
namespace L2
open PySem PySem.Spec PyProof.Rows
theorem qA8.at {P:Program} {w:World} {h h':Heap} {a:Addr} {ss:List Str} (x:qA8 P w h a ss) (k:∀ o,h.get? a=some o->h'.get? a=some o):qA8 P w h' a ss:=by
 obtain ⟨es,ep,t,ho,r⟩:=x
 exact ⟨es,ep,t,k _ ho,r⟩
def Once (val:Nat->Str) (i:Nat) (ss:List Str):Prop:=ss.Nodup/\ss.length<=i/\∀ x,x∈ss↔∃ j,j<i/\val j=x
theorem Once.zero (val:Nat->Str):Once val 0 []:=⟨hC9,hA5 _,fun x=>by simp⟩
theorem Once.next {val:Nat->Str} {i:Nat} {ss ss':List Str} (h:Once val i ss) (e:if val i∈ss then ss'=ss else ss'.Perm (ss++[val i])):Once val (i+1) ss':=by
 obtain ⟨h1,h2,h3⟩:=h
 by_cases hm:val i∈ss
 ·rw [if_pos hm] at e
  subst e
  refine ⟨h1,by omega,fun x=>(h3 x).trans ⟨fun ⟨j,a,b⟩=>⟨j,by omega,b⟩,fun ⟨j,a,b⟩=>?_⟩⟩
  by_cases hj:j<i
  ·exact ⟨j,hj,b⟩
  ·have:j=i:=by omega
   subst this
   subst b
   exact (h3 _).mp hm
 ·rw [if_neg hm] at e
  refine ⟨e.nodup_iff.mpr ?_,?_,fun x=>?_⟩
  ·rw [hC8]
   exact ⟨h1,by simp,fun y hy z hz=>by rw [hA7] at hz;subst hz;rintro rfl;exact hm hy⟩
  ·rw [e.length_eq,hAc]
   simpa using h2
  ·rw [e.mem_iff,hAf,h3 x,hA7]
   constructor
   ·rintro (⟨j,a,b⟩ | rfl)
    ·exact ⟨j,by omega,b⟩
    ·exact ⟨i,by omega,rfl⟩
   ·rintro ⟨j,a,b⟩
    by_cases hj:j<i
    ·exact .inl ⟨j,hj,b⟩
    ·have:j=i:=by omega
     subst this
     exact .inr b.symm
section
variable {P:Program} {w:World} {A:Around} {R:Result->Shared->Prop} {I:Addr} {fp wr:List Addr} {G:Array GenState->Array GenState->Prop} {n:Nat} {Pv:Nat->Value->Prop} {St:Nat->Shared->Prop}
theorem tset_loop (W:WalksS P w A.in1 I fp wr G n Pv St) (S:Addr) (nS:S∉fp) (val:Nat->Str) (hv:∀ i v,Pv i v->∃ t,v = .str (val i) t) (nb:n+1<scanBound):∀ (k i:Nat) (s:Shared) (ss:List Str),n - i=k->i<=n->St i s->qA8 P w s.heap S ss->Once val i ss ->
  (∀ s' ss',Moved (S :: wr) G s s'->qA8 P w s'.heap S ss'->Once val n ss'->R (.ok (.ret .none)) s')->codeAny (model P w) A (.builtin "set.update.loop" ⟨[.ref S,.ref I],[]⟩) R s:=by
 have nw:S∉wr:=fun z=>nS (W.sub _ z)
 have sub:∀ b∈wr,b∈S :: wr:=fun b z=>hA4 _ z
 intro k
 induction k with
 | zero =>
  intro i s ss hk hi st hS ho r
  have e:i=n:=by omega
  subst e
  refine codeAny_builtin PyProof.Rows.F.entry_set_update_loop ?_
  rw [Around.under_plainId PyProof.Rows.F.plain_set_update_loop _]
  show wpAny _ A.in1 (pyNext (.ref I) >>= _) _ _ _
  refine wpAny_bind (W.done s _ _ st fun s1 m1=>wpAny_pure (r s1 ss (m1.mono sub) (hS.at fun o z=>m1.heap S o nw z) ho))
 | succ k ih =>
  intro i s ss hk hi st hS ho r
  have lt:i<n:=by omega
  refine codeAny_builtin PyProof.Rows.F.entry_set_update_loop ?_
  rw [Around.under_plainId PyProof.Rows.F.plain_set_update_loop _]
  show wpAny _ A.in1 (pyNext (.ref I) >>= _) _ _ _
  refine wpAny_bind (W.item i s _ _ lt st fun v s1 pv st1 m1=>?_)
  obtain ⟨t,rfl⟩:=hv i v pv
  have hS1:qA8 P w s1.heap S ss:=hS.at fun o z=>m1.heap S o nw z
  show wpAny _ A.in1 (holding [Value.str (val i) t] (setAdd S (.str (val i) t)) >>= _) _ _ s1
  refine wpAny_bind (wpAny_holding ?_)
  unfold setAdd
  refine wpAny_holding (wpAny_bind ((PySem.strKind P w).pyHash (strKind_is P w _ _) ?_))
  refine tset_add (s:={ s1 with toks:=s1.toks+1 }) hS1 (by have:=ho.2.1;omega) fun h2 ss2 sb2 hS2 q2=>?_
  refine wpAny_pure ⟨plainId_quiet PyProof.Rows.F.plain_set_update_loop _,ih (i+1) _ ss2 (by omega) lt (W.frame _ s1 _ _ st1 (hAx _) fun b hb o e=>?_) hS2 (ho.next q2) fun s3 ss3 m3 hS3 o3=>?_⟩
  ·rw [sb2.2 b (fun z:b=S=>nS (by rw [<-z];exact hb))];exact e
  ·refine r s3 ss3 (Moved.trans W.gtrans ((m1.mono sub).then_heap (hAx _) fun b o hb e=>?_) m3) hS3 o3
   rw [sb2.2 b (fun z:b=S=>hb (by rw [z];exact hA2))];exact e
end
section
variable {P:Program} {w:World} {A:Around} {E:Value->Shared->Prop} {s:Shared}
abbrev setO (w:World):Obj:={ cls:=.type "set",dict:=none,data:=.set #[] 0 (.fresh 0 0 (!w.params.followText "set-order")),slots:=#[] }
theorem setO_ok (P:Program) (w:World) {h:Heap} {a:Addr} (e:h.get? a=some (setO w)):qA8 P w h a []:=⟨#[],0,_,e,fun e he=>by simp at he,.nil,by show 0<scanBound;decide,by rfl,rfl,fun z=>absurd rfl z⟩
theorem code_setT (v:Value) {Q1:Value->Shared->Prop} (h:Q1 (.ref s.heap.objs.size) { s with heap:=s.heap.push (setO w) }):codeAny (model P w) A (.call (.builtin "set.__new__") ⟨[.type "set",v],[]⟩) (wants Q1 E) s:=by
 refine codeAny_of_tree ?_
 show wpAny _ A.in1 (do checkBuiltinCall "set.__new__" ⟨[.type "set",v],[]⟩;again (.builtin "set.__new__" ⟨[.type "set",v],[]⟩)) _ _ s
 refine wpAny_bind (wpAny_of_eq (PySem.F.newCall_set_1 v) (wpAny_pure ⟨plainId_quiet PySem.F.plain_set_new _,codeAny_builtin PySem.F.entry_set_new ?_⟩))
 rw [Around.under_plainId PySem.F.plain_set_new _]
 unfold Builtin.«set.__new__» Builtin.Frozenset.newClass
 have hsub:=sub_set_self
 obtain ⟨hp,g,d,tk,os⟩:=s
 dsimp only
 wp_walk
 refine wpAny_askSetting (wpAny_pure ?_)
 dsimp only
 simp only [newObj]
 exact wpAny_bind (wpAny_alloc (wpAny_pure (wpAny_pure h)))
theorem call_setT {l:Addr} {items:Array Value} {ss0:List Str} {Q:Value->Shared->Prop} (hh:A.handled=none) (hl:s.heap.IsList l items) (hi:StrsAre items.toList ss0) (hb:items.size+1<scanBound)
  (h:∀ (h':Heap) (tk:Nat) (ss:List Str),qA8 P w h' s.heap.objs.size ss->Once (fun i=>ss0.getD i default) items.size ss->(∀ b o,b<s.heap.objs.size->s.heap.get? b=some o->h'.get? b=some o)->Q (.ref s.heap.objs.size) { s with heap:=h',toks:=tk }) :
  wpAny (model P w) A (call (.type "set") [.ref l]) Q E s:=by
 obtain ⟨c,tl,hmro⟩:=hCb.mro
 have hmade:=hCb.made
 have hsub:=hCb.sub
 refine wpAny_call (codeAny_of_tree ?_)
 show wpAny _ _ (callAny (.type "set") _) _ _ _
 refine wpAny_pure ⟨Code.quiet_builtin _ (by decide +kernel),codeAny_builtin PySem.F.entry_type_call ?_⟩
 rw [Around.under_plain (weight_type_call_type "set" [.ref l] []) rfl]
 have h1:=hCb.notType
 have h2:=hCb.canCreate
 have hct:=PySem.F.typeCall_set_1 (.ref l)
 repeat (any_goals (first | assumption | wp_step))
 refine codeAny_mono (code_setT (.ref l) (E:=E) (Q1:=fun obj s1=>obj = .ref s.heap.objs.size/\s1={ s with heap:=s.heap.push (setO w) }) ⟨rfl,rfl⟩) fun r s1 hr=>?_
 cases r with
 | error e=>exact hr
 | ok fl =>
  cases fl with
  | ret obj =>
   obtain ⟨rfl,rfl⟩:=hr
   have hS:(s.heap.push (setO w)).get? s.heap.objs.size=some (setO w):=Heap.get?_push_size _ rfl
   have hT:Shared.TypeIs { s with heap:=s.heap.push (setO w) } (.ref s.heap.objs.size) "set":=⟨_,hS,rfl⟩
   have hli:=hCb.init.lookup
   have hbi:=hCb.init.bind (.ref s.heap.objs.size)
   repeat (any_goals (first | assumption | wp_step))
   refine codeAny_mono (codeAny_call_builtin (R:=wants (fun r s2=>r = .none/\∃ h' tk ss,s2={ s with heap:=h',toks:=tk }/\qA8 P w h' s.heap.objs.size ss/\Once (fun i=>ss0.getD i default) items.size ss /\
     (∀ b o,b<s.heap.objs.size->s.heap.get? b=some o->h'.get? b=some o)) E) hCb.init.plain PySem.F.entry_set_init (check_set_init_1 hT ?_)) fun r2 s2 hr2=>?_
   ·obtain ⟨ol,hol,hcl,nl,hdl⟩:=hl
    obtain ⟨ocls,odict,odata,oslots⟩:=ol
    simp only at hcl hdl
    subst hcl;subst hdl
    have hol':(s.heap.push (setO w)).get? l=some { cls:=.type "list",dict:=odict,data:=.seq items nl,slots:=oslots }:=Heap.get?_push_of_some _ hol
    have hsls:=PySem.F.sub_list_set
    have hslf:=PySem.F.sub_list_frozenset
    have hne:(Value.type "list" == Value.type "dict")=false:=by decide
    have hl1:(s.heap.push (setO w)).IsList l items:=⟨_,hol',rfl,nl,rfl⟩
    unfold Builtin.«set.__init__» noKeywords Builtin.Frozenset.updateFrom
    generalize hPI:pyIter=PI
    wp_walk
    subst hPI
    refine wpAny_pyIter_list hl1 (wpAny_bind (wpAny_runValue ?_))
    have lS:l<s.heap.objs.size:=Heap.lt_size hol
    have h3:A.in1.in1.in1.handled=none:=by simp [hh]
    have nI:l≠(s.heap.push (setO w)).objs.size:=by
     rw [Heap.size_push];exact hAk (hB8 lS)
    have nF:s.heap.objs.size∉[(s.heap.push (setO w)).objs.size,l]:=by
     rw [Heap.size_push];simp only [hA9,hA7,hCf,or_false,not_or]
     exact ⟨hAk (hBl _),hCd lS⟩
    have hval:∀ (i:Nat) (v:Value),items[i]?=some v->∃ t,v = .str ((fun i=>ss0.getD i default) i) t:=fun i v hv=>by
     have hv':items.toList[i]?=some v:=by rw [hAo];exact hv
     obtain ⟨x,t,rfl⟩:=hi.all v (hAr hv')
     refine ⟨t,?_⟩
     have e:=congrArg (fun z=>z[i]?) hi.strs
     simp only [hAj,hv'] at e
     show Value.str x t=Value.str (ss0.getD i default) t
     rw [hAe,<-e]
     rfl
    refine tset_loop ((Walks.list h3 _ l nI items).toS) s.heap.objs.size nF (fun i=>ss0.getD i default) hval hb (items.size - 0) 0 _ [] (by omega) (hAt _) ⟨⟨_,Heap.get?_push_size _ rfl,rfl,rfl⟩,(hl1.push _)⟩ (setO_ok P w (Heap.get?_push_of_some _ hS)) (Once.zero _) fun s' ss' hm hS' hO=>?_
    obtain ⟨h',g',d',tk',os'⟩:=s'
    cases (show g'=s.gens from hm.gens)
    cases (show d'=s.drawn from hm.drawn)
    cases (show os'=s.os from hm.os)
    show wpAny _ _ _ _ _ _
    refine wpAny_pure ?_
    show wpAny _ _ (ret Value.none) _ _ _
    refine wpAny_pure ⟨rfl,h',tk',ss',rfl,hS',hO,fun b o hb e=>?_⟩
    have b1:b≠s.heap.objs.size:=hAk hb
    have b2:b≠(s.heap.push (setO w)).objs.size:=by
     rw [Heap.size_push];exact hAk (hB8 hb)
    exact hm.heap b o (by simp only [hA9,hA7,hCf,or_false,not_or];exact ⟨b1,b2⟩) (Heap.get?_push_of_some _ (Heap.get?_push_of_some _ e))
   ·cases r2 with
    | error e=>exact hr2
    | ok fl2 =>
     cases fl2 with
     | ret r =>
      obtain ⟨rfl,h',tk,ss,rfl,hS',hO,hk'⟩:=hr2
      repeat (any_goals (first | assumption | wp_step))
      exact h _ _ _ hS' hO hk'
     | _=>exact hr2.elim
  | _=>exact hr.elim
end
end L2
namespace L2
open PySem PySem.Spec PyProof.Rows
namespace FS
theorem entry_set_iter':entryFor table "set.__iter__" = some Builtin.«frozenset.__iter__»:=entryFor_alias (id':="frozenset.__iter__") (by kernel_rfl) rfl (by decide +kernel) (by kernel_rfl)
theorem slot_sin:Slot "set_iterator" "__next__" "set_iterator.__next__":=.of (owner:="set_iterator") (n:="__next__") (by rw [typeLookup_type,builtinLookup_eq_fast];kernel_rfl) (by decide +kernel) (by decide +kernel) (by decide +kernel) (by first | exact .inl (by decide +kernel) | exact .inr (by decide +kernel)) (by rw [isSubtype_type];kernel_rfl)
theorem entry_sin:entryFor table "set_iterator.__next__" = some Builtin.«set_iterator.__next__»:=entryFor_of_tree (by kernel_rfl)
theorem owner_si:Manifest.owners.lookup (String.ofList ['r','o','t','a','r','e','t','i','_','t','e','s'].reverse)=some Manifest.sig_set_iterator:=by kernel_rfl
theorem args_sin (a:Value):argsOk "set_iterator.__next__" ⟨[a],[]⟩:=by
 unfold argsOk;rw [signature?_of (id:="set_iterator.__next__") (n:=['_','_','t','x','e','n','_','_']) (o:=['r','o','t','a','r','e','t','i','_','t','e','s']) (by kernel_rfl) owner_si];kernel_rfl
theorem slot_sii:Slot "set_iterator" "__iter__" "set_iterator.__iter__":=.of (owner:="set_iterator") (n:="__iter__") (by rw [typeLookup_type,builtinLookup_eq_fast];kernel_rfl) (by decide +kernel) (by decide +kernel) (by decide +kernel) (by first | exact .inl (by decide +kernel) | exact .inr (by decide +kernel)) (by rw [isSubtype_type];kernel_rfl)
theorem entry_sii:entryFor table "set_iterator.__iter__" = some Builtin.«dict_keyiterator.__iter__»:=entryFor_alias (id':="dict_keyiterator.__iter__") (by kernel_rfl) (by first | rfl | decide +kernel | (unfold String.splitOn;simp +decide [String.splitOnAux])) (by decide +kernel) (by kernel_rfl)
theorem args_sii (a:Value):argsOk "set_iterator.__iter__" ⟨[a],[]⟩:=by
 unfold argsOk;rw [signature?_of (id:="set_iterator.__iter__") (n:=['_','_','r','e','t','i','_','_']) (o:=['r','o','t','a','r','e','t','i','_','t','e','s']) (by kernel_rfl) owner_si];kernel_rfl
end FS
theorem qD7 {α:Type}:∀ (l:List α) (i:Nat) (x:α),l[i]?=some x->(x :: l.eraseIdx i).Perm l
 | [],i,x,h=>by simp at h
 | y :: l,0,x,h=>by simp at h;subst h;exact hCi _
 | y :: l,i+1,x,h=>by
  have q:=qD7 l i x (by simpa using h)
  rw [List.eraseIdx_cons_succ]
  exact (List.Perm.swap y x _).trans (q.cons y)
section
variable {M:Model} {A:Around} {E:Value->Shared->Prop} {s:Shared}
theorem wp_choose {src:Source} {n:Nat} {Q:Nat->Shared->Prop} (hn:n≠0) (h:∀ i d,i<n->Q i { s with drawn:=d }):wpAny M A (choose src n) Q E s:=fun Γ p _=>⟨hn,h _ _ (Nat.mod_lt _ (Nat.pos_of_ne_zero hn))⟩
theorem qEe {α:Type}:∀ (n:Nat) (xs:List α) (s:Shared) (Q:List α->Shared->Prop),xs.length=n->(∀ ys d,ys.Perm xs->Q ys { s with drawn:=d })->wpAny M A (drawOrder n xs) Q E s
 | 0,xs,s,Q,hl,h=>by
  have e:xs=[]:=hB1.mp hl
  subst e
  exact wpAny_pure (h [] s.drawn (hCi _))
 | n+1,[],s,Q,hl,h=>by simp at hl
 | n+1,y :: ys,s,Q,hl,h=>by
  show wpAny M A (choose .order (y :: ys).length >>= _) Q E s
  refine wpAny_bind (wp_choose (by simp) fun i d hi=>?_)
  have e:(y :: ys)[i]?=some (y :: ys)[i]:=hA3 hi
  rw [e]
  dsimp only
  have p:=qD7 (y :: ys) i _ e
  refine wpAny_bind (qEe n ((y :: ys).eraseIdx i) _ _ ?_ fun zs d2 pz=>wpAny_pure (h _ d2 ((pz.cons _).trans p)))
  have:=p.length_eq
  simp only [hAy] at this hl ⊢
  omega
end
theorem pick_go {α:Type} (next:Nat->Nat):∀ (n k:Nat) (left:List α) (out:Array α),left.length=n->(pickOrder.go next n k left out).toList.Perm (out.toList++left)
 | 0,k,left,out,hl=>by
  have e:left=[]:=hB1.mp hl
  subst e
  rw [pickOrder.go,hC5]
 | n+1,k,left,out,hl=>by
  rw [pickOrder.go]
  have hi:next k % left.length<left.length:=Nat.mod_lt _ (by omega)
  have e:left[next k % left.length]?=some left[next k % left.length]:=hA3 hi
  rw [e]
  dsimp only
  have p:=qD7 left _ _ e
  have l:=p.length_eq
  simp only [hAy] at l
  refine (pick_go next n (k+1) _ _ (by omega)).trans ?_
  rw [hBq,hBg]
  exact List.Perm.append_left _ p
theorem pick_perm {α:Type} (next:Nat->Nat) (xs:Array α):(pickOrder next xs).toList.Perm xs.toList:=by
 have q:=pick_go next xs.size 0 xs.toList #[] (by simp)
 simpa [pickOrder] using q
section
variable {P:Program} {w:World} {A:Around} {E:Value->Shared->Prop} {s:Shared} {a:Addr} {es:Array (Int×Value)} {ep:Nat} {t:SetTable}
theorem wp_setDrawn {Q:Bool->Shared->Prop} (ho:s.heap.get? a=some { cls:=.type "set",dict:=none,data:=.set es ep t,slots:=#[] }) (hf:t.fits es.size=true) (h:Q (!w.params.followText "set-order" && (!t.plain && decide (es.size > 1))) s):wpAny (model P w) A (setDrawn a) Q E s:=by
 unfold setDrawn
 refine wpAny_bind (wpAny_setState_of ho rfl hf ?_)
 unfold setsByText
 exact wpAny_bind (wpAny_bind (wpAny_askSetting (wpAny_pure (wpAny_pure h))))
theorem wp_setNextT {slot i:Nat} {Q:Option (Value×Nat)->Shared->Prop} (ho:s.heap.get? a=some { cls:=.type "set",dict:=none,data:=.set es ep t,slots:=#[] }) (hf:t.fits es.size=true) (hb:w.params.followText "set-order" = true)
  (h:Q (((pickOrder (w.params.setOrder a ep) es)[i]?).map fun e=>(e.2,slot)) s):wpAny (model P w) A (setNext a slot i ep) Q E s:=by
 unfold setNext
 refine wpAny_bind (wpAny_setState_of ho rfl hf ?_)
 unfold setsByText
 refine wpAny_bind (wpAny_bind (wpAny_askSetting (wpAny_pure ?_)))
 show wpAny _ _ (if (w.params.followText "set-order")=true then _ else _) _ _ _
 rw [if_pos hb]
 rw [if_neg (by simp)]
 unfold setWalk
 refine wpAny_bind (wpAny_bind (wpAny_setState_of ho rfl hf ?_))
 unfold setsByText
 refine wpAny_bind (wpAny_bind (wpAny_askSetting (wpAny_pure ?_)))
 show wpAny _ _ (if (w.params.followText "set-order")=true then _ else _) _ _ _
 rw [if_pos hb]
 exact wpAny_bind (wpAny_askSetting (wpAny_pure (wpAny_pure h)))
theorem wp_setNext1 {slot i:Nat} {Q:Option (Value×Nat)->Shared->Prop} (ho:s.heap.get? a=some { cls:=.type "set",dict:=none,data:=.set es ep t,slots:=#[] }) (hf:t.fits es.size=true) (hb:w.params.followText "set-order" = false) (h1:es.size<=1) (hl:t.led=true)
  (h:Q (match es[SetTable.below t.place slot]?,t.place[SetTable.below t.place slot]? with | some (_,x),some j=>some (x,j+1) | _,_=>none) s):wpAny (model P w) A (setNext a slot i ep) Q E s:=by
 unfold setNext
 refine wpAny_bind (wpAny_setState_of ho rfl hf ?_)
 unfold setsByText
 refine wpAny_bind (wpAny_bind (wpAny_askSetting (wpAny_pure ?_)))
 show wpAny _ _ (if (w.params.followText "set-order")=true then _ else _) _ _ _
 rw [if_neg (by rw [hb];exact hAn)]
 show wpAny _ _ (if (!t.plain && decide (es.size > 1))=true then _ else _) _ _ _
 rw [if_neg (by rw [hBa];rintro ⟨_,z⟩;have:=of_decide_eq_true z;omega)]
 refine wpAny_bind ?_
 show wpAny _ _ (if (!t.led && !es.isEmpty)=true then _ else _) _ _ _
 rw [if_neg (by rw [hl];simp)]
 exact wpAny_pure (wpAny_pure h)
end
end L2
namespace L2
open PySem PySem.Spec PyProof.Rows
abbrev sIt (a:Addr) (f0:Value) (i n ep:Nat):Obj:={ cls:=.type "set_iterator",dict:=none,data:=.fields #[f0,rawInt i,.ref a,rawInt n,rawInt ep],slots:=#[] }
abbrev sOb (es:Array (Int×Value)) (ep:Nat) (t:SetTable):Obj:={ cls:=.type "set",dict:=none,data:=.set es ep t,slots:=#[] }
section
variable {P:Program} {w:World} {A:Around} {E:Value->Shared->Prop} {s:Shared} {a I:Addr} {es:Array (Int×Value)} {ep:Nat} {t:SetTable}
theorem sit_stop {T:Obj} {Q:Fin->Shared->Prop} {f0:Value} {i n:Nat} {pre:Sem Unit} (hh:A.handled=none) (hI:s.heap.get? I=some (sIt a f0 i n ep))
  (hp:∀ {Q':Unit->Shared->Prop},(∀ h1,Heap.SameBut I s.heap h1->(∃ g0,h1.get? I=some (sIt a g0 i n ep))->Q' () { s with heap:=h1 })->wpAny (model P w) A pre Q' E s)
  (hE:∀ h' e,Heap.ExtBut I s.heap h'->(∃ o,h'.get? e=some o/\o.cls = .type "StopIteration")->E (.ref e) { s with heap:=h' }) :
  wpAny (model P w) A (do pre;setField (.ref I) 2 .none;raiseNew (← newExc (.type "StopIteration") [])) Q E s:=by
 refine wpAny_bind (hp fun h1 b1 hg=>?_)
 obtain ⟨g0,hI1⟩:=hg
 refine wpAny_bind (wpAny_setField_rec hI1 (by simp) fun h2 hI2 b2=>?_)
 show wpAny _ _ (newExc (.type "StopIteration") [] >>= fun e=>raiseNew e) _ _ _
 refine wpAny_bind ?_
 simp only [newExc,newTuple]
 refine wpAny_bind (wpAny_newObj_type ?_ (by size_fits))
 refine wpAny_bind (m:=firstArgMember _ _) (wpAny_of_eq (a:=Value.none) (by first | rfl | (simp only [firstArgMember];rfl)) ?_)
 refine wpAny_newObj_type ?_ (by size_fits)
 simp only [raiseNew]
 refine wpAny_bind (wpAny_handled ?_)
 rw [hh]
 exact wpAny_bind (wpAny_pure (wpAny_throw (hE _ _ (((b1.trans b2).extBut.push _).push _) ⟨_,Heap.get?_push_size _ rfl,rfl⟩)))
end
section
variable {P:Program} {w:World} {a I:Addr} {es:Array (Int×Value)} {ep:Nat} {t:SetTable}
theorem walk_setI (hne:a≠I) (hf:t.fits es.size=true) (order:List Value) (sl:Nat->Nat)
  (nx:∀ (A:Around) (E:Value->Shared->Prop) (s:Shared) (Q:Option (Value×Nat)->Shared->Prop) (i:Nat),i<=order.length->s.heap.get? a=some (sOb es ep t)->Q ((order[i]?).map fun x=>(x,sl (i+1))) s->wpAny (model P w) A (setNext a (sl i) i ep) Q E s) :
  ∀ A:Around,A.handled=none->Walks P w A I [I,a] [I] order.length (fun i v=>order[i]?=some v) (fun i h=>h.get? I=some (sIt a (rawInt (sl i)) i es.size ep)/\h.get? a=some (sOb es ep t)):=fun A hh=>{
 sub:=fun b hb=>by simp at hb ⊢;exact .inl hb
 frame:=fun i h h' st k=>⟨k I (by simp) _ st.1,k a (by simp) _ st.2⟩
 item:=fun i s Q E hi st hQ=>by
  obtain ⟨hI,ho⟩:=st
  have hT:s.TypeIs (.ref I) "set_iterator":=⟨_,hI,rfl⟩
  unfold pyNext
  refine wpAny_bind (wpAny_attempt (wpAny_callSpecial?_slot (name:=Str.ofString "__next__") hT FS.slot_sin (wpAny_call_entry FS.slot_sin hT FS.entry_sin ?_ (FS.args_sin _))))
  unfold Builtin.«set_iterator.__next__»
  refine wpAny_bind (wpAny_pure (wpAny_bind (wpAny_fieldsOf hI rfl ?_)))
  show wpAny _ _ (setEntries a >>= _) _ _ _
  refine wpAny_bind (wpAny_setEntries_of ho rfl hf ?_)
  rw [if_neg (by simp)]
  show wpAny _ _ (setNext a (sl i) i ep >>= _) _ _ _
  refine wpAny_bind (nx _ _ s _ i (hBh hi) ho ?_)
  rw [hA3 hi]
  show wpAny _ _ (setField (.ref I) 0 (rawInt (sl (i+1))) >>= _) _ _ _
  refine wpAny_bind (wpAny_setField_rec hI (by simp) fun h1 hI1 b1=>wpAny_bind (wpAny_setField_rec hI1 (by simp) fun h2 hI2 b2=>?_))
  refine wpAny_pure ⟨_,rfl,wpAny_pure (hQ _ h2 s.toks (hA3 hi) ⟨hI2,?_⟩ fun b o hb e=>?_)⟩
  ·exact b2.extBut _ _ hne (b1.extBut _ _ hne ho)
  ·have nb:b≠I:=by simpa using hb
   exact b2.extBut _ _ nb (b1.extBut _ _ nb e)
 done:=fun s Q E st hQ=>by
  obtain ⟨hI,ho⟩:=st
  have hT:s.TypeIs (.ref I) "set_iterator":=⟨_,hI,rfl⟩
  unfold pyNext
  refine wpAny_bind (wpAny_attempt (wpAny_callSpecial?_slot (name:=Str.ofString "__next__") hT FS.slot_sin (wpAny_call_entry FS.slot_sin hT FS.entry_sin ?_ (FS.args_sin _))))
  unfold Builtin.«set_iterator.__next__»
  refine wpAny_bind (wpAny_pure (wpAny_bind (wpAny_fieldsOf hI rfl ?_)))
  show wpAny _ _ (setEntries a >>= _) _ _ _
  refine wpAny_bind (wpAny_setEntries_of ho rfl hf ?_)
  rw [if_neg (by simp)]
  show wpAny _ _ (setNext a (sl order.length) order.length ep >>= _) _ _ _
  refine wpAny_bind (nx _ _ s _ order.length (hA5 _) ho ?_)
  rw [hBi (hA5 _)]
  refine sit_stop (pre:=pure ()) (T:=sOb es ep t) (by exact hh) hI (fun q=>wpAny_pure (q _ (Heap.SameBut.refl ..) ⟨_,hI⟩)) fun h' e k he=>?_
  obtain ⟨oe,h1,h2⟩:=he
  refine wpAny_bind (wpAny_isInstance (T:="StopIteration") (b:=true) ⟨oe,h1,h2⟩ isSubtype_stop (wpAny_pure (hQ _ s.toks fun b o hb e=>k _ _ (by simpa using hb) e)))
 self:=fun i s Q E st hQ=>by
  have hT:s.TypeIs (.ref I) "set_iterator":=⟨_,st.1,rfl⟩
  refine wpAny_pyIter_slot hT FS.slot_sii (wpAny_call_entry FS.slot_sii hT FS.entry_sii ?_ (FS.args_sii _))
  exact wpAny_pure ⟨_,rfl,"set_iterator",_,hT,FS.slot_sin.lookup,hQ⟩ }
end
end L2
namespace L2
open PySem PySem.Spec PyProof.Rows
abbrev tOb (xs:Array Value):Obj:={ cls:=.type "tuple",data:=.seq xs }
section
variable {P:Program} {w:World} {a I T:Addr} {es:Array (Int×Value)} {ep:Nat} {t:SetTable}
theorem walk_setD (hne:a≠I) (hT0:T≠I) (hf:t.fits es.size=true) (ps:List Nat) (order:List Value) (hl:order.length=ps.length) (hp:∀ (i p:Nat),ps[i]?=some p->∃ k x,es[p]?=some (k,x)/\order[i]?=some x) :
  ∀ A:Around,A.handled=none->Walks P w A I [I,a,T] [I] order.length (fun i v=>order[i]?=some v) (fun i h=>h.get? I=some (sIt a (.ref T) i es.size ep)/\h.get? a=some (sOb es ep t)/\h.get? T=some (tOb (ps.map fun (p:Nat)=>rawInt p).toArray)):=fun A hh=>{
 sub:=fun b hb=>by simp at hb ⊢;exact .inl hb
 frame:=fun i h h' st k=>⟨k I (by simp) _ st.1,k a (by simp) _ st.2.1,k T (by simp) _ st.2.2⟩
 item:=fun i s Q E hi st hQ=>by
  obtain ⟨hI,ho,hTt⟩:=st
  have hT:s.TypeIs (.ref I) "set_iterator":=⟨_,hI,rfl⟩
  unfold pyNext
  refine wpAny_bind (wpAny_attempt (wpAny_callSpecial?_slot (name:=Str.ofString "__next__") hT FS.slot_sin (wpAny_call_entry FS.slot_sin hT FS.entry_sin ?_ (FS.args_sin _))))
  unfold Builtin.«set_iterator.__next__»
  refine wpAny_bind (wpAny_pure (wpAny_bind (wpAny_fieldsOf hI rfl ?_)))
  show wpAny _ _ (setEntries a >>= _) _ _ _
  refine wpAny_bind (wpAny_setEntries_of ho rfl hf ?_)
  rw [if_neg (by simp)]
  show wpAny _ _ (seqItems? (.ref T) >>= _) _ _ _
  refine wpAny_bind (wpAny_seqItems hTt rfl ?_)
  have hip:i<ps.length:=by rw [<-hl];exact hi
  obtain ⟨k,x,h1,h2⟩:=hp i _ (hA3 hip)
  have e1:((ps.map fun (p:Nat)=>rawInt p).toArray)[i]?=some (rawInt ((ps[i]:Nat):Int)):=by simp [hip]
  show wpAny _ _ (match ((ps.map fun (p:Nat)=>rawInt p).toArray)[((i:Int)).toNat]? with | some (.int place _)=>_ | some _=>_ | none=>_) _ _ _
  rw [hCq,e1]
  show wpAny _ _ (setNextDrawn a ps[i] ep >>= _) _ _ _
  unfold setNextDrawn
  refine wpAny_bind (wpAny_bind (wpAny_setState_of ho rfl hf ?_))
  dsimp only
  rw [if_neg (by simp),h1]
  refine wpAny_pure (wpAny_bind (wpAny_setField_rec hI (by simp) fun h3 hI3 b3=>?_))
  refine wpAny_pure ⟨_,rfl,wpAny_pure (hQ _ h3 s.toks h2 ⟨hI3,b3.extBut _ _ hne ho,b3.extBut _ _ hT0 hTt⟩ fun b o hb e=>b3.extBut _ _ (by simpa using hb) e)⟩
 done:=fun s Q E st hQ=>by
  obtain ⟨hI,ho,hTt⟩:=st
  have hT:s.TypeIs (.ref I) "set_iterator":=⟨_,hI,rfl⟩
  unfold pyNext
  refine wpAny_bind (wpAny_attempt (wpAny_callSpecial?_slot (name:=Str.ofString "__next__") hT FS.slot_sin (wpAny_call_entry FS.slot_sin hT FS.entry_sin ?_ (FS.args_sin _))))
  unfold Builtin.«set_iterator.__next__»
  refine wpAny_bind (wpAny_pure (wpAny_bind (wpAny_fieldsOf hI rfl ?_)))
  show wpAny _ _ (setEntries a >>= _) _ _ _
  refine wpAny_bind (wpAny_setEntries_of ho rfl hf ?_)
  rw [if_neg (by simp)]
  show wpAny _ _ (seqItems? (.ref T) >>= _) _ _ _
  refine wpAny_bind (wpAny_seqItems hTt rfl ?_)
  have e1:((ps.map fun (p:Nat)=>rawInt p).toArray)[order.length]?=none:=by simp [hl]
  show wpAny _ _ (match ((ps.map fun (p:Nat)=>rawInt p).toArray)[((order.length:Int)).toNat]? with | some (.int place _)=>_ | some _=>_ | none=>_) _ _ _
  rw [hCq,e1]
  refine sit_stop (pre:=setField (.ref I) 0 (rawInt 0)) (T:=sOb es ep t) (by exact hh) hI (fun q=>wpAny_setField_rec hI (by simp) fun h1 hI1 b1=>q _ b1 ⟨_,hI1⟩) fun h' e k he=>?_
  obtain ⟨oe,h1,h2⟩:=he
  refine wpAny_bind (wpAny_isInstance (T:="StopIteration") (b:=true) ⟨oe,h1,h2⟩ isSubtype_stop (wpAny_pure (hQ _ s.toks fun b o hb e=>k _ _ (by simpa using hb) e)))
 self:=fun i s Q E st hQ=>by
  have hT:s.TypeIs (.ref I) "set_iterator":=⟨_,st.1,rfl⟩
  refine wpAny_pyIter_slot hT FS.slot_sii (wpAny_call_entry FS.slot_sii hT FS.entry_sii ?_ (FS.args_sii _))
  exact wpAny_pure ⟨_,rfl,"set_iterator",_,hT,FS.slot_sin.lookup,hQ⟩ }
end
theorem below_lt {p j:Nat} (h:j<=p):SetTable.below #[p] j=0:=by
 unfold SetTable.below
 show SetTable.below.go #[p] j 1 0 1=0
 unfold SetTable.below.go
 have e:¬(#[p]:Array Nat).getD ((0+1) / 2) j<j:=by show ¬p<j;omega
 rw [if_pos (by decide)]
 dsimp only
 rw [if_neg e]
 rfl
theorem below_ge {p j:Nat} (h:p<j):SetTable.below #[p] j=1:=by
 unfold SetTable.below
 show SetTable.below.go #[p] j 1 0 1=1
 unfold SetTable.below.go
 have e:(#[p]:Array Nat).getD ((0+1) / 2) j<j:=by show p<j;omega
 rw [if_pos (by decide)]
 dsimp only
 rw [if_pos e]
 rfl
theorem below_nil (j:Nat):SetTable.below #[] j=0:=rfl
section
variable {P:Program} {w:World} {A:Around} {E:Value->Shared->Prop} {s:Shared} {a:Addr} {ss:List Str}
theorem iter_setT {Q:Value->Shared->Prop} (hS:qA8 P w s.heap a ss)
  (h:∀ (I:Addr) (fp:List Addr) (vs:List Value) (ss1:List Str) (St:Nat->Heap->Prop) (h1:Heap) (d:Drawn),StrsAre vs ss1->ss1.Perm ss->(∀ b o,s.heap.get? b=some o->h1.get? b=some o)->(∀ A:Around,A.handled=none->Walks P w A I fp [I] vs.length (fun i v=>vs[i]?=some v) St) ->
   St 0 h1->I∈fp->(∀ b∈fp,b<h1.objs.size/\(b=a\/s.heap.objs.size<=b))->s.heap.objs.size<=I->s.heap.objs.size<=h1.objs.size->Q (.ref I) { s with heap:=h1,drawn:=d }):wpAny (model P w) A (pyIter (.ref a)) Q E s:=by
 obtain ⟨es,ep,t,ho,e1,e2,e3,e4,e5,e6⟩:=hS
 have hT:s.TypeIs (.ref a) "set":=⟨_,ho,rfl⟩
 have ha:a<s.heap.objs.size:=Heap.lt_size ho
 have hp4:t.place.size=es.size:=by
  unfold SetTable.fits at e4
  rw [hBa] at e4
  exact eq_of_beq e4.1
 refine wpAny_pyIter_slot hT PySem.F.slot_set_iter (wpAny_call_entry PySem.F.slot_set_iter hT FS.entry_set_iter' ?_ (PySem.F.args_set_iter_1 _))
 unfold Builtin.«frozenset.__iter__» Builtin.Frozenset.slot0
 refine wpAny_bind (wpAny_bind (wpAny_pure (wpAny_pure ?_)))
 unfold Builtin.Frozenset.sizeOf
 refine wpAny_bind (wpAny_bind (wpAny_setEntries_of ho rfl e4 (wpAny_pure ?_)))
 refine wpAny_bind (wp_setDrawn ho e4 ?_)
 dsimp only
 cases hb:w.params.followText "set-order" with
 | true =>
  rw [if_neg (by simp)]
  refine wpAny_bind (wpAny_pure (wpAny_bind (wpAny_setEpoch_of ho rfl e4 ?_)))
  show wpAny _ _ (newFields "set_iterator" _ >>= _) _ _ _
  refine wpAny_bind (wpAny_newObj_type (wpAny_pure ⟨_,rfl,"set_iterator",_,⟨_,Heap.get?_push_size _ rfl,rfl⟩,FS.slot_sin.lookup,?_⟩) (by show 5<=_;decide))
  have p:=pick_perm (w.params.setOrder a ep) es
  obtain ⟨ss1,q1,q2⟩:=qDy e2 p
  refine h s.heap.objs.size [s.heap.objs.size,a] _ ss1 _ _ s.drawn q1 q2 (fun b o e=>Heap.get?_push_of_some _ e) (walk_setI (ep:=ep) (es:=es) (t:=t) (hAk ha) e4 _ (fun _=>0) ?_) ⟨Heap.get?_push_size _ rfl,Heap.get?_push_of_some _ ho⟩ (by simp) ?_ (hA5 _) (by rw [Heap.size_push];exact hAx _)
  ·intro A' E' s' Q' i hi ho' hq
   refine wp_setNextT ho' e4 hb ?_
   rw [hAj,hAo,Option.map_map] at hq
   exact hq
  ·intro b hbm
   rw [Heap.size_push]
   simp at hbm
   rcases hbm with rfl | rfl
   ·exact ⟨hBl _,.inr (hA5 _)⟩
   ·exact ⟨hB8 ha,.inl rfl⟩
 | false =>
  have led:t.led=true:=by rw [e5,hb];rfl
  by_cases hz:es.size > 1
  ·have pl:t.plain=false:=e6 (by omega)
   rw [if_pos (by rw [pl,decide_eq_true hz];rfl)]
   refine wpAny_bind (qEe es.size (List.range es.size) s _ (by simp) fun ps d pp=>?_)
   refine wpAny_bind (wpAny_newTuple (s:={ s with drawn:=d }) ?_ (by rw [hA1,pp.length_eq,hCr];exact fits_of_scanBound e3))
   have ho1:(s.heap.push (tOb (ps.map fun (p:Nat)=>rawInt p).toArray)).get? a=some (sOb es ep t):=Heap.get?_push_of_some _ ho
   refine wpAny_bind (wpAny_setEpoch_of (s:={ s with heap:=s.heap.push (tOb (ps.map fun (p:Nat)=>rawInt p).toArray),drawn:=d }) ho1 rfl e4 ?_)
   show wpAny _ _ (newFields "set_iterator" _ >>= _) _ _ _
   refine wpAny_bind (wpAny_newObj_type (wpAny_pure ⟨_,rfl,"set_iterator",_,⟨_,Heap.get?_push_size _ rfl,rfl⟩,FS.slot_sin.lookup,?_⟩) (by show 5<=_;decide))
   have hlt:∀ p∈ps,p<es.size:=fun p hm=>hBj.mp (pp.mem_iff.mp hm)
   have ep1:(ps.filterMap fun p=>es[p]?).Perm es.toList:=by
    have q:=pp.filterMap fun p=>es[p]?
    rw [filterMap_getElem?_range] at q
    exact q
   have hfm:∀ l:List Nat,(∀ p∈l,p<es.size)->(l.filterMap fun p=>es[p]?).length=l.length/\∀ (i p:Nat),l[i]?=some p->∃ k x,es[p]?=some (k,x)/\((l.filterMap fun p=>es[p]?).map (·.2))[i]?=some x:=by
    intro l
    induction l with
    | nil=>intro _;exact ⟨rfl,fun i p z=>by simp at z⟩
    | cons c l ih =>
     intro hm
     obtain ⟨i1,i2⟩:=ih fun p hp=>hm p (hA4 _ hp)
     have hcl:c<es.size:=hm c hA2
     have hc:es[c]?=some es[c]:=hBr hcl
     rw [hCt,hc]
     refine ⟨by simp [i1],fun i p z=>?_⟩
     cases i with
     | zero =>
      have e:c=p:=by simpa using z
      subst e
      exact ⟨_,_,hc,by simp⟩
     | succ i =>
      obtain ⟨k,x,a1,a2⟩:=i2 i p (by simpa using z)
      exact ⟨k,x,a1,by simpa using a2⟩
   obtain ⟨f1,f2⟩:=hfm ps hlt
   obtain ⟨ss1,q1,q2⟩:=qDy e2 ep1
   have sz1:(s.heap.push (tOb (ps.map fun (p:Nat)=>rawInt p).toArray)).objs.size=s.heap.objs.size+1:=Heap.size_push ..
   refine h (s.heap.push (tOb (ps.map fun (p:Nat)=>rawInt p).toArray)).objs.size [(s.heap.push (tOb (ps.map fun (p:Nat)=>rawInt p).toArray)).objs.size,a,s.heap.objs.size] _ ss1 _ _ d q1 q2 (fun b o e=>Heap.get?_push_of_some _ (Heap.get?_push_of_some _ e))
    (walk_setD (ep:=ep) (es:=es) (t:=t) (T:=s.heap.objs.size) ?_ ?_ e4 ps _ (by rw [hA1,f1]) f2) ⟨Heap.get?_push_size _ rfl,Heap.get?_push_of_some _ ho1,Heap.get?_push_of_some _ (Heap.get?_push_size _ rfl)⟩ (by simp) ?_ ?_ ?_
   ·rw [sz1];exact hAk (hB8 ha)
   ·rw [sz1];exact hAk (hBl _)
   ·intro b hbm
    rw [Heap.size_push,sz1]
    rw [sz1] at hbm
    simp at hbm
    rcases hbm with rfl | rfl | rfl
    ·exact ⟨hBl _,.inr (hAx _)⟩
    ·exact ⟨hB8 (hB8 ha),.inl rfl⟩
    ·exact ⟨hB8 (hBl _),.inr (hA5 _)⟩
   ·rw [sz1];exact hAx _
   ·rw [Heap.size_push,sz1];exact Nat.le_succ_of_le (hAx _)
  ·rw [if_neg (by rw [decide_eq_false hz];simp)]
   refine wpAny_bind (wpAny_pure (wpAny_bind (wpAny_setEpoch_of ho rfl e4 ?_)))
   show wpAny _ _ (newFields "set_iterator" _ >>= _) _ _ _
   refine wpAny_bind (wpAny_newObj_type (wpAny_pure ⟨_,rfl,"set_iterator",_,⟨_,Heap.get?_push_size _ rfl,rfl⟩,FS.slot_sin.lookup,?_⟩) (by show 5<=_;decide))
   refine h s.heap.objs.size [s.heap.objs.size,a] _ ss _ _ s.drawn e2 (hCi _) (fun b o e=>Heap.get?_push_of_some _ e) (walk_setI (ep:=ep) (es:=es) (t:=t) (hAk ha) e4 _ (fun i=>if i=0 then 0 else t.place.getD 0 0+1) ?_) ⟨Heap.get?_push_size _ rfl,Heap.get?_push_of_some _ ho⟩ (by simp) ?_ (hA5 _) (by rw [Heap.size_push];exact hAx _)
   ·intro A' E' s' Q' i hi ho' hq
    refine wp_setNext1 ho' e4 hb (by omega) led ?_
    rw [hA1,hB2] at hi
    rcases hD5 es.size 1 with z0 | z1
    ·have e0:es=#[]:=Array.eq_empty_of_size_eq_zero (by omega)
     have p0:t.place=#[]:=Array.eq_empty_of_size_eq_zero (by omega)
     subst e0
     rw [p0] at hq ⊢
     rw [below_nil]
     simpa using hq
    ·have z:es.size=1:=by omega
     obtain ⟨x,e0⟩:∃ x,es=#[x]:=by
      have:=Array.size_eq_one_iff.mp z
      exact this
     obtain ⟨p,p0⟩:∃ p,t.place=#[p]:=Array.size_eq_one_iff.mp (by omega)
     subst e0
     rw [p0] at hq ⊢
     obtain ⟨k,x⟩:=x
     by_cases i0:i=0
     ·subst i0
      rw [if_pos rfl,below_lt (hAt _)]
      simpa using hq
     ·have i1:i=1:=by simp at hi;omega
      subst i1
      rw [if_neg (by decide)]
      show Q' (match (#[(k,x)]:Array (Int×Value))[SetTable.below #[p] (p+1)]?,(#[p]:Array Nat)[SetTable.below #[p] (p+1)]? with | some (_,x),some j=>some (x,j+1) | _,_=>none) s'
      rw [below_ge (hBl _)]
      simpa using hq
   ·intro b hbm
    rw [Heap.size_push]
    simp at hbm
    rcases hbm with rfl | rfl
    ·exact ⟨hBl _,.inr (hA5 _)⟩
    ·exact ⟨hB8 ha,.inl rfl⟩
end
end L2
namespace L2
open PySem PySem.Spec PyProof.Rows
section
variable {X:Cx} {pins:List (Addr×Obj)} {σ:St} {H:Hp} {s:Shared} {h':Heap}
theorem Inv.turnedT {t':Nat} {d':Drawn} {ch:List Addr} {a:Addr} {o:HO} (I:Inv X pins σ H s) (k:∀ b u,b∉ch->s.heap.get? b=some u->h'.get? b=some u) (f:∀ b∈ch,FpOk X pins H b) (hp:s.heap.objs.size<=a) (new:qBf X.prog X.w (upd H a o) h' a o) :
  Inv X pins σ (upd H a o) { s with heap:=h',toks:=t',drawn:=d' }:=by
 have nit:∀ b u,H b=some u->b∉ch:=fun b u e z=>by rw [(f b z).1] at e;cases e
 have hn:H a=none:=I.hok.fresh hp
 refine I.step (g':=s.gens) (d':=d') (ch:=ch) (fun b hb=>?_) (fun b u _ _ hc e _=>k b u hc e) (fun b u _ _ hc e _=>⟨u.slots,k b u hc e⟩) (fun b u _ e n=>?_) (fun b u hc e=>⟨u,k b u hc e⟩) (fun b xs q=>by rw [qAe (qAd q hn)];exact q) (fun b u v q=>by rw [qAe (qAd q hn)];exact q)
  (fun b ps q=>⟨#[],by rw [qAe (qAd q hn),q];simp⟩) (fun m hm=>?_) (fun b u e=>?_) I.bare
 ·obtain ⟨_,f1,_,f3,f4,f5⟩:=f b hb
  exact ⟨f3,f1,f4,f5⟩
 ·rw [qAe (hAk (hAi (Heap.lt_size e) hp))];exact n
 ·obtain ⟨ob,es,ep,ho,r⟩:=hm
  exact ⟨ob,es,ep,k _ ob (fun z=>(f _ z).2.1 rfl) ho,r⟩
 ·by_cases hb:b=a
  ·subst hb;rw [upd_same] at e;cases e;exact new
  ·rw [qAe hb] at e
   refine (I.hok b u e).stay (fun c v hc q=>k c v ?_ q) (fun c q=>by rw [qAe (qAd q hn)];exact q) fun c xs q=>by rw [qAe (qAd q hn)];exact q
   rcases hc with z | z
   ·rw [z];exact nit b u e
   ·exact nit c _ z
end
section
variable {P:Program} {w:World} {A:Around} {E:Value->Shared->Prop} {s:Shared} {a:Addr} {ss:List Str}
theorem collect_setT {Q:List Value->Shared->Prop} (hh:A.handled=none) (hS:qA8 P w s.heap a ss)
  (h:∀ (vs:List Value) (ss1:List Str) (h1:Heap) (tk:Nat) (d:Drawn),StrsAre vs ss1->ss1.Perm ss->(∀ b o,s.heap.get? b=some o->h1.get? b=some o)->s.heap.objs.size<=h1.objs.size->Q vs { s with heap:=h1,toks:=tk,drawn:=d }):wpAny (model P w) A (collect (.ref a)) Q E s:=by
 unfold collect
 refine wpAny_bind (wpAny_runValue (codeAny_builtin PySem.F.entry_proto_collect ?_))
 rw [Around.under_plainId PySem.F.plain_proto_collect _]
 show wpAny _ A.in1 (newList [] >>= fun l=>again (.builtin "list.__iadd__" ⟨[l,.ref a],[]⟩)) _ _ _
 refine wpAny_bind (wpAny_newObj_type ?_)
 refine wpAny_pure ⟨plainId_quiet PySem.F.plain_list_iadd _,codeAny_builtin PySem.F.entry_list_iadd ?_⟩
 rw [Around.under_plainId PySem.F.plain_list_iadd _]
 have hS1:qA8 P w (s.heap.push (seqObj "list" #[] 0)) a ss:=hS.at fun o e=>Heap.get?_push_of_some _ e
 have hL1:(s.heap.push (seqObj "list" #[] 0)).get? s.heap.objs.size=some (seqObj "list" #[] 0):=Heap.get?_push_size _ rfl
 have hT:∀ s':Shared,qA8 P w s'.heap a ss->s'.TypeIs (.ref a) "set":=fun s' z=>by
  obtain ⟨es,ep,t,ho,_⟩:=z
  exact ⟨_,ho,rfl⟩
 have ha:a<s.heap.objs.size:=by
  obtain ⟨es,ep,t,ho,_⟩:=hS
  exact Heap.lt_size ho
 have hz:ss.length<scanBound:=by
  obtain ⟨es,ep,t,_,_,e2,e3,_⟩:=hS
  rw [<-e2.strs,hA1,hA1,hB2]
  exact e3
 have hne:Builtin.List.listSameRef (.ref s.heap.objs.size) (.ref a)=false:=by
  show (s.heap.objs.size == a)=false
  exact beq_eq_false_iff_ne.mpr (hCd ha)
 show wpAny _ A.in1 (Builtin.List.listExtendWith (.ref s.heap.objs.size) (.ref a) (.ref s.heap.objs.size)) _ _ { s with heap:=s.heap.push (seqObj "list" #[] 0) }
 unfold Builtin.List.listExtendWith
 refine wpAny_bind (wpAny_typeOf (hT _ hS1) ?_)
 rw [if_neg (by rw [hne];decide)]
 refine wpAny_bind (iter_setT hS1 fun I fp vs ss1 St h1 d q1 q2 q3 W st hI hfp hge hsz=>?_)
 have hS2:qA8 P w h1 a ss:=hS1.at fun o e=>q3 _ _ e
 have hL2:h1.get? s.heap.objs.size=some (seqObj "list" #[] 0):=q3 _ _ hL1
 refine wpAny_bind (wpAny_holding ?_)
 unfold Builtin.List.listLengthHint
 refine wpAny_bind (wpAny_specialOf (hT { s with heap:=h1,drawn:=d } hS2) PySem.F.slot_set_len.lookup ?_)
 dsimp only
 rw [show splitId "set.__len__" = some ("set","__len__") from by decide +kernel]
 dsimp only
 refine wpAny_bind (wpAny_isInstance (b:=true) (hT { s with heap:=h1,drawn:=d } hS2) sub_set_self ?_)
 rw [if_neg (by decide),if_pos (by decide +kernel)]
 refine wpAny_bind (wpAny_typeOf (hT { s with heap:=h1,drawn:=d } hS2) (wpAny_pure ?_))
 rw [if_pos (by decide +kernel)]
 refine wpAny_bind (wpAny_rule ?_)
 unfold Builtin.List.listTouch
 have hL3:=get?_update_seq hL2 (·.push .none)
 have hL4:=get?_update_seq hL3 (·.pop)
 refine wpAny_bind (wpAny_bind (listUpdate_at (s:={ s with heap:=h1,drawn:=d }) hL2 rfl (listUpdate_at (s:={ s with heap:=h1.update s.heap.objs.size (Obj.mapSeq (·.push .none)),drawn:=d }) hL3 rfl ?_)))
 have nS:s.heap.objs.size∉fp:=fun z=>by
  rcases (hfp _ z).2 with e | e
  ·exact absurd e (hCd ha)
  ·rw [size_push'] at e
   exact absurd e (Nat.not_succ_le_self _)
 have upd2:∀ b o,b≠s.heap.objs.size->h1.get? b=some o->((h1.update s.heap.objs.size (Obj.mapSeq (·.push .none))).update s.heap.objs.size (Obj.mapSeq (·.pop))).get? b=some o:=fun b o hb e=>by
  rw [Heap.get?_update_ne _ _ _ _ hb,Heap.get?_update_ne _ _ _ _ hb];exact e
 have hv:vs.length<=sizeLine:=by
  have e1:=q2.length_eq
  have e2:vs.length=ss1.length:=by rw [<-q1.strs,hA1]
  rw [e2,e1]
  exact fits_of_scanBound hz
 have st3:=(W A.in1.in1.in1 (by exact hh)).frame 0 _ ((h1.update s.heap.objs.size (Obj.mapSeq (·.push .none))).update s.heap.objs.size (Obj.mapSeq (·.pop))) st fun b hb o e=>upd2 b o (fun z=>nS (z▸hb)) e
 refine wpAny_pure ⟨plainId_quiet PySem.F.plain_extend_loop _,codeAny_extend_loopS ((W _ (by exact hh)).toS) hv _ nS _ vs.length 0 _ _ _ rfl (hAt _) st3 hL4 (ItemsOf.nil _) fun s' acc' c' hm hS' hacc=>?_⟩
 show wpAny _ A (load s.heap.objs.size >>= _) _ _ s'
 refine wpAny_bind (wpAny_load hS' ?_)
 have eacc:acc'.toList=vs:=by
  refine hCs fun i=>?_
  by_cases hi:i<vs.length
  ·have hi':i<acc'.size:=by rw [hacc.1];exact hi
   rw [hAo,hBr hi']
   exact (hacc.2 i _ (hBr hi')).symm
  ·rw [hAo,Array.getElem?_eq_none (by rw [hacc.1];omega),hBi (by omega)]
 show wpAny _ A (pure acc'.toList) _ _ s'
 rw [eacc]
 obtain ⟨h5,g5,d5,tk5,os5⟩:=s'
 cases (show g5=s.gens from hm.gens)
 cases (show d5=d from hm.drawn)
 cases (show os5=s.os from hm.os)
 have keep:∀ b o,h1.get? b=some o->b≠s.heap.objs.size->b≠I->h5.get? b=some o:=fun b o e n1 n2=>hm.heap b o (by simp only [hA9,hCf,or_false,not_or];exact ⟨n1,n2⟩) (upd2 b o n1 e)
 refine wpAny_pure (h vs ss1 h5 tk5 d q1 q2 (fun b o e=>?_) ?_)
 ·have lt:=Heap.lt_size e
  refine keep b o (q3 b o (Heap.get?_push_of_some _ e)) (hAk lt) (hAk (hAi lt ?_))
  rw [size_push'] at hge
  exact Nat.le_of_succ_le hge
 ·exact hBh (Heap.lt_size hS')
end
def SetS (P:Program) (w:World) (a:Addr) (ss:List Str):HO:=.ext fun h=>qA8 P w h a ss
section
variable {X:Cx}
theorem call_setS (hc:X.calm=true):qBq X (.type "set") (fun xs H Q=>∃ (p:Addr) (ss0:List Str),xs=[.ref p]/\SqL X.K H p (ss0.map V.str)/\ss0.length<1000/\∀ (r:Addr) (ss:List Str),H r=none->ss.Nodup->ss.length<=ss0.length->(∀ x,x∈ss↔x∈ss0)->Q (.ref r) (upd H r (SetS X.prog X.w r ss))):=by
 intro pins s σ H xs us Q I r h
 obtain ⟨p,ss0,rfl,hq,hl,q⟩:=h
 obtain ⟨u,rfl,rx⟩:=qCa r
 cases rx
 obtain ⟨its,rv,pl,hz⟩:=I.list hq
 have hlen:=rv.length
 rw [hA1] at hlen
 refine call_setT (I.ok.hd hc) pl.isList (by simpa using qCe rv) (by have:scanBound=4096:=rfl;simp;omega) fun h' tk ss hS hO hk=>?_
 obtain ⟨o1,o2,o3⟩:=hO
 rw [hAd,<-hlen] at o2 o3
 refine ⟨.ref s.heap.objs.size,_,I.laid (t':=tk) (a:=s.heap.objs.size) (o:=SetS X.prog X.w s.heap.objs.size ss) (fun b o e=>hk b o (Heap.lt_size e) e) (hA5 _) ⟨hS,?_,fun h1 h2 z k=>z.at k⟩,rfl,q _ ss (I.hok.fresh (hA5 _)) o1 o2 fun x=>?_⟩
 ·obtain ⟨es,ep,t,ho,_⟩:=hS
  exact ⟨_,ho⟩
 ·rw [o3 x,List.mem_iff_getElem?]
  constructor
  ·rintro ⟨j,hj,rfl⟩
   exact ⟨j,by show ss0[j]?=some (ss0.getD j default);rw [hAe,hA3 hj];rfl⟩
  ·rintro ⟨j,hj⟩
   exact ⟨j,(hAp.mp hj).1,by show ss0.getD j default=x;rw [hAe,hj];rfl⟩
theorem qFx (hc:X.calm=true):qBq X (.builtin "sorted") (fun xs H Q=>∃ (p:Addr) (ss:List Str),xs=[.ref p]/\H p=some (SetS X.prog X.w p ss)/\ss.length<64/\∀ (r:Addr) (ss':List Str),H r=none->ss'.Perm ss->sortedS ss'=true->Q (.ref r) (upd H r (.lst (ss'.map V.str)))):=by
 intro pins s σ H xs us Q I r h
 obtain ⟨p,ss,rfl,hp,h64,q⟩:=h
 obtain ⟨u,rfl,rx⟩:=qCa r
 cases rx
 have hS:qA8 X.prog X.w s.heap p ss:=(I.hok p _ hp).1
 refine Calls.call_function_entry kind_sorted plain_sorted entry_sorted (args_sorted1 _) ?_
 unfold Builtin.«sorted»
 refine wpAny_bind (m:=checkCount "sorted" 1 1 _) (wpAny_pure (wpAny_bind (collect_setT (I.ok.hd hc) hS fun vs ss1 h1 tk d a1 a2 a3 a4=>?_)))
 have hvl:vs.length=ss1.length:=by rw [<-a1.strs,hA1]
 have hl64:vs.length<64:=by rw [hvl,a2.length_eq];exact h64
 refine wpAny_bind (wpAny_newList ?_ (by have:sizeLine > 64:=(by decide);omega))
 have hoL:(h1.push (seqObj "list" vs.toArray 0)).get? h1.objs.size=some (seqObj "list" vs.toArray 0):=Heap.get?_push_size _ rfl
 refine wpAny_bind (wpAny_holding (wpAny_call_entry slot_list_sort ⟨_,hoL,rfl⟩ entry_list_sort (list_sort_treeK strKind_oneLt hoL a1.keysOf (fun v1 v2 rest e=>keyKind_strs (by rw [<-e];exact a1)) hl64 fun st' b1 b2=>⟨_,rfl,?_⟩) (args_list_sort _)))
 obtain ⟨ss',c1,c2,c3⟩:=sorted_out_str a1 b1 b2
 refine wpAny_pure ⟨_,rfl,?_⟩
 have nz:H h1.objs.size=none:=I.hok.fresh a4
 obtain ⟨e,he⟩:=sortedHeap_at (out:=(arrOf st').map (·.2)) hoL
 refine ⟨.ref h1.objs.size,_,I.turnedT (t':=tk) (d':=d) (ch:=[]) (a:=h1.objs.size) (o:=.lst (ss'.map V.str)) (fun b o _ eb=>?_) (fun b z=>nomatch z) a4 ?_,rfl,q _ ss' nz (c2.trans a2) c3⟩
 ·have e1:=a3 b o eb
  have lt:=Heap.lt_size e1
  rw [sortedHeap_old (hAk lt) (by rw [size_push'];exact hB8 lt)]
  exact Heap.get?_push_of_some _ e1
 ·refine ⟨?_,((arrOf st').map (·.2)).toList,e,qGe c1,he⟩
  rw [hA1,c2.length_eq,a2.length_eq]
  exact hBh (qAh (by omega))
end
end L2
namespace L2
open PySem PySem.Spec PyProof.Rows
section
variable {X:Cx} {pins:List (Addr×Obj)} {σ:St} {H:Hp} {s:Shared} {h':Heap}
theorem Inv.turnedL {t':Nat} {ch:List Addr} (I:Inv X pins σ H s) (k:∀ b u,b∉ch->s.heap.get? b=some u->h'.get? b=some u) (f:∀ b∈ch,FpOk X pins H b):Inv X pins σ H { s with heap:=h',toks:=t' }:=by
 have nit:∀ b u,H b=some u->b∉ch:=fun b u e z=>by rw [(f b z).1] at e;cases e
 refine I.step (g':=s.gens) (d':=s.drawn) (ch:=ch) (fun b hb=>?_) (fun b u _ _ hc e _=>k b u hc e) (fun b u _ _ hc e _=>⟨u.slots,k b u hc e⟩) (fun b u _ e n=>n) (fun b u hc e=>⟨u,k b u hc e⟩) (fun b xs q=>q) (fun b u v q=>q) (fun b ps q=>⟨#[],by rw [q];simp⟩) (fun m hm=>?_) (fun b u e=>?_) I.bare
 ·obtain ⟨_,f1,_,f3,f4,f5⟩:=f b hb
  exact ⟨f3,f1,f4,f5⟩
 ·obtain ⟨ob,es,ep,ho,r⟩:=hm
  exact ⟨ob,es,ep,k _ ob (fun z=>(f _ z).2.1 rfl) ho,r⟩
 ·refine (I.hok b u e).stay (fun c v hc q=>k c v ?_ q) (fun c q=>q) fun c xs q=>q
  rcases hc with z | z
  ·rw [z];exact nit b u e
  ·exact nit c _ z
end
def Itp (n:Nat) (Ls:Hp->Prop) (xv:Nat->List V):It:=⟨fun i H=>Ls H/\i<n,fun i H x H'=>∃ T,H T=none/\H'=upd H T (.tup (xv i))/\x = .ref T,fun i H=>Ls H/\i=n⟩
theorem qF2 {P:Program} {w:World} {K:PySem.W.Frag} {elts:List Expr} {ct:Nat} {pos:Pos} (it:Addr) (fp fpW wr:List Addr) (n:Nat) (Ls:Hp->Prop) (xv:Nat->List V) (tn:Nat->Heap->Prop)
  (hit:it∈fp) (hwr:∀ b∈wr,b∈fp) (hobj:∀ i h,tn i h->∀ b∈fp,∃ o,h.get? b=some o/\∀ v,o.data≠.cell v) (hkeep:∀ i h h',tn i h->(∀ b∈fp,∀ o,h.get? b=some o->h'.get? b=some o)->tn i h')
  (hx:∀ i,(xv i).length<=sizeLine)
  (W:∀ (X:Cx),X.prog=P->X.w=w->X.K=K->X.calm=true->∀ (pins:List (Addr×Obj)) (s:Shared) (σ:L2.St) (H:Hp),Inv X pins σ H s->Ls H->∃ (Pt:Nat->Array Value->Prop) (St:Nat->Heap->Prop) (Mid:Nat->Addr->Heap->Prop),WalksT P w X.A it fpW wr n Pt St Mid/\(∀ i,tn i s.heap->St i s.heap)/\(∀ i h,St i h->tn i h) /\
   (∀ i vals,Pt i vals->qA6 (xv i) vals.toList))
  (hself:∀ (A:Around) (i:Nat) (s:Shared) (Q:Value->Shared->Prop) (E:Value->Shared->Prop),tn i s.heap->Q (.ref it) s->wpAny (model P w) A (pyIter (.ref it)) Q E s):Turn P w K (.Tuple elts ct pos) (Itp n Ls xv) fp it tn where
 mem:=hit
 obj:=hobj
 keep:=hkeep
 item:=by
  intro X hP hw hK hc i pins s σ H E I hf st hg
  obtain ⟨hL,hi⟩:=hg
  obtain ⟨Pt,St,Mid,Wt,w1,w2,w3⟩:=W X hP hw hK hc pins s σ H I hL
  subst hP hw hK
  refine Wt.item i s _ _ hi (w1 i st) fun T vals h1 tk pv hT ht mid k1=>?_
  have hTw:T∉wr:=Wt.apart i T h1 mid
  refine ⟨_,rfl,Wt.go elts ct pos i T _ _ _ mid fun h2 st2 k2=>?_⟩
  have ht2:IsTup h2 T (vals.toList).toArray:=by
   obtain ⟨o,a1,a2,nn,a3⟩:=ht
   exact ⟨o,k2 _ _ hTw a1,a2,nn,by simpa using a3⟩
  refine ⟨.ref T,upd H T (.tup (xv i)),I.turnedT (t':=tk) (d':=s.drawn) (ch:=wr) (fun b u hb e=>k2 b u hb (k1 b u hb e)) (fun b hb=>hf b (hwr b hb)) hT ⟨hx i,vals.toList,w3 i vals pv,ht2⟩,rfl,⟨T,I.hok.fresh hT,rfl,rfl⟩,w2 _ _ st2,fun b hb=>?_⟩
  have e:b≠T:=by
   obtain ⟨o,ho,_⟩:=hobj i _ st b hb
   exact hAk (hAi (Heap.lt_size ho) hT)
  rw [qAe e]
  exact (hf b hb).1
 done:=by
  intro X hP hw hK hc i pins s σ H E I hf st hg
  obtain ⟨hL,hi⟩:=hg
  obtain ⟨Pt,St,Mid,Wt,w1,w2,w3⟩:=W X hP hw hK hc pins s σ H I hL
  subst hP hw hK hi
  exact Wt.done s _ _ (w1 _ st) fun h1 tk k1=>⟨rfl,I.turnedL (ch:=wr) (fun b u hb e=>k1 b u hb e) fun b hb=>hf b (hwr b hb)⟩
 self:=hself
theorem zip_apart (n a b:Nat) (h1:a<n) (h2:b<n):ZipApart (n+4) (n+2) (n+3) n (n+1) a b:=by
 constructor <;> (show @Ne Nat _ _;omega)
section
variable {X:Cx}
def iZip (K:PySem.W.Frag) (ta:TA):TI:=fun σ H R=>ta σ H fun vs H1=>∃ (a b:Addr) (xs ys:List V),vs=[.ref a,.ref b]/\SqL K H1 a xs/\SqL K H1 b ys/\R (Itp (min xs.length ys.length) (fun H=>SqL K H a xs/\SqL K H b ys) (fun i=>[xs.getD i .non,ys.getD i .non])) H1
theorem boot_zip:bootBuiltins "zip" = some (.type "zip"):=by decide +kernel
theorem pi_zip {a b:Expr} {ta:TA} {p pos tpos:Pos} {elts:List Expr} {ct:Nat} (hg:Gl X "zip") (hm:X.mg "zip" = none) (ha:PA X [a,b] ta) (hs:starEach [a,b] X.env=[(false,eval a X.env),(false,eval b X.env)]:=by rfl) (hs2:starEach [b] X.env=[(false,eval b X.env)]:=by rfl) :
  PI X (.Tuple elts ct tpos) (.Call (.Name "zip" p) [a,b] [] pos) (iZip X.K ta):=by
 intro pins s σ H R I h
 refine Call_ (qEh I hg hm boot_zip (hCu (thn (ha pos pins s σ H _ I h) fun us s1 ⟨vs,H1,I1,r1,q1⟩=>?_) (by rw [hs,hs2]) (by rw [hs2];rfl)))
 obtain ⟨l1,l2,xs,ys,e,hx,hy,q⟩:=q1
 subst e
 obtain ⟨u1,u2,rfl,r1,r2⟩:=vals2 r1
 cases r1
 cases r2
 obtain ⟨it1,rv1,pl1,hz1⟩:=I1.list hx
 obtain ⟨it2,rv2,pl2,hz2⟩:=I1.list hy
 have n1:=rv1.length
 have n2:=rv2.length
 have b1:l1<s1.heap.objs.size:=by obtain ⟨o,n,e,_⟩:=pl1;exact Heap.lt_size e
 have b2:l2<s1.heap.objs.size:=by obtain ⟨o,n,e,_⟩:=pl2;exact Heap.lt_size e
 refine call_zip_2 pl1.isList pl2.isList fun h1 z1 z2 z3 z4 z5 z6 z7=>?_
 refine wpAny_pyIter_zip z1 ?_
 have D:=zip_apart s1.heap.objs.size l1 l2 b1 b2
 have hfp:∀ b∈[s1.heap.objs.size+4,s1.heap.objs.size+2,s1.heap.objs.size+3,s1.heap.objs.size,s1.heap.objs.size+1],s1.heap.objs.size<=b:=fun b hb=>by
  simp only [hA9,hCf,or_false] at hb
  rcases hb with rfl | rfl | rfl | rfl | rfl
  ·exact hDa _ _
  ·exact hDa _ _
  ·exact hDa _ _
  ·exact hA5 _
  ·exact hDa _ _
 refine ⟨s1.heap.objs.size+4,[s1.heap.objs.size+4,s1.heap.objs.size+2,s1.heap.objs.size+3,s1.heap.objs.size,s1.heap.objs.size+1],
  fun i h=>IsZip h (s1.heap.objs.size+4) (s1.heap.objs.size+2) (s1.heap.objs.size+3) .none/\IsPair h (s1.heap.objs.size+2) (.ref s1.heap.objs.size) (.ref (s1.heap.objs.size+1))/\(∃ a b,IsPair h (s1.heap.objs.size+3) a b)/\h.IsListIter s1.heap.objs.size l1 i/\h.IsListIter (s1.heap.objs.size+1) l2 i,
  _,H1,rfl,I1.kept (t':=s1.toks) z7,
  qF2 (s1.heap.objs.size+4) _ [s1.heap.objs.size+4,s1.heap.objs.size+2,s1.heap.objs.size+3,s1.heap.objs.size,s1.heap.objs.size+1,l1,l2] [s1.heap.objs.size+4,s1.heap.objs.size+3,s1.heap.objs.size,s1.heap.objs.size+1] _ _ _ _ (by simp) (fun b hb=>?_) (fun i h st b hb=>?_) (fun i h h' st k=>?_) (fun i=>by show 2<=sizeLine;decide) ?_ (fun A i s' Q E st hQ=>wpAny_pyIter_zip st.1 hQ),
  ⟨z1,z2,⟨_,_,z3⟩,z4,z5⟩,fun b hb=>I1.fpOk (hfp b hb) (I1.hok.fresh (hfp b hb)),q⟩
 ·simp only [hA9,hCf,or_false] at hb ⊢
  rcases hb with h | h | h | h
  ·exact .inl h
  ·exact .inr (.inr (.inl h))
  ·exact .inr (.inr (.inr (.inl h)))
  ·exact .inr (.inr (.inr (.inr h)))
 ·obtain ⟨a1,a2,⟨c,d,a3⟩,⟨o4,a4,c4,d4⟩,⟨o5,a5,c5,d5⟩⟩:=st
  simp only [hA9,hCf,or_false] at hb
  rcases hb with rfl | rfl | rfl | rfl | rfl
  ·exact ⟨_,a1,fun v z=>by cases z⟩
  ·exact ⟨_,a2,fun v z=>by cases z⟩
  ·exact ⟨_,a3,fun v z=>by cases z⟩
  ·exact ⟨_,a4,fun v z=>by rw [d4] at z;cases z⟩
  ·exact ⟨_,a5,fun v z=>by rw [d5] at z;cases z⟩
 ·obtain ⟨a1,a2,⟨c,d,a3⟩,a4,a5⟩:=st
  exact ⟨k _ (by simp) _ a1,k _ (by simp) _ a2,⟨c,d,k _ (by simp) _ a3⟩,a4.at fun o e=>k _ (by simp) o e,a5.at fun o e=>k _ (by simp) o e⟩
 ·intro X' hP hw hK hc pins' s' σ' H' I' hL
  obtain ⟨hx',hy'⟩:=hL
  rw [<-hK] at hx' hy'
  obtain ⟨jt1,sv1,ql1,_⟩:=I'.list hx'
  obtain ⟨jt2,sv2,ql2,_⟩:=I'.list hy'
  have m1:=sv1.length
  have m2:=sv2.length
  have Wz:=WalksT.zip2 (prog:=X.prog) (w:=X.w) (I'.ok.hd hc) _ _ _ _ _ l1 l2 D jt1.toArray jt2.toArray
  rw [show min jt1.toArray.size jt2.toArray.size=min xs.length ys.length by show min jt1.length jt2.length=_;rw [m1,m2]] at Wz
  refine ⟨_,_,_,Wz,fun i st=>?_,fun i h st=>?_,fun i vals pv=>?_⟩
  ·obtain ⟨a1,a2,a3,a4,a5⟩:=st
   exact ⟨a1,a2,a3,a4,a5,ql1.isList,ql2.isList⟩
  ·obtain ⟨a1,a2,a3,a4,a5,_⟩:=st
   exact ⟨a1,a2,a3,a4,a5⟩
  ·obtain ⟨x,y,e1,e2,rfl⟩:=pv
   have e1:jt1[i]?=some x:=by simpa using e1
   have e2:jt2[i]?=some y:=by simpa using e2
   have c1:i<xs.length:=by rw [m1];exact (hAp.mp e1).1
   have c2:i<ys.length:=by rw [m2];exact (hAp.mp e2).1
   obtain ⟨u,d1,d2⟩:=sv1.get (hA3 c1)
   obtain ⟨v,f1,f2⟩:=sv2.get (hA3 c2)
   rw [e1] at d1
   rw [e2] at f1
   cases d1
   cases f1
   show qA6 [xs.getD i .non,ys.getD i .non] [x,y]
   rw [hAe,hA3 c1,hAe,hA3 c2]
   exact .cons d2 (.cons f2 .nil)
end
section
variable {σ0:St} {g:TG} {tt:TT} {te:TE} {Q:List V->Hp->Prop} {H1:Hp}
theorem turns_tup {n:Nat} {Ls:Hp->Prop} {xv:Nat->List V} (Pv:Nat->List V->Hp->Prop) (h0:Pv 0 [] H1) (hl:∀ i ys H,i<=n->Pv i ys H->Ls H)
  (hs:∀ i ys H T,i<n->Pv i ys H->H T=none->g (.ref T) σ0 (upd H T (.tup (xv i))) fun σ2 H2=>Sle σ0 σ2/\tt σ2 H2 fun b H3=>if b=true then te σ2 H3 (fun v H4=>ys.length<sizeLine/\Nxt n i Pv (ys++[v]) H4) else Nxt n i Pv ys H3)
  (hd:∀ ys H,Pv n ys H->Q ys H):qEj (Itp n Ls xv) σ0 g tt te Q H1:=by
 refine ⟨fun i m ys H=>m=n - i/\i<=n/\Pv i ys H,⟨n,by simp,hAt _,h0⟩,?_⟩
 rintro i m ys H ⟨rfl,hi,p⟩
 have q:=hl i ys H hi p
 by_cases hlt:i<n
 ·refine .inr ⟨⟨q,hlt⟩,fun x H' y=>?_⟩
  obtain ⟨T,e1,e2,e3⟩:=y
  subst e2 e3
  exact hs i ys H T hlt p e1
 ·have e:i=n:=by omega
  subst e
  exact .inl ⟨⟨q,rfl⟩,hd ys H p⟩
end
end L2
namespace L2
open PySem PySem.Spec PyProof.Rows
section
variable {X:Cx} {pins:List (Addr×Obj)} {σ:St} {H H':Hp} {s:Shared}
theorem inv_compO {o0:Obj} {N':List Str} {scope:Scope} {sub:List (Option Nat)} {fp:List Addr} (I:Inv X pins σ H s) (O:CmpOk X.N X.env.scope N' scope sub) (hf:∀ b∈fp,FpOk X pins H b)
  (hfl:∀ b∈fp,b<s.heap.objs.size) (nf:o0.isFreed=false) (nc:∀ v,o0.data≠.cell v) :
  Inv (qBh X scope N' (s.heap.objs.size+1) s H fp) [(s.heap.objs.size,o0)] (subσ sub σ) H
   { s with heap:=pushCells ((s.heap.push o0).push { cls:=.type "dict",data:=.dict #[] }) scope.names }:=by
 have hk3:∀ b o,s.heap.get? b=some o->(s.heap.push o0).get? b=some o:=fun b o e=>Heap.get?_push_of_some _ e
 have sz3:(s.heap.push o0).objs.size=s.heap.objs.size+1:=Heap.size_push ..
 have hk:∀ b o,s.heap.get? b=some o->(pushCells ((s.heap.push o0).push { cls:=.type "dict",data:=.dict #[] }) scope.names).get? b=some o :=
  fun b o e=>pushCells_keeps _ _ b o (Heap.get?_push_of_some _ (hk3 b o e))
 have cf:=qFq (h3:=s.heap.push o0) I O hk3
 rw [sz3] at cf
 have hC:H (s.heap.objs.size+1)=none:=I.hok.fresh (hAx _)
 have nsC:(pushCells ((s.heap.push o0).push { cls:=.type "dict",data:=.dict #[] }) scope.names).Ns (s.heap.objs.size+1) (fun _=>none):=by
  rw [<-sz3]
  exact (Heap.Ns.new _ _).keeps (pushCells_keeps _ _)
 have has:∀ x,(scope.names.lookup x=some .cell\/scope.names.lookup x=some .free)->∃ c,(cellsFrom (s.heap.objs.size+1+1) scope.names (qB0 X.env.cells scope.names [])).lookup x=some c:=fun x hx=>by
  refine hD2.mp (hCv _ _ _ ?_)
  rcases hx with z | z
  ·exact .inl z
  ·exact .inr (qC6 (.inl (hBb z)))
 have kindB:∀ x,(qBm X.env scope (s.heap.objs.size+1)).kindOf x=(scope.names.lookup x).map fun k=>if (k == NameKind.free && X.env.scope.kind == .function && X.env.scope.names.lookup x == some .cell) then NameKind.cell else k:=fun x=>qCu
 have cellOk:∀ x c,(qBm X.env scope (s.heap.objs.size+1)).cells.lookup x=some c->∃ v,(pushCells ((s.heap.push o0).push { cls:=.type "dict",data:=.dict #[] }) scope.names).IsCell c v:=fun x c h=>by
  rcases cf.1 x c h with q | q
  ·exact ⟨_,q.1⟩
  ·obtain ⟨v,z⟩:=I.cell x c q.2
   exact ⟨v,z.keeps hk⟩
 refine ⟨⟨I.ok.mod,O.kind,I.ok.glob,I.ok.blt,hAx _,fun x y c h1 h2=>cf.2 x y c h1 h2,fun x hx=>?_,fun x c hx h=>?_,I.ok.hd,I.ok.frames,.inl rfl,fun b hb=>?_,fun b o e=>I.bs b o e,hAv I.ok.bsz I.sz,fun b o e hb=>?_,fun b hb=>?_,I.stack,I.stkFree⟩,
  rfl,I.bare,Un.kept hk,⟨fun _=>none,nsC,fun i x v h1 h2 h3=>?_⟩,cellOk,hC,fun x c h=>?_,fun p hp=>?_,I.hok.kept hk,?_⟩
 ·-- has
  refine has x ?_
  have hx:(qBm X.env scope (s.heap.objs.size+1)).kindOf x=some .cell\/(qBm X.env scope (s.heap.objs.size+1)).kindOf x=some .free:=hx
  rw [kindB] at hx
  cases e:scope.names.lookup x with
  | none=>rw [e] at hx;rcases hx with z | z <;> cases z
  | some k =>
   rw [e] at hx
   cases k with
   | cell=>exact .inl rfl
   | free=>exact .inr rfl
   | _=>exfalso;rcases hx with z | z <;> simp at z
 ·-- cab
  rcases cf.1 x c h with q | q
  ·have:=q.2.1
   show s.heap.objs.size<=c
   omega
  ·exfalso
   have e:=qBd O.nd q.1
   have hx':(!(scope.names.lookup x == some NameKind.free))=true:=hx
   rw [e] at hx'
   exact absurd hx' (by decide)
 ·-- exf
  obtain ⟨f0,f1,f2,f3,f4,f5⟩:=hf b hb
  have lt:=hfl b hb
  refine ⟨fun e=>?_,fun x c h e=>?_⟩
  ·have e':b=s.heap.objs.size+1:=e
   rw [e'] at lt
   exact absurd lt (Nat.not_lt.mpr (hAx _))
  ·rcases cf.1 x c h with q | q
   ·have z:=q.2.1
    rw [e] at z
    exact absurd lt (Nat.not_lt.mpr (hAv (hAv (hAx _) (hAx _)) z))
   ·exact f4 x c q.2 e
 ·-- noex
  obtain ⟨f0,f1,f2,f3,f4,f5⟩:=hf b hb
  rcases f3 with z | z
  ·exact I.ok.noex b o e z
  ·exact absurd (hAi (Heap.lt_size (I.ok.bs b o e).1) z) (hC0 _)
 ·-- exfs
  obtain ⟨f0,f1,f2,f3,f4,f5⟩:=hf b hb
  exact fun z=>f2 (qGj I z f1)
 ·-- loc
  have h1':N'[i]?=some x:=h1
  have hsub:∃ k,sub[i]?=some (some k)/\(σ[k]?).join=some v:=by
   unfold subσ at h2
   rw [hAj] at h2
   cases e:sub[i]? with
   | none=>rw [e] at h2;cases h2
   | some o =>
    rw [e] at h2
    cases o with
    | none=>cases h2
    | some k=>exact ⟨k,rfl,by simpa using h2⟩
  obtain ⟨k,hk1,hk2⟩:=hsub
  obtain ⟨nk,fx⟩:=O.sub i k x hk1 h1'
  have sk:σ[k]?=some (some v):=by
   cases e:σ[k]? with
   | none=>rw [e] at hk2;cases hk2
   | some o=>rw [e] at hk2;cases o with
    | none=>cases hk2
    | some y=>cases hk2;rfl
  have cx:=O.free _ (hBb fx) rfl
  obtain ⟨m,hn,hl⟩:=I.loc
  obtain ⟨u,ru,lk⟩:=hl k x v nk sk (by
   rcases cx with z | z
   ·exact .inr (.inl z)
   ·exact .inr (.inr z))
  refine ⟨u,ru,.inr ⟨?_,?_⟩⟩
  ·show (qBm X.env scope (s.heap.objs.size+1)).kindOf x=some .cell\/(qBm X.env scope (s.heap.objs.size+1)).kindOf x=some .free
   rw [kindB,fx]
   by_cases hc:(NameKind.free == NameKind.free && X.env.scope.kind == .function && X.env.scope.names.lookup x == some .cell)=true
   ·exact .inl (by rw [hCa,if_pos hc])
   ·exact .inr (by rw [hCa,if_neg hc])
  ·rcases lk with ⟨kl,_⟩ | ⟨_,c,hc,hcell⟩
   ·exfalso
    have kl':X.env.scope.names.lookup x=some .local:=kl
    rcases cx with z | z <;> rw [kl'] at z <;> cases z
   ·obtain ⟨c',hc'⟩:=has x (.inr fx)
    refine ⟨c',hc',?_⟩
    rcases cf.1 x c' hc' with q | q
    ·exfalso
     have e:=qBd O.nd q.2.2
     rw [fx] at e;cases e
    ·rw [hc] at q
     have e:c=c':=hAs q.2
     subst e
     exact hcell.keeps hk
 ·-- freeC
  rcases cf.1 x c h with q | q
  ·exact I.hok.fresh (by have:=q.2.1;omega)
  ·exact I.freeC x c q.2
 ·-- pin
  have hp':p=(s.heap.objs.size,o0):=by
   have:p∈([]++[(s.heap.objs.size,o0)]:List (Addr×Obj)):=hp
   simpa using this
  subst hp'
  refine ⟨pushCells_keeps _ _ _ _ (Heap.get?_push_of_some _ (Heap.get?_push_size _ nf)),I.hok.fresh (hA5 _),hAk (hBl _),fun z=>?_,fun v z=>?_⟩
  ·rcases hA9.mp (I.stkSub _ z) with e | e
   ·exact absurd I.lt (by rw [<-e];exact hC0 _)
   ·exact I.nofs (hA5 _) e
  ·exact nc v z
 ·-- len
  show (subσ sub σ).length=N'.length
  unfold subσ
  rw [hA1,O.len]
theorem Inv.repin {acc:Addr} {o o':Obj} {h':Heap} {t':Nat} (I:Inv X ((acc,o) :: pins) σ H s) (k:∀ b u,b≠acc->s.heap.get? b=some u->h'.get? b=some u) (e:h'.get? acc=some o') (nc:∀ v,o'.data≠.cell v) (hx:acc∈X.ex\/X.s₀.heap.objs.size<=acc) (np:∀ p∈X.pn++pins,p.1≠acc) :
  Inv X ((acc,o') :: pins) σ H { s with heap:=h',toks:=t' }:=by
 have pa:=I.pin (acc,o) (hA6 _ hA2)
 have I1:Inv X pins σ H s:=I.pins_of fun p hp=>I.pin p (hA6 _ (hA4 _ hp))
 have I2:Inv X pins σ H { s with heap:=h',toks:=t' }:=I1.turned (t':=t') (it:=acc) k pa.2.1 pa.2.2.1 hx
  (fun y c hy z=>by
   obtain ⟨w',o2,ho2,hd2⟩:=I.cell y c hy
   rw [z,pa.1] at ho2
   exact pa.2.2.2.2 _ (by cases ho2;exact hd2)) np
 refine I2.pins_of fun p hp=>?_
 rcases hA9.mp hp with z | z
 ·subst z
  exact ⟨e,pa.2.1,pa.2.2.1,pa.2.2.2.1,nc⟩
 ·exact I2.pin p (hA6 _ z)
end
def qBp (tpos:Pos) (it:Value) (target:Expr) (env:Env) (ifs:List Expr) (body:Sem Unit) (k:Sem Fin):Sem Fin:=do
 standAt tpos
 match ← pyNext it with
 | none=>pure (.done .next)
 | some v =>
  letOwnedTupleGo target it v
  assign target env v
  let mut ok:=true
  for c in ifs do
   if ok then ok ← isTrue c env (eval c env)
  if ok then
   body
  k
theorem compLoop_gen {prog:Program} {w:World} {A:Around} {R:Result->Shared->Prop} {s:Shared} {e target:Expr} {d:Nat} {tpos:Pos} {ifs:List Expr} {it acc:Value} {env:Env} {body:Sem Unit} (hsh:compTurn e d it acc env=qBp tpos it target env ifs body (again (.compLoop e d it acc env))) (hdn:∀ (A:Around) (Q:PySem.Fin->Shared->Prop) (E:Value->Shared->Prop) (s:Shared),wpAny (model prog w) A ((compTurn e d it acc env).onRaise (fun x=>do noteFrame x env;theTreesLotGoes x)) Q E s->wpAny (model prog w) (A.under (.compLoop e d it acc env)) ((model prog w).den (.compLoop e d it acc env)) Q E s) (I:Nat->Shared->Prop)
  (turn:∀ n s,I n s->wpAny (model prog w) A (pyNext it) (fun r s₁=>match r with
   | none=>R (.ok .next) s₁
   | some v=>wpAny (model prog w) A (letOwnedTupleGo target it v) (fun _ s₁'=>wpAny (model prog w) A (assign target env v) (fun _ s₂ =>
     wpAny (model prog w) A (forIn ifs true fun c r=>if r=true then do let ok ← isTrue c env (eval c env);pure (ForInStep.yield ok) else pure (ForInStep.yield r)) (fun ok s₃ =>
      if ok=true then wpAny (model prog w) A body (fun _ s₅=>∃ m,m<n/\I m s₅) (fun _ _=>False) s₃
      else ∃ m,m<n/\I m s₃) (fun _ _=>False) s₂) (fun _ _=>False) s₁') (fun _ _=>False) s₁) (fun _ _=>False) s)
  (n:Nat) (h:I n s):codeAny (model prog w) A (.compLoop e d it acc env) R s:=by
 refine codeAny_loop rfl I (fun n s hI=>?_) n h
 refine hdn _ _ _ _ (wpAny_noted ?_)
 rw [hsh]
 unfold qBp
 refine wpAny_bind (wpAny_standAt (wpAny_bind (wpAny_mono (turn n s hI) (fun r s₁ h₁=>?_) fun _ _ h'=>h'.elim)))
 cases r with
 | none=>exact wpAny_pure h₁
 | some v =>
  refine wpAny_bind (wpAny_mono h₁ (fun _ s₁' h₁=>?_) fun _ _ h'=>h'.elim)
  refine wpAny_bind (wpAny_mono h₁ (fun _ s₂ h₂=>wpAny_bind (wpAny_mono h₂ (fun ok s₃ h₃=>?_) fun _ _ h'=>h'.elim)) fun _ _ h'=>h'.elim)
  cases ok with
  | false=>exact wpAny_pure ⟨rfl,h₃⟩
  | true=>exact wpAny_bind (wpAny_mono h₃ (fun _ s₅ h₅=>wpAny_pure ⟨rfl,h₅⟩) fun _ _ h'=>h'.elim)
section
variable {AS:Type}
abbrev TB (AS:Type):=AS->St->Hp->(AS->St->Hp->Prop)->Prop
def PBd (X:Cx) (AO:AS->Obj->Prop) (acc:Addr) (body:Sem Unit) (tb:TB AS):Prop :=
 ∀ (pins:List (Addr×Obj)) (s:Shared) (σ:St) (H:Hp) (a:AS) (o:Obj) (Q:AS->St->Hp->Prop),Inv X ((acc,o) :: pins) σ H s->(∀ p∈X.pn++pins,p.1≠acc)->(acc∈X.ex\/X.s₀.heap.objs.size<=acc)->AO a o->tb a σ H Q ->
  wpAny (model X.prog X.w) X.A body (fun _ s'=>∃ (a':AS) (o':Obj) (σ':St) (H':Hp),Inv X ((acc,o') :: pins) σ' H' s'/\AO a' o'/\Q a' σ' H') (fun _ _=>False) s
def qFo (J:It) (g:TG) (tt:TT) (tb:TB AS) (Q:AS->St->Hp->Prop) (a0:AS) (σ0:St) (H0:Hp):Prop :=
 ∃ W:Nat->Nat->AS->St->Hp->Prop,(∃ m,W 0 m a0 σ0 H0)/\∀ i m a σ H,W i m a σ H ->
  (J.stop i H/\Q a σ H) \/
  (J.go i H/\∀ x H',J.yld i H x H'->g x σ H' fun σ2 H2=>tt σ2 H2 fun b H3 =>
   if b=true then tb a σ2 H3 (fun a' σ' H'=>∃ m',m'<m/\W (i+1) m' a' σ' H') else ∃ m',m'<m/\W (i+1) m' a σ2 H3)
theorem gloop {X:Cx} {AO:AS->Obj->Prop} {e target:Expr} {d:Nat} {tpos:Pos} {ifs:List Expr} {J:It} {fp:List Addr} {it acc:Addr} {tn:Nat->Heap->Prop} {body:Sem Unit} {g:TG} {tt:TT} {tb:TB AS} {Q:AS->St->Hp->Prop} {R:Result->Shared->Prop}
  {pins:List (Addr×Obj)} {s:Shared} {σ:St} {H:Hp} {a:AS} {o:Obj}
  (hc:X.calm=true) (xxe:X.xe=fun _ _=>False) (hsh:compTurn e d (.ref it) (.ref acc) X.env=qBp tpos (.ref it) target X.env ifs body (again (.compLoop e d (.ref it) (.ref acc) X.env))) (hdn:∀ (A:Around) (Q:PySem.Fin->Shared->Prop) (E:Value->Shared->Prop) (s:Shared),wpAny (model X.prog X.w) A ((compTurn e d (.ref it) (.ref acc) X.env).onRaise (fun x=>do noteFrame x X.env;theTreesLotGoes x)) Q E s->wpAny (model X.prog X.w) (A.under (.compLoop e d (.ref it) (.ref acc) X.env)) ((model X.prog X.w).den (.compLoop e d (.ref it) (.ref acc) X.env)) Q E s)
  (T:Turn X.prog X.w X.K target J fp it tn) (st:tn 0 s.heap) (hf:∀ b∈fp,FpOk X ((acc,o) :: pins) H b) (hg:PG X target g) (ht:PTs X ifs tt) (hb:PBd X AO acc body tb)
  (I:Inv X ((acc,o) :: pins) σ H s) (np:∀ p∈X.pn++pins,p.1≠acc) (hx:acc∈X.ex\/X.s₀.heap.objs.size<=acc) (ha:AO a o) (rd:qFo J g tt tb Q a σ H)
  (hR:∀ (s':Shared) (a':AS) (o':Obj) (σ':St) (H':Hp),Inv X ((acc,o') :: pins) σ' H' s'->AO a' o'->Q a' σ' H'->(∀ b∈fp,H' b=none)->R (.ok .next) s') :
  codeAny (model X.prog X.w) X.A (.compLoop e d (.ref it) (.ref acc) X.env) R s:=by
 obtain ⟨W,⟨m0,w0⟩,turn⟩:=rd
 have stat:∀ {o':Obj} {H':Hp},(∀ b∈fp,H' b=none)->∀ b∈fp,FpOk X ((acc,o') :: pins) H' b:=fun {o' H'} hn b hb=>by
  obtain ⟨f0,f1,f2,f3,f4,f5⟩:=hf b hb
  refine ⟨hn b hb,f1,f2,f3,f4,fun p hp=>?_⟩
  rcases hAf.mp hp with z | z
  ·exact f5 p (hAm _ z)
  ·rcases hA9.mp z with z | z
   ·rw [z];exact f5 (acc,o) (hA6 _ hA2)
   ·exact f5 p (hA6 _ (hA4 _ z))
 refine compLoop_gen hsh hdn (fun n s'=>∃ (i:Nat) (a':AS) (o':Obj) (σ':St) (H':Hp),Inv X ((acc,o') :: pins) σ' H' s'/\AO a' o'/\tn i s'.heap/\(∀ b∈fp,H' b=none)/\W i n a' σ' H') ?_ m0 ⟨0,a,o,σ,H,I,ha,st,fun b hb=>(hf b hb).1,w0⟩
 rintro n s4 ⟨i,a4,o4,σ4,H4,I4,ha4,st4,fr4,w4⟩
 rcases turn i n a4 σ4 H4 w4 with ⟨stop,q⟩ | ⟨go,step⟩
 ·refine thn (T.done X rfl rfl rfl hc i _ s4 σ4 H4 (fun _ _=>False) I4 (stat fr4) st4 stop) fun r s5 ⟨hr,I5⟩=>?_
  subst hr
  exact hR s5 a4 o4 σ4 H4 I5 ha4 q fr4
 ·refine thn (T.item X rfl rfl rfl hc i _ s4 σ4 H4 (fun _ _=>False) I4 (stat fr4) st4 go) fun r s5 ⟨u,hr,h5⟩=>?_
  subst hr
  refine thn h5 fun _ s6 ⟨x,H6,I6,r6,y6,st6,fr6⟩=>?_
  have I6':=I6.pinned (stat fr6) (T.obj _ _ st6)
  have back:∀ {o':Obj} {σ':St} {H':Hp} {s':Shared},Inv X ((acc,o') :: (pins++pinsAt fp s6.heap)) σ' H' s'->Inv X ((acc,o') :: pins) σ' H' s'/\tn (i+1) s'.heap/\∀ b∈fp,H' b=none:=fun {o' σ' H' s'} I'=>by
   refine ⟨Inv.unpinned (pl:=pinsAt fp s6.heap) I',T.keep _ _ _ st6 fun b hb o e=>?_,fun b hb=>?_⟩
   ·exact (I'.pin (b,o) (hA6 _ (hA4 _ (hA6 _ (qBi hb e))))).1
   ·obtain ⟨o,e,d⟩:=T.obj _ _ st6 b hb
    exact (I'.pin (b,o) (hA6 _ (hA4 _ (hA6 _ (qBi hb e))))).2.1
  have np':∀ p∈X.pn++(pins++pinsAt fp s6.heap),p.1≠acc:=fun p hp=>by
   rcases hAf.mp hp with z | z
   ·exact np p (hAm _ z)
   ·rcases hAf.mp z with z | z
    ·exact np p (hA6 _ z)
    ·obtain ⟨hb,_⟩:=of_pinsAt z
     exact Ne.symm ((stat (o':=o4) fr6 p.1 hb).2.2.2.2.2 (acc,o4) (hA6 _ hA2))
  have tg:=hg _ s6 σ4 H6 x u _ I6' r6 (step x H6 y6)
  rw [xxe] at tg
  refine thn tg fun _ s7 ⟨σ7,H7,I7,q7⟩=>?_
  have tts:=ht _ s7 σ7 H7 _ I7 q7
  rw [xxe] at tts
  refine thn tts fun b s8 ⟨H8,I8,q8⟩=>?_
  cases b with
  | false =>
   rw [if_neg hAn] at q8 ⊢
   obtain ⟨m',hm',w8⟩:=q8
   obtain ⟨b1,b2,b3⟩:=back I8
   exact ⟨m',hm',i+1,a4,o4,σ7,H8,b1,ha4,b2,b3,w8⟩
  | true =>
   rw [if_pos rfl] at q8 ⊢
   refine thn (hb _ s8 σ7 H8 a4 o4 _ I8 np' hx ha4 q8) fun _ s9 ⟨a9,o9,σ9,H9,I9,ha9,m',hm',w9⟩=>?_
   obtain ⟨b1,b2,b3⟩:=back I9
   exact ⟨m',hm',i+1,a9,o9,σ9,H9,b1,ha9,b2,b3,w9⟩
end
end L2
namespace L2
open PySem PySem.Spec PyProof.Rows
theorem qDr {prog:Program} {w:World} {A:Around} {R:Result->Shared->Prop} {s:Shared} {e:Expr} {d:Nat} {g:Comprehension} {it acc:Value} {env:Env} (hcl:(clausesOf e)[d]?=some g) (hga:g.is_async=0)
  (hdn:∀ (A:Around) (Q:PySem.Fin->Shared->Prop) (E:Value->Shared->Prop) (s:Shared),wpAny (model prog w) A ((compStart e d it acc env).onRaise (fun x=>do noteFrame x env;standAt theWindowsPlace)) Q E s->wpAny (model prog w) (A.under (.compStart e d it acc env)) ((model prog w).den (.compStart e d it acc env)) Q E s)
  (hq:∀ it',(Code.compLoop e d it' acc env).quiet=true)
  (h0:codeAny (model prog w) A (.compLoop e d it acc env) R s)
  (h:wpAny (model prog w) A (pyIter it) (fun it' s'=>codeAny (model prog w) A (.compLoop e d it' acc env) R s') (fun _ _=>False) s):codeAny (model prog w) A (.compStart e d it acc env) R s:=by
 refine codeAny_of_tree (hdn _ _ _ _ (wpAny_notedAt ?_))
 unfold compStart
 rw [hcl]
 show wpAny _ _ (if (g.is_async != 0)=true then _ else _) _ _ s
 rw [if_neg (by rw [hga];decide)]
 refine wpAny_bind (wpAny_askSetting (wpAny_ite ?_))
 split
 ·first
   | exact wpAny_bind (wpAny_pure (wpAny_pure (And.intro (hq _) h0)))
   | exact wpAny_pure (And.intro (hq _) h0)
 ·exact wpAny_bind (wpAny_rule (wpAny_bind (wpAny_standAt (wpAny_bind (wpAny_mono h (fun it' s' h'=>wpAny_pure (And.intro (hq _) h')) fun _ _ x=>x.elim)))))
section
variable {X:Cx} {pins:List (Addr×Obj)} {σ:St} {H:Hp} {s:Shared} {AS:Type}
theorem gcore {e target:Expr} {gcl:Comprehension} {tpos:Pos} {ifs:List Expr} {scope:Scope} {N':List Str} {sub:List (Option Nat)} {J:It} {fp:List Addr} {it:Addr} {tn:Nat->Heap->Prop} {g:TG} {tt:TT} {tb:TB AS} {o0:Obj} {a0:AS} {AO:AS->Obj->Prop} {HOf:Addr->AS->HO} {newAcc:Sem Value} {body:Addr->Env->Sem Unit}
  {Qe:AS->Hp->Prop} {E:Value->Shared->Prop} {RR:Value->Addr->Result->Shared->Prop}
  (hnew:∀ (A:Around) (s:Shared) (Q:Value->Shared->Prop) (E:Value->Shared->Prop),Q (.ref s.heap.objs.size) { s with heap:=s.heap.push o0 }->wpAny (model X.prog X.w) A newAcc Q E s) (nf:o0.isFreed=false) (nc:∀ a o,AO a o->∀ v,o.data≠.cell v) (hA0:AO a0 o0)
  (hHO:∀ (H':Hp) (h:Heap) (acc:Addr) (a:AS) (o:Obj),sysModules<acc->AO a o->h.get? acc=some o->qBf X.prog X.w H' h acc (HOf acc a))
  (hcl:(clausesOf e)[0]?=some gcl) (hga:gcl.is_async=0)
  (hdnS:∀ (it acc:Value) (env:Env) (A:Around) (Q:PySem.Fin->Shared->Prop) (E:Value->Shared->Prop) (s:Shared),wpAny (model X.prog X.w) A ((compStart e 0 it acc env).onRaise (fun x=>do noteFrame x env;standAt theWindowsPlace)) Q E s->wpAny (model X.prog X.w) (A.under (.compStart e 0 it acc env)) ((model X.prog X.w).den (.compStart e 0 it acc env)) Q E s)
  (hdnL:∀ (it acc:Value) (env:Env) (A:Around) (Q:PySem.Fin->Shared->Prop) (E:Value->Shared->Prop) (s:Shared),wpAny (model X.prog X.w) A ((compTurn e 0 it acc env).onRaise (fun x=>do noteFrame x env;theTreesLotGoes x)) Q E s->wpAny (model X.prog X.w) (A.under (.compLoop e 0 it acc env)) ((model X.prog X.w).den (.compLoop e 0 it acc env)) Q E s)
  (hq:∀ it acc env,(Code.compLoop e 0 it acc env).quiet=true)
  (hsh:∀ (it acc:Addr) (env:Env),compTurn e 0 (.ref it) (.ref acc) env=qBp tpos (.ref it) target env ifs (body acc env) (again (.compLoop e 0 (.ref it) (.ref acc) env)))
  (hc:X.calm=true) (I:Inv X pins σ H s) (O:CmpOk X.N X.env.scope N' scope sub) (T:Turn X.prog X.w X.K target J fp it tn) (st:tn 0 s.heap) (hf:∀ b∈fp,FpOk X pins H b)
  (B:∀ C s H fp,PG (qBh X scope N' C s H fp) target g/\PTs (qBh X scope N' C s H fp) ifs tt/\∀ acc,PBd (qBh X scope N' C s H fp) AO acc (body acc (qBh X scope N' C s H fp).env) tb)
  (rd:qFo J g tt tb (fun a _ H'=>Qe a H') a0 (subσ sub σ) H)
  (hRR:∀ (acc C:Addr) (a:AS) (H':Hp) (s':Shared),Inv X pins σ (upd H' acc (HOf acc a)) s'->FpOk X pins (upd H' acc (HOf acc a)) C->(∃ m,s'.heap.Ns C m)->H' acc=none->Qe a H'->RR (.ref acc) C (.ok .next) s') :
  wpAny (model X.prog X.w) X.A newAcc (fun acc s₃=>wpAny (model X.prog X.w) X.A (newFunctionEnv scope X.env.globals (qB0 X.env.cells scope.names []) [] X.env.qual none .none (some X.env)) (fun cenv s₄ =>
   codeAny (model X.prog X.w) X.A (.compStart e 0 (.ref it) acc { cenv with scope:=relabel scope X.env }) (RR acc cenv.locals) s₄) E s₃) E s:=by
 refine hnew _ _ _ _ (qDf ?_)
 have hfl:∀ b∈fp,b<s.heap.objs.size:=fun b hb=>by
  obtain ⟨o,e,_⟩:=T.obj _ _ st b hb
  exact Heap.lt_size e
 have I0:=inv_compO (o0:=o0) (sub:=sub) I O hf hfl nf (nc a0 o0 hA0)
 have sz3:(s.heap.push o0).objs.size=s.heap.objs.size+1:=Heap.size_push ..
 dsimp only
 show codeAny _ _ (.compStart _ 0 (.ref it) (.ref s.heap.objs.size) { scope:=relabel scope X.env,locals:=(s.heap.push o0).objs.size,globals:=X.env.globals,cells:=cellsFrom ((s.heap.push o0).objs.size+1) scope.names (qB0 X.env.cells scope.names []),qual:=X.env.qual,func:=none,code:=X.env.code,frame:=X.env.frame,builtins:=X.env.builtins })
  (RR (.ref s.heap.objs.size) (s.heap.push o0).objs.size) { s with heap:=pushCells ((s.heap.push o0).push { cls:=.type "dict",data:=.dict #[] }) scope.names }
 rw [sz3]
 show codeAny _ _ (.compStart _ 0 (.ref it) (.ref s.heap.objs.size) (qBm X.env scope (s.heap.objs.size+1))) (RR (.ref s.heap.objs.size) (s.heap.objs.size+1)) _
 generalize hs0:({ s with heap:=pushCells ((s.heap.push o0).push { cls:=.type "dict",data:=.dict #[] }) scope.names }:Shared)=s0 at I0 ⊢
 have hk0:∀ b o,s.heap.get? b=some o->s0.heap.get? b=some o:=fun b o e=>by
  rw [<-hs0]
  exact pushCells_keeps _ _ b o (Heap.get?_push_of_some _ (Heap.get?_push_of_some _ e))
 have st0:tn 0 s0.heap:=T.keep _ _ _ st fun b hb o e=>hk0 b o e
 clear hs0 sz3
 generalize hX:qBh X scope N' (s.heap.objs.size+1) s H fp=X' at I0
 have xp:X'.prog=X.prog:=by rw [<-hX];rfl
 have xw:X'.w=X.w:=by rw [<-hX];rfl
 have xK:X'.K=X.K:=by rw [<-hX];rfl
 have xA:X'.A=X.A:=by rw [<-hX];rfl
 have xc:X'.calm=true:=by rw [<-hX];exact hc
 have xe:X'.env=qBm X.env scope (s.heap.objs.size+1):=by rw [<-hX];rfl
 have xx:X'.ex=fp:=by rw [<-hX];rfl
 have xf:X'.fs=frs X.stack:=by rw [<-hX];rfl
 have xpn:X'.pn=[]:=by rw [<-hX];rfl
 have x0:X'.s₀=s:=by rw [<-hX];rfl
 have xh:X'.H₀=H:=by rw [<-hX];rfl
 have xxe:X'.xe=fun _ _=>False:=by rw [<-hX];rfl
 obtain ⟨hg,ht,hbd⟩:=B (s.heap.objs.size+1) s H fp
 rw [hX] at hg ht hbd
 clear hX
 have f0':∀ b∈fp,FpOk X' [(s.heap.objs.size,o0)] H b:=fun b hb=>by
  obtain ⟨f0,f1,f2,f3,f4,f5⟩:=hf b hb
  refine ⟨f0,(I0.ok.exf b (by rw [xx];exact hb)).1,I0.ok.exfs b (by rw [xx];exact hb),.inl (by rw [xx];exact hb),(I0.ok.exf b (by rw [xx];exact hb)).2,fun p hp'=>?_⟩
  rw [xpn,List.nil_append,hA7] at hp'
  rw [hp']
  exact hCd (hfl b hb)
 have loop:codeAny (model X.prog X.w) X.A (.compLoop e 0 (.ref it) (.ref s.heap.objs.size) (qBm X.env scope (s.heap.objs.size+1))) (RR (.ref s.heap.objs.size) (s.heap.objs.size+1)) s0:=by
  have T':Turn X'.prog X'.w X'.K target J fp it tn:=by rw [xp,xw,xK];exact T
  have hb0:=hbd s.heap.objs.size
  have key:=gloop (X:=X') (AO:=AO) (e:=e) (d:=0) (tpos:=tpos) (R:=RR (.ref s.heap.objs.size) (s.heap.objs.size+1)) (pins:=[]) (a:=a0) (o:=o0) (acc:=s.heap.objs.size) xc xxe (hsh it s.heap.objs.size X'.env) (by rw [xp,xw];exact hdnL _ _ _) T' st0 f0' hg ht hb0 I0 (by rw [xpn];exact fun p hp=>absurd hp (by simp)) (.inr (by rw [x0];exact hA5 _)) hA0 rd ?_
  ·rw [xp,xw,xA,xe] at key
   exact key
  intro s5 a5 o5 σ5 H4 I5 ha5 q fr5
  have pa:=I5.pin (s.heap.objs.size,o5) (by rw [xpn];simp)
  have nacc:H4 s.heap.objs.size=none:=pa.2.1
  have nC:H4 (s.heap.objs.size+1)=none:=by have z:=I5.free;rw [xe] at z;exact z
  have un:Un (frs X.stack) fp H H4 s.heap s5.heap:=by have z:=I5.base;rw [xf,xx,xh,x0] at z;exact z
  have un2:Un (frs X.stack) fp H (upd H4 s.heap.objs.size (HOf s.heap.objs.size a5)) s.heap s5.heap:=by
   refine ⟨un.keep,un.slot,fun b o e n hx=>?_,un.there,fun b xs e=>?_,fun b o u e=>?_,fun b ps e=>?_⟩
   ·rw [qAe (hAk (Heap.lt_size e))]
    exact un.free b o e n hx
   ·have z:=un.tups b xs e
    rw [qAe (qAd z nacc)];exact z
   ·have z:=un.frzs b o u e
    rw [qAe (qAd z nacc)];exact z
   ·obtain ⟨more,z⟩:=un.tbls b ps e
    exact ⟨more,by rw [qAe (qAd z nacc)];exact z⟩
  have hok5:HOk X.prog X.w H4 s5.heap:=by have z:=I5.hok;rw [xp,xw] at z;exact z
  have hok2:HOk X.prog X.w (upd H4 s.heap.objs.size (HOf s.heap.objs.size a5)) s5.heap:=fun b u e=>by
   by_cases hb:b=s.heap.objs.size
   ·subst hb
    rw [upd_same] at e
    cases e
    exact hHO _ _ _ _ _ I.big ha5 pa.1
   ·rw [qAe hb] at e
    exact (hok5 b u e).stay (fun _ _ _ q=>q) (fun c q=>by rw [qAe (qAd q nacc)];exact q) fun c xs q=>by rw [qAe (qAd q nacc)];exact q
  have os5:s5.os=s.os:=by have z:=I5.os;rw [x0] at z;exact z
  have J5:Inv X pins σ (upd H4 s.heap.objs.size (HOf s.heap.objs.size a5)) s5:=I.call' os5 un2 hok2 I5.bare fun b hb=>by
   obtain ⟨f0,f1,f2,f3,f4,f5⟩:=hf b hb
   exact ⟨f3,f1,f4,f5⟩
  refine hRR _ _ a5 H4 s5 J5 (I.fpOk (hAx _) ?_) ?_ nacc q
  ·rw [qAe (Nat.succ_ne_self _)];exact nC
  ·obtain ⟨m,hn,_⟩:=I5.loc
   rw [xe] at hn
   exact ⟨m,hn⟩
 exact qDr hcl hga (hdnS _ _ _) (fun it'=>hq _ _ _) loop (T.self _ 0 _ _ _ st0 loop)
end
end L2
namespace L2
open PySem PySem.Spec PyProof.Rows
def qC3 (e iter2:Expr) (acc:Addr) (env:Env):Sem Unit:=do
 let x ← eval iter2 env
 standAt iter2.pos
 let x ← foldedSetIterable iter2 env x
 let _ ← runOwn (.compStart e 1 (← holding [x] (pyIter x)) (.ref acc) env) env
def tNest {AS:Type} (wi:TI) (g:TG) (tt:TT) (tb:TB AS):TB AS:=fun a σ H Q=>wi σ H fun J H1=>qFo J g tt tb Q a σ H1
theorem pbd_nest {X:Cx} {AS:Type} {AO:AS->Obj->Prop} {acc:Addr} {e iter2 target2:Expr} {ifs2:List Expr} {tpos2:Pos} {gcl:Comprehension} {body:Sem Unit} {wi:TI} {g:TG} {tt:TT} {tb:TB AS} (hc:X.calm=true) (xxe:X.xe=fun _ _=>False)
  (hi:PI X target2 iter2 wi) (hg:PG X target2 g) (ht:PTs X ifs2 tt) (hb:PBd X AO acc body tb) (hfold:∀ x,foldedSetIterable iter2 X.env x=pure x)
  (hcl:(clausesOf e)[1]?=some gcl) (hga:gcl.is_async=0)
  (hsh:∀ it:Addr,compTurn e 1 (.ref it) (.ref acc) X.env=qBp tpos2 (.ref it) target2 X.env ifs2 body (again (.compLoop e 1 (.ref it) (.ref acc) X.env)))
  (hdnS:∀ (it:Value) (A:Around) (Q:PySem.Fin->Shared->Prop) (E:Value->Shared->Prop) (s:Shared),wpAny (model X.prog X.w) A ((compStart e 1 it (.ref acc) X.env).onRaise (fun x=>do noteFrame x X.env;standAt theWindowsPlace)) Q E s->wpAny (model X.prog X.w) (A.under (.compStart e 1 it (.ref acc) X.env)) ((model X.prog X.w).den (.compStart e 1 it (.ref acc) X.env)) Q E s)
  (hdnL:∀ (it:Value) (A:Around) (Q:PySem.Fin->Shared->Prop) (E:Value->Shared->Prop) (s:Shared),wpAny (model X.prog X.w) A ((compTurn e 1 it (.ref acc) X.env).onRaise (fun x=>do noteFrame x X.env;theTreesLotGoes x)) Q E s->wpAny (model X.prog X.w) (A.under (.compLoop e 1 it (.ref acc) X.env)) ((model X.prog X.w).den (.compLoop e 1 it (.ref acc) X.env)) Q E s)
  (hq:∀ it,(Code.compLoop e 1 it (.ref acc) X.env).quiet=true):PBd X AO acc (qC3 e iter2 acc X.env) (tNest wi g tt tb):=by
 intro pins s σ H a o Q I np hx ha h
 have h0:=hi _ s σ H _ I h
 rw [xxe] at h0
 unfold qC3
 refine wpAny_bind (thn h0 fun v s1 h1=>wpAny_bind (wpAny_standAt (wpAny_bind (wpAny_of_eq (hfold v) (wpAny_bind (wpAny_holding (thn h1 fun itv s2 h2=>?_)))))))
 obtain ⟨it,fp,tn,J,H2,e2,I2,T,st2,f2,rd⟩:=h2
 subst e2
 refine wpAny_bind (wpAny_runOwn ?_)
 have loop:=gloop (X:=X) (AO:=AO) (e:=e) (d:=1) (tpos:=tpos2) (R:=fun r s'=>match r with
   | .ok f=>wpAny (model X.prog X.w) X.A (pure ():Sem Unit) (fun _ s'=>∃ (a':AS) (o':Obj) (σ':St) (H':Hp),Inv X ((acc,o') :: pins) σ' H' s'/\AO a' o'/\Q a' σ' H') (fun _ _=>False) s'
   | .error e=>cameBackBy (model X.prog X.w) X.A X.env (fun _ _=>False) e s') hc xxe (hsh it) (hdnL _) T st2 f2 hg ht hb I2 np hx ha rd
  (fun s' a' o' σ' H' I' ha' q' _=>wpAny_pure ⟨a',o',σ',H',I',ha',q'⟩)
 exact qDr hcl hga (hdnS _) hq loop (T.self _ 0 _ _ _ st2 loop)
def qFu (P:Program) (w:World) (ss:List Str) (o:Obj):Prop :=
 ∃ (es:Array (Int×Value)) (ep:Nat) (t:SetTable),o=sOb es ep t/\ElemsOf (PySem.strKind P w) es.toList/\StrsAre (es.toList.map (·.2)) ss/\es.size<scanBound/\t.fits es.size=true/\t.led=!w.params.followText "set-order"/\(es.size≠0->t.plain=false)
theorem qFu.set {P:Program} {w:World} {ss:List Str} {o:Obj} {h:Heap} {a:Addr} (x:qFu P w ss o) (e:h.get? a=some o):qA8 P w h a ss:=by
 obtain ⟨es,ep,t,rfl,r⟩:=x
 exact ⟨es,ep,t,e,r⟩
theorem qA8.obj {P:Program} {w:World} {ss:List Str} {h:Heap} {a:Addr} (x:qA8 P w h a ss):∃ o,h.get? a=some o/\qFu P w ss o:=by
 obtain ⟨es,ep,t,e,r⟩:=x
 exact ⟨_,e,es,ep,t,rfl,r⟩
theorem qFu.nocell {P:Program} {w:World} {ss:List Str} {o:Obj} (x:qFu P w ss o):∀ v,o.data≠.cell v:=by
 obtain ⟨es,ep,t,rfl,_⟩:=x
 intro v z;cases z
def setBody (elt:Expr) (acc:Addr) (env:Env):Sem Unit:=do
 let v ← eval elt env
 standAt elt.pos
 let _ ← call (.builtin "set.add") [.ref acc,v]
def tPut (te:TE):TB (List Str):=fun ss σ H Q=>te σ H fun v H'=>∃ x:Str,v = .str x/\ss.length<1000/\∀ ss',(if x∈ss then ss'=ss else ss'.Perm (ss++[x]))->Q ss' σ H'
theorem pbd_set {X:Cx} {acc:Addr} {elt:Expr} {te:TE} (xxe:X.xe=fun _ _=>False) (he:PE X elt te):PBd X (qFu X.prog X.w) acc (setBody elt acc X.env) (tPut te):=by
 intro pins s σ H a o Q I np hx ha h
 have h0:=he _ s σ H _ I h
 rw [xxe] at h0
 unfold setBody
 refine wpAny_bind (thn h0 fun v s1 ⟨y,H1,I1,r1,x,ex,hl,q⟩=>wpAny_bind (wpAny_standAt (wpAny_bind ?_)))
 subst ex
 obtain ⟨tk,rfl⟩:=r1
 have pa:=I1.pin (acc,o) (hA6 _ hA2)
 have hS:qA8 X.prog X.w s1.heap acc a:=ha.set pa.1
 have hT:s1.TypeIs (.ref acc) "set":=by
  obtain ⟨es,ep,t,ho,_⟩:=hS
  exact ⟨_,ho,rfl⟩
 refine wpAny_call_entry PySem.F.slot_set_add hT PySem.F.entry_set_add ?_ (PySem.F.args_set_add_2 _ _)
 unfold Builtin.«set.add» Builtin.Frozenset.oneOther
 simp only [List.isEmpty_nil,bind_assoc]
 unfold Builtin.Frozenset.addrOf setAdd
 refine wpAny_bind (wpAny_pure ?_)
 try dsimp only
 refine wpAny_bind (wpAny_pure ?_)
 try dsimp only
 refine wpAny_bind (wpAny_holding (wpAny_bind ((PySem.strKind X.prog X.w).pyHash (strKind_is X.prog X.w x tk) ?_)))
 refine tset_add (s:={ s1 with toks:=s1.toks+1 }) hS (by have:scanBound=4096:=rfl;omega) fun h2 ss2 sb2 hS2 q2=>?_
 show wpAny _ _ (ret Value.none) _ _ _
 refine wpAny_pure ⟨_,rfl,wpAny_pure ?_⟩
 obtain ⟨o2,e2,ho2⟩:=hS2.obj
 exact ⟨ss2,o2,σ,H1,I1.repin (t':=s1.toks+1) (fun b u hb e=>(sb2.2 b hb).trans e) e2 ho2.nocell hx np,ho2,q ss2 q2⟩
end L2
namespace L2
open PySem PySem.Spec PyProof.Rows
structure GC (P:Program) (w:World) {AS:Type} (e target iter:Expr) (ifs:List Expr) (scope:Scope) (tpos:Pos) (newAcc:Sem Value) (body:Addr->Env->Sem Unit) (o0:Obj) (a0:AS) (AO:AS->Obj->Prop) (HOf:Addr->AS->HO):Prop where
 new:∀ (A:Around) (s:Shared) (Q:Value->Shared->Prop) (E:Value->Shared->Prop),Q (.ref s.heap.objs.size) { s with heap:=s.heap.push o0 }->wpAny (model P w) A newAcc Q E s
 nf:o0.isFreed=false
 nc:∀ a o,AO a o->∀ v,o.data≠.cell v
 hA0:AO a0 o0
 hHO:∀ (H':Hp) (h:Heap) (acc:Addr) (a:AS) (o:Obj),sysModules<acc->AO a o->h.get? acc=some o->qBf P w H' h acc (HOf acc a)
 cl:∃ gs,clausesOf e=⟨target,iter,ifs,0⟩ :: gs
 dnS:∀ (it acc:Value) (env:Env) (A:Around) (Q:PySem.Fin->Shared->Prop) (E:Value->Shared->Prop) (s:Shared),wpAny (model P w) A ((compStart e 0 it acc env).onRaise (fun x=>do noteFrame x env;standAt theWindowsPlace)) Q E s->wpAny (model P w) (A.under (.compStart e 0 it acc env)) ((model P w).den (.compStart e 0 it acc env)) Q E s
 dnL:∀ (it acc:Value) (env:Env) (A:Around) (Q:PySem.Fin->Shared->Prop) (E:Value->Shared->Prop) (s:Shared),wpAny (model P w) A ((compTurn e 0 it acc env).onRaise (fun x=>do noteFrame x env;theTreesLotGoes x)) Q E s->wpAny (model P w) (A.under (.compLoop e 0 it acc env)) ((model P w).den (.compLoop e 0 it acc env)) Q E s
 q:∀ it acc env,(Code.compLoop e 0 it acc env).quiet=true
 sh:∀ (it acc:Addr) (env:Env),compTurn e 0 (.ref it) (.ref acc) env=qBp tpos (.ref it) target env ifs (body acc env) (again (.compLoop e 0 (.ref it) (.ref acc) env))
def tGath {AS:Type} (sub:List (Option Nat)) (wi:TI) (g:TG) (tt:TT) (tb:TB AS) (a0:AS) (HOf:Addr->AS->HO):TE:=fun σ H Q=>wi σ H fun J H1 =>
 qFo J g tt tb (fun a _ H'=>∀ r,H' r=none->Q (.ref r) (upd H' r (HOf r a))) a0 (subσ sub σ) H1
section
variable {X:Cx} {AS:Type} {e target iter:Expr} {ifs:List Expr} {scope sc:Scope} {pos tpos cpos:Pos} {N N':List Str} {sub:List (Option Nat)} {wi:TI} {g:TG} {tt:TT} {tb:TB AS} {newAcc:Sem Value} {body:Addr->Env->Sem Unit} {o0:Obj} {a0:AS} {AO:AS->Obj->Prop} {HOf:Addr->AS->HO}
theorem pe_g (GG:GC X.prog X.w e target iter ifs scope tpos newAcc body o0 a0 AO HOf) (hev:eval e X.env=comprehension e scope X.env cpos newAcc false (eval iter X.env)) (hN:X.N=N) (hsc:X.env.scope=sc) (O:CmpOk N sc N' scope sub) (hc:X.calm=true) (hi:PI X target iter wi)
  (B:∀ C s H fp,PG (qBh X scope N' C s H fp) target g/\PTs (qBh X scope N' C s H fp) ifs tt/\∀ acc,PBd (qBh X scope N' C s H fp) AO acc (body acc (qBh X scope N' C s H fp).env) tb)
  (hs:∀ x,foldedSetIterable iter X.env x=pure x:=by intro _;rfl):PE X e (tGath sub wi g tt tb a0 HOf):=by
 subst hN hsc
 intro pins s σ H Q I h
 rw [hev]
 obtain ⟨gs,hcl⟩:=GG.cl
 refine wpAny_comprehension_free (use:=none) hcl hs (clos_of I O) O.kind (qEv O) (thn (hi pins s σ H _ I h) fun v s1 h1=>thn h1 fun itv s2 h2=>?_)
 obtain ⟨it,fp,tn,J,H2,e,I2,T,st2,f2,rd⟩:=h2
 subst e
 refine gcore (RR:=fun acc C=>compPost (model X.prog X.w) X.A X.xe none (EP X pins σ Q) acc C) GG.new GG.nf GG.nc GG.hA0 GG.hHO (by rw [hcl];rfl) rfl GG.dnS GG.dnL GG.q GG.sh hc I2 O T st2 f2 B rd fun acc C a H' s' I' fC hn na q=>?_
 obtain ⟨m,hn⟩:=hn
 obtain ⟨f0,f1,f3,f4,f5,f6⟩:=fC
 refine ⟨m,hn,fun h' sb=>?_⟩
 exact ⟨.ref acc,upd H' acc (HOf acc a),I'.turned (t':=s'.toks) (it:=C) (fun b o hb e=>(sb.2 b hb).trans e) f0 f1 f4 f5 f6,rfl,q acc na⟩
theorem ps_g {i:Nat} {y:Str} {py spos:Pos} (GG:GC X.prog X.w e target iter ifs scope tpos newAcc body o0 a0 AO HOf)
  (hev:∀ use,evalThenUse e X.env use=(do let _ ← comprehension e scope X.env cpos newAcc false (eval iter X.env) (some use))) (hN:X.N=N) (hsc:X.env.scope=sc) (O:CmpOk N sc N' scope sub) (hc:X.calm=true) (hi:PI X target iter wi)
  (B:∀ C s H fp,PG (qBh X scope N' C s H fp) target g/\PTs (qBh X scope N' C s H fp) ifs tt/\∀ acc,PBd (qBh X scope N' C s H fp) AO acc (body acc (qBh X scope N' C s H fp).env) tb)
  (nd:X.N.Nodup) (hy:X.N[i]?=some y) (hx:Loc X.env.scope y) (hsw:swapsWith e (some (.Name y py)) spos.line X.env=pure true:=by rfl)
  (hs:∀ x,foldedSetIterable iter X.env x=pure x:=by intro _;rfl) (hf:X.fn y=true\/X.env.scope.names.lookup y=some .local:=by first | exact .inl rfl | exact .inr rfl | assumption):PS X (.Assign [.Name y py] e spos) (tAsg (tGath sub wi g tt tb a0 HOf) (gName i)):=by
 subst hN hsc
 intro pins s σ H D I h
 rw [exec_Assign_Name_used _ _ _ _ hsw,hev]
 obtain ⟨gs,hcl⟩:=GG.cl
 refine wpAny_bind (wpAny_standAt (wpAny_bind ?_))
 refine wpAny_bind (wpAny_mono (wpAny_comprehension_free (use:=some (assign (.Name y py) X.env)) (Q:=fun _ s'=>SP X pins D .next s') hcl hs (clos_of I O) O.kind (qEv O) (thn (hi pins s σ H _ I h) fun v s1 h1=>thn h1 fun itv s2 h2=>?_)) (fun _ s' hq=>wpAny_pure (wpAny_pure hq)) fun _ _ e=>e)
 obtain ⟨it,fp,tn,J,H2,e,I2,T,st2,f2,rd⟩:=h2
 subst e
 refine gcore (RR:=fun acc C=>compPost (model X.prog X.w) X.A X.xe (some (assign (.Name y py) X.env)) (fun _ s'=>SP X pins D .next s') acc C) GG.new GG.nf GG.nc GG.hA0 GG.hHO (by rw [hcl];rfl) rfl GG.dnS GG.dnL GG.q GG.sh hc I2 O T st2 f2 B rd fun acc C a H' s' I' fC hn na q=>?_
 obtain ⟨m,hn⟩:=hn
 obtain ⟨f0,f1,f3,f4,f5,f6⟩:=fC
 show wpAny _ _ (assign (.Name y py) X.env (.ref acc)) _ _ s'
 refine wpAny_assign_Name (qE1 (v:=.ref acc) I' nd hy hx rfl (fun s'' I'' ⟨b,sb,ha⟩=>?_) hf)
 have nCa:C≠b:=by
  rcases ha with z | z
  ·rw [z];exact f1
  ·exact fun e=>f5 _ _ z e.symm
 refine ⟨m,hn.sameBut sb nCa,fun h' sb'=>?_⟩
 exact ⟨_,upd H' acc (HOf acc a),I''.turned (t':=s''.toks) (it:=C) (fun b o hb e=>(sb'.2 b hb).trans e) f0 f1 f4 f5 f6,q acc na⟩
end
section
variable {P:Program} {w:World} {target iter target2 iter2 elt kx vx:Expr} {ifs ifs2:List Expr} {scope:Scope} {pos:Pos}
theorem gc_set2:GC P w (.SetComp elt [⟨target,iter,ifs,0⟩,⟨target2,iter2,ifs2,0⟩] scope pos) target iter ifs scope iter.pos (newSet (.type "set")) (qC3 (.SetComp elt [⟨target,iter,ifs,0⟩,⟨target2,iter2,ifs2,0⟩] scope pos) iter2) (setO w) ([]:List Str) (qFu P w) (SetS P w) where
 new:=fun A s Q E h=>by
  unfold newSet setsByText
  refine wpAny_bind (wpAny_bind (wpAny_askSetting (wpAny_pure ?_)))
  dsimp only
  simp only [newObj]
  exact wpAny_bind (wpAny_alloc (wpAny_pure h))
 nf:=rfl
 nc:=fun a o h=>h.nocell
 hA0:=by
  obtain ⟨o,e,r⟩:=(setO_ok P w (h:=(({}:Heap).push (setO w))) (a:=({}:Heap).objs.size) (Heap.get?_push_size _ rfl)).obj
  rw [Heap.get?_push_size _ rfl] at e
  cases e
  exact r
 hHO:=fun H' h acc a o _ x e=>⟨x.set e,⟨o,e⟩,fun h1 h2 z k=>z.at k⟩
 cl:=⟨_,rfl⟩
 dnS:=fun _ _ _ _ _ _ _ h=>h
 dnL:=fun _ _ _ _ _ _ _ h=>h
 q:=fun _ _ _=>rfl
 sh:=fun it acc env=>by
  unfold qBp qC3
  simp only [bind_assoc]
  rfl
end
end L2
namespace L2
open PySem PySem.Spec PyProof.Rows
def DOb (P:Program) (w:World) (kvs:List (Key×V)) (o:Obj):Prop :=
 kvs.length<=sizeLine/\∃ (vs:List (Key×Value)) (es:Array DictEntry) (ep:Nat),KV kvs vs/\o.ExactDict/\o.data = .dict es ep/\KeysOf (qAz P w) es/\Pairs (qAz P w) es.toList vs/\(vs.map (·.1)).Nodup
def dictBody (kx vx:Expr) (acc:Addr) (env:Env):Sem Unit:=do
 let kv ← eval kx env
 let vv ← holding [kv] (eval vx env)
 standAt { kx.pos with endLine:=vx.pos.endLine,endCol:=vx.pos.endCol }
 holding [kv,vv] (dictSet acc kv vv)
def tPutD (tk tv:TE):TB (List (Key×V)):=fun kvs σ H Q=>tk σ H fun x H1=>tv σ H1 fun y H2=>∃ k:Key,x=kV k/\kvs.length<sizeLine/\Q (qEn kvs k y) σ H2
theorem pbd_dict {X:Cx} {acc:Addr} {kx vx:Expr} {tk tv:TE} (xxe:X.xe=fun _ _=>False) (hk:PE X kx tk) (hv:PE X vx tv):PBd X (DOb X.prog X.w) acc (dictBody kx vx acc X.env) (tPutD tk tv):=by
 intro pins s σ H a o Q I np hx ha h
 have h0:=hk _ s σ H _ I h
 rw [xxe] at h0
 unfold dictBody
 refine wpAny_bind (thn h0 fun u s1 ⟨x,H1,I1,r1,q1⟩=>wpAny_bind (wpAny_holding ?_))
 have h2:=hv _ s1 σ H1 _ I1 q1
 rw [xxe] at h2
 refine thn h2 fun r s2 ⟨y,H2,I2,r2,k,ex,hl,q⟩=>wpAny_bind (wpAny_standAt (wpAny_holding ?_))
 subst ex
 obtain ⟨hz,vs,es,ep,kv,d1,d2,d3,d4,d5⟩:=ha
 have pa:=I2.pin (acc,o) (hA6 _ hA2)
 have hlen:=kv.length
 refine wpAny_dictSet_pairs (hsz:=by omega) (kV_is r1) (show s2.heap.DictOf (qAz X.prog X.w) acc vs from ⟨o,es,ep,pa.1,d1,d2,d3,d4,d5⟩) fun h3 dd sb=>?_
 obtain ⟨o3,es3,ep3,e1,e2,e3,e4,e5,e6⟩:=dd
 have hl3:=qCl a k y
 exact ⟨qEn a k y,o3,σ,H2,I2.repin (t':=s2.toks+1) (fun b u hb e=>(sb.2 b hb).trans e) e1 (fun v z=>by rw [e3] at z;cases z) hx np,⟨by omega,_,es3,ep3,kv.put k r2,e2,e3,e4,e5,e6⟩,q⟩
theorem gc_dict {P:Program} {w:World} {target iter kx vx:Expr} {ifs:List Expr} {scope:Scope} {pos:Pos} :
  GC P w (.DictComp kx vx [⟨target,iter,ifs,0⟩] scope pos) target iter ifs scope iter.pos (newDict) (dictBody kx vx) { cls:=.type "dict",data:=.dict #[] } ([]:List (Key×V)) (DOb P w) (fun _ kvs=>.dK kvs) where
 new:=fun A s Q E h=>wpAny_newObj_type h (by size_fits)
 nf:=rfl
 nc:=fun a o h v z=>by
  obtain ⟨_,vs,es,ep,_,_,e,_⟩:=h
  rw [e] at z;cases z
 hA0:=⟨hAt _,[],#[],0,.nil,⟨rfl,rfl,rfl⟩,rfl,fun e he=>by simp at he,.nil,hC9⟩
 hHO:=fun H' h acc a o hb x e=>by
  obtain ⟨hz,vs,es,ep,kv,d1,d2,d3,d4,d5⟩:=x
  exact dk_new hz (beq_eq_false_iff_ne.mpr (hCd hb)) kv ⟨o,es,ep,e,d1,d2,d3,d4,d5⟩
 cl:=⟨_,rfl⟩
 dnS:=fun _ _ _ _ _ _ _ h=>h
 dnL:=fun _ _ _ _ _ _ _ h=>h
 q:=fun _ _ _=>rfl
 sh:=fun _ _ _=>rfl
end L2
namespace L2
open PySem PySem.Spec PyProof.Rows
theorem FS.entry_dii:entryFor table "dict_itemiterator.__iter__" = some Builtin.«dict_keyiterator.__iter__»:=entryFor_alias (id':="dict_keyiterator.__iter__") (by kernel_rfl) (by first | rfl | decide +kernel | (unfold String.splitOn;simp +decide [String.splitOnAux])) (by decide +kernel) (by kernel_rfl)
def itV (kvs:List (Key×V)) (i:Nat):List V:=match kvs[i]? with
 | some p=>[kV p.1,p.2]
 | none=>[]
theorem turn_items {P:Program} {w:World} {K:PySem.W.Frag} {elts:List Expr} {ct:Nat} {pos:Pos} (it d:Addr) (o:Obj) (kvs:List (Key×V)) (vs:List (Key×Value)) (es:Array DictEntry) (ep:Nat)
  (hne:d≠it) (kv:KV kvs vs) (hx:o.ExactDict) (hd:o.data = .dict es ep) (hk:KeysOf (qAz P w) es) (hp:Pairs (qAz P w) es.toList vs) (nd:(vs.map (·.1)).Nodup) :
  Turn P w K (.Tuple elts ct pos) (Itp kvs.length (fun H=>H d=some (.frz o (.dK kvs))) (itV kvs)) [it] it (fun i h=>∃ ok ov,IsItemIter h it d i vs.length ep ok ov) where
 mem:=by simp
 obj:=fun i h st b hb=>by
  have e:b=it:=by simpa using hb
  subst e
  obtain ⟨ok,ov,e⟩:=st
  exact ⟨_,e,fun v z=>by cases z⟩
 keep:=fun i h h' st k=>by
  obtain ⟨ok,ov,e⟩:=st
  exact ⟨ok,ov,k it (by simp) _ e⟩
 item:=by
  intro X hP hw hK hc i pins s σ H E I hf st hg
  subst hP hw hK
  obtain ⟨hH,hi⟩:=hg
  obtain ⟨ok,ov,hit⟩:=st
  have ho:s.heap.get? d=some o:=(I.hok d _ hH).1
  have da:s.heap.DictAt (qAz X.prog X.w) d vs ep:=⟨o,es,ho,hx,hd,hk,hp,nd⟩
  obtain ⟨⟨k,xv⟩,hkx⟩:∃ p,kvs[i]?=some p:=⟨kvs[i],by simp [hi]⟩
  have hvl:i<vs.length:=by have:=kv.length;omega
  obtain ⟨⟨k',uv⟩,hkv⟩:∃ p,vs[i]?=some p:=⟨vs[i],by simp [hvl]⟩
  have pr:(k=k'/\qBg xv uv):=by
   have:∀ {a:List (Key×V)} {b:List (Key×Value)} {i:Nat} {p:Key×V} {q:Key×Value},KV a b->a[i]?=some p->b[i]?=some q->p.1=q.1/\qBg p.2 q.2:=by
    intro a b i p q r
    induction r generalizing i with
    | nil=>intro h;simp at h
    | cons h t ih =>
     cases i with
     | zero=>intro e1 e2;simp at e1 e2;subst e1 e2;exact h
     | succ i=>intro e1 e2;exact ih (by simpa using e1) (by simpa using e2)
   exact this kv hkx hkv
  obtain ⟨rfl,rv⟩:=pr
  refine wpAny_pyNext_items_item hit da hkv fun key h1 hkey ho1 ht hs1 k1=>?_
  refine ⟨_,rfl,wpAny_letOwnedTupleGo_items ho1 fun h2 hi2 sb2=>?_⟩
  have hTit:s.heap.objs.size≠it:=hCd (Heap.lt_size hit)
  have ht2:h2.get? s.heap.objs.size=some { cls:=.type "tuple",data:=.seq #[key,uv] }:=sb2.extBut _ _ hTit ht
  have rk:qBg (kV k) key:=by
   rcases keyIs_shape (show keyIs k key=true from hkey) with ⟨j,t,rfl,rfl⟩ | ⟨x,t,rfl,rfl⟩
   ·exact ⟨t,rfl⟩
   ·exact ⟨t,rfl⟩
  have ei:itV kvs i=[kV k,xv]:=by unfold itV;rw [hkx]
  refine ⟨.ref s.heap.objs.size,upd H s.heap.objs.size (.tup (itV kvs i)),I.turnedT (t':=s.toks) (d':=s.drawn) (ch:=[it]) (fun b u hb e=>?_) hf (hA5 _) ⟨?_,[key,uv],?_,⟨_,ht2,rfl,_,rfl⟩⟩,rfl,⟨_,I.hok.fresh (hA5 _),rfl,rfl⟩,⟨_,_,hi2⟩,fun b hb=>?_⟩
  ·have nb:b≠it:=by simpa using hb
   exact sb2.extBut _ _ nb (k1 b u nb e)
  ·rw [ei];show 2<=sizeLine;decide
  ·rw [ei];exact .cons rk (.cons rv .nil)
  ·have e:b=it:=by simpa using hb
   subst e
   rw [qAe (Ne.symm hTit)]
   exact (hf b (by simp)).1
 done:=by
  intro X hP hw hK hc i pins s σ H E I hf st hg
  subst hP hw hK
  obtain ⟨hH,rfl⟩:=hg
  obtain ⟨ok,ov,hit⟩:=st
  have ho:s.heap.get? d=some o:=(I.hok d _ hH).1
  have da:s.heap.DictAt (qAz X.prog X.w) d vs ep:=⟨o,es,ho,hx,hd,hk,hp,nd⟩
  obtain ⟨f0,f1,f2,f3,f4,f5⟩:=hf it (by simp)
  have hl:=kv.length
  exact wpAny_pyNext_items_end (I.ok.hd hc) hit da (by simp;omega) fun h' eb=>⟨rfl,I.turned (t':=s.toks) (fun b o hb e=>eb b o hb e) f0 f1 f3 f4 f5⟩
 self:=fun A i s Q E st h=>by
  obtain ⟨ok,ov,hit⟩:=st
  have hT:s.TypeIs (.ref it) "dict_itemiterator":=⟨_,hit,rfl⟩
  refine wpAny_pyIter_slot hT PySem.F.slot_dict_itemiterator_iter (wpAny_call_entry PySem.F.slot_dict_itemiterator_iter hT FS.entry_dii ?_ (PySem.F.args_dict_itemiterator_iter_1 _))
  exact wpAny_pure ⟨_,rfl,"dict_itemiterator",_,hT,PySem.F.slot_dict_itemiterator_next.lookup,h⟩
def iItems (td:TE):TI:=fun σ H R=>td σ H fun x H1=>∃ d kvs,x = .ref d/\H1 d=some (.dK kvs)/\∀ o,R (Itp kvs.length (fun H=>H d=some (.frz o (.dK kvs))) (itV kvs)) (upd H1 d (.frz o (.dK kvs)))
theorem pi_items {X:Cx} {oe:Expr} {td:TE} {apos cpos tpos:Pos} {elts:List Expr} {ct:Nat} (he:PE X oe td) (hbase:attributeBase oe "items" X.env (eval oe X.env)=eval oe X.env:=by rfl) (hline:(apos.endLine == cpos.line)=true:=by rfl) :
  PI X (.Tuple elts ct tpos) (.Call (.Attribute oe "items" apos) [] [] cpos) (iItems td):=by
 intro pins s σ H R I h
 refine wpAny_Call_method0_late hbase hline (thn (he pins s σ H _ I h) fun v s1 ⟨x,H1,I1,r1,q1⟩=>?_)
 obtain ⟨d,kvs,e,hH,q⟩:=q1
 subst e
 cases r1
 obtain ⟨h1,h2⟩:=tyV_is I1 (x:=.ref d) (v:=.ref d) (T:="dict") rfl (.inr (.inr (.inl ⟨rfl,.inl ⟨kvs,hH⟩⟩)))
 obtain ⟨hz,hsm,vs,kv,o,es,ep,ho,hx,hd,hk,hp,nd⟩:=dk_of I1.hok hH
 refine ⟨"dict","dict.items",PySem.F.plainAttrs_dict,PySem.F.slot_dict_items,PySem.F.type_dict_items,h1,h2,Calls.callWith_builtin rfl (PySem.evalArgs_none ?_)⟩
 refine wpAny_call_entry PySem.F.slot_dict_items h1 PySem.F.entry_dict_items ?_ (PySem.F.args_dict_items_1 _)
 unfold Builtin.«dict.items» Builtin.Dict.noArgs
 refine wpAny_bind (wpAny_bind (wpAny_notOrdered_dict h1 ?_))
 refine wpAny_pure ?_
 show wpAny _ _ (Builtin.Dict.showsAll d >>= _) _ _ _
 unfold Builtin.Dict.showsAll
 rw [if_neg (by rw [hsm];exact hAn)]
 refine wpAny_bind (wpAny_pure (wpAny_bind (wpAny_newObj_type (wpAny_pure ⟨_,rfl,?_⟩))))
 have I2:Inv X pins σ (upd H1 d (.frz o (.dK kvs))) s1:=by
  refine I1.write (t':=s1.toks) (h':=s1.heap) (x:=d) (e:=d) (by rw [hH];trivial) (.inl rfl) (fun _ _ _ q=>q) ⟨o,ho⟩ ⟨ho,?_⟩
  exact ⟨hz,hsm,vs,kv,o,es,ep,ho,hx,hd,hk,hp,nd⟩
 have I3:Inv X pins σ (upd H1 d (.frz o (.dK kvs))) { s1 with heap:=s1.heap.push { cls:=.type "dict_items",data:=.fields #[.ref d] } }:=I2.kept (t':=s1.toks) fun b o e=>Heap.get?_push_of_some _ e
 have da:(s1.heap.push { cls:=.type "dict_items",data:=.fields #[.ref d] }).DictAt (qAz X.prog X.w) d vs ep:=⟨o,es,Heap.get?_push_of_some _ ho,hx,hd,hk,hp,nd⟩
 refine wpAny_pyIter_items (s:={ s1 with heap:=s1.heap.push { cls:=.type "dict_items",data:=.fields #[.ref d] } }) ⟨_,Heap.get?_push_size _ rfl,rfl,rfl⟩ da ?_
 have hd1:d<s1.heap.objs.size:=Heap.lt_size ho
 have hne:d≠(s1.heap.push { cls:=.type "dict_items",data:=.fields #[.ref d] }).objs.size:=by rw [Heap.size_push];exact hAk (hB8 hd1)
 refine ⟨_,[(s1.heap.push { cls:=.type "dict_items",data:=.fields #[.ref d] }).objs.size],_,_,_,rfl,I3.kept (t':=s1.toks) fun b o e=>Heap.get?_push_of_some _ e,turn_items _ d o kvs vs es ep hne kv hx hd hk hp nd,⟨_,_,Heap.get?_push_size _ rfl⟩,fun b hb=>?_,q o⟩
 have e:b=(s1.heap.push { cls:=.type "dict_items",data:=.fields #[.ref d] }).objs.size:=by simpa using hb
 subst e
 exact I3.fpOk (hA5 _) (I3.hok.fresh (hA5 _))
end L2
namespace L2
open PySem PySem.Spec PyProof.Rows
def VwS (v d:Addr):HO:=.ext fun h=>h.IsValuesView v d
def rVals:V->List V->Hp->VK->Prop:=fun x xs H Q=>∃ d kvs,x = .ref d/\xs=[]/\H d=some (.dK kvs)/\∀ v,H v=none->Q (.ref v) (upd H v (VwS v d))
section
variable {X:Cx}
theorem mt_values:MtR X "dict.values" rVals:=by
 intro pins s σ H x xs v us Q I rx r h
 obtain ⟨d,kvs,rfl,rfl,hH,q⟩:=h
 cases rx
 cases r
 obtain ⟨hz,hsm,vs,kv,o,es,ep,ho,hx,hd,hk,hp,nd⟩:=dk_of I.hok hH
 have h1:s.TypeIs (.ref d) "dict":=⟨o,ho,hx.1⟩
 refine wpAny_call_entry PySem.F.slot_dict_values h1 PySem.F.entry_dict_values ?_ (PySem.F.args_dict_values_1 _)
 refine wpAny_bind ?_
 unfold Builtin.Dict.noArgs
 refine wpAny_bind (wpAny_notOrdered_dict h1 (wpAny_pure ?_))
 show wpAny _ _ (Builtin.Dict.showsAll d >>= _) _ _ _
 unfold Builtin.Dict.showsAll
 rw [if_neg (by rw [hsm];exact hAn)]
 refine wpAny_bind (wpAny_pure (wpAny_bind (wpAny_newObj_type (wpAny_pure ⟨_,rfl,?_⟩))))
 refine ⟨.ref s.heap.objs.size,_,I.laid (t':=s.toks) (a:=s.heap.objs.size) (o:=VwS s.heap.objs.size d) (fun b o e=>Heap.get?_push_of_some _ e) (hA5 _) ⟨⟨_,Heap.get?_push_size _ rfl,rfl,rfl⟩,⟨_,Heap.get?_push_size _ rfl⟩,fun h1 h2 z k=>?_⟩,rfl,q _ (I.hok.fresh (hA5 _))⟩
 obtain ⟨o',e',r'⟩:=z
 exact ⟨o',k _ e',r'⟩
theorem kv_vals:∀ {a:List (Key×V)} {b:List (Key×Value)},KV a b->qA6 (a.map (·.2)) (b.map (·.2)):=by
 intro a b r
 induction r with
 | nil=>exact .nil
 | cons h t ih=>exact .cons h.2 ih
theorem qFy (hc:X.calm=true):qBq X (.type "list") (fun xs H Q=>∃ v d kvs,xs=[.ref v]/\H v=some (VwS v d)/\H d=some (.dK kvs)/\∀ l,H l=none->Q (.ref l) (upd H l (.lst (kvs.map (·.2))))):=by
 intro pins s σ H xs us Q I r h
 obtain ⟨v,d,kvs,rfl,hv,hH,q⟩:=h
 obtain ⟨u,rfl,rx⟩:=qCa r
 cases rx
 obtain ⟨hz,hsm,vs,kv,o,es,ep,ho,hx,hd,hk,hp,nd⟩:=dk_of I.hok hH
 have vw:s.heap.IsValuesView v d:=(I.hok v _ hv).1
 have hlen:=kv.length
 refine PySem.W.kdl_call (PySem.W.kdl_values (knd:=qAz X.prog X.w) (kvs:=vs) (ep:=ep)) (I.ok.hd hc) ⟨vw,⟨o,es,ho,hx,hd,hk,hp,nd⟩⟩ (by omega) fun h' tk acc' c' hk' hS' hacc=>?_
 have eacc:acc'.toList=vs.map (·.2):=by
  refine hCs fun i=>?_
  by_cases hi:i<vs.length
  ·have hi':i<acc'.size:=by rw [hacc.1];exact hi
   obtain ⟨k,e⟩:=hacc.2 i _ (hBr hi')
   rw [hAo,hBr hi',hAj,e]
   rfl
  ·rw [hAo,Array.getElem?_eq_none (by rw [hacc.1];omega),hBi (by rw [hA1];omega)]
 refine ⟨.ref s.heap.objs.size,_,I.laid (t':=tk) (a:=s.heap.objs.size) (o:=.lst (kvs.map (·.2))) (fun b o e=>hk' b o e) (hA5 _) ⟨by rw [hA1];exact hz,vs.map (·.2),c',kv_vals kv,?_⟩,rfl,q _ (I.hok.fresh (hA5 _))⟩
 rw [<-eacc,Array.toArray_toList]
 exact hS'
end
end L2
namespace L2
open PySem PySem.Spec PyProof.Rows PySem.W
abbrev Rng (n:Nat):Array Nat:=List.toArray (List.range n)
def Gd (n:Nat) (p:Array Nat):Prop:=p.Perm (Rng n)
theorem Gd.lt {n:Nat} {p:Array Nat} (h:Gd n p) (h0:0<n) (i:Nat):p.getD i 0<n:=by
 by_cases hi:i<p.size
 ·have e:p.getD i 0=p[i]:=by simp [Array.getD,hi]
  rw [e]
  have m:p[i]∈p.toList:=by simp
  have m2:=(hBc.mp h).mem_iff.mp m
  simpa using m2
 ·have e:p.getD i 0=0:=by simp [Array.getD,hi]
  rw [e];exact h0
theorem Gd.rev {n:Nat} {p:Array Nat} (h:Gd n p) (i j:Nat):Gd n (kas_rev p i j):=(mirror_perm _ _ _ _).trans h
theorem Gd.bub {n:Nat} {p:Array Nat} (h:Gd n p) (i j:Nat):Gd n (bubble p i j):=(bubble_perm _ _ _).trans h
section
variable {n:Nat} {cmp:Nat->Nat->(Bool->Shared->Prop)->Shared->Prop} {s:Shared} (hask:∀ i j C,i<n->j<n->(∀ b,C b s)->cmp i j C s) (h0:0<n)
include hask h0
end
def TupS (h:Heap) (v:Value) (t:List Str):Prop:=∃ a its,v = .ref a/\IsTup h a its/\StrsAre its.toList t/\t≠[]
section
variable {P:Program} {w:World} {A:Around} {E:Value->Shared->Prop} {s:Shared}
theorem qE0 {h h':Heap} {a:Addr} (k:∀ b o,b≠a->h.get? b=some o->h'.get? b=some o):∀ {vs:List Value} {ts:List (List Str)},Paired (TupS h) vs ts->(∀ v∈vs,v≠.ref a)->∃ fs:List Value,KatTups h' vs fs/\fs.length=vs.length/\∀ f∈fs,∃ x t,f=Value.str x t
 | _,_,.nil,_=>⟨[],trivial,rfl,fun f hf=>by cases hf⟩
 | _,_,@Paired.cons _ _ _ v t l1 l2 hh tt,hn=>by
  obtain ⟨fs,q1,q2,q3⟩:=qE0 k tt fun u hu=>hn u (hA4 _ hu)
  obtain ⟨b,its,rfl,⟨o,g,c,n,d⟩,st,ne⟩:=hh
  have nb:b≠a:=fun z=>hn _ hA2 (by rw [z])
  cases t with
  | nil=>exact absurd rfl ne
  | cons x r =>
   have e:=st.strs
   cases hi:its.toList with
   | nil=>rw [hi] at e;cases e
   | cons f fr =>
    have hf:its[0]?=some f:=by rw [<-hAo,hi];rfl
    refine ⟨f :: fs,.cons (k b o nb g) c d hf q1,by simp [q2],fun g' hg'=>?_⟩
    rcases hA9.mp hg' with z | z
    ·subst z
     exact st.all _ (by rw [hi];exact hA2)
    ·exact q3 g' z
end
end L2
namespace L2
open PySem PySem.Spec PyProof.Rows PySem.W
section
variable {X:Cx}
theorem refs_of:∀ {as:List Addr} {us:List Value},qA6 (as.map V.ref) us->us=as.map Value.ref
 | [],_,r=>by cases r;rfl
 | a :: as,_,r=>by
  cases r with
  | cons h t=>cases h;rw [refs_of t];rfl
theorem qDg:∀ as:List Addr,qA6 (as.map V.ref) (as.map Value.ref)
 | []=>.nil
 | a :: as=>.cons rfl (qDg as)
theorem tups_mk {pins:List (Addr×Obj)} {s:Shared} {σ:St} {H:Hp} {h':Heap} (I:Inv X pins σ H s) (k:∀ b o,s.heap.get? b=some o->h'.get? b=some o):∀ {as:List Addr} {ts:List (List Str)},Paired (fun a t=>SqT X.K H a (t.map V.str)/\t≠[]) as ts->Paired (TupS h') (as.map Value.ref) ts
 | _,_,.nil=>.nil
 | _,_,.cons h t=>by
  obtain ⟨h1,h2⟩:=h
  obtain ⟨its,rv,⟨o,g,c,n,d⟩,_⟩:=I.tuple h1
  exact .cons ⟨_,its.toArray,rfl,⟨o,k _ _ g,c,n,d⟩,by simpa using qCe rv,h2⟩ (tups_mk I k t)
theorem tups_lt {pins:List (Addr×Obj)} {s:Shared} {σ:St} {H:Hp} (I:Inv X pins σ H s):∀ {as:List Addr} {ts:List (List Str)},Paired (fun a t=>SqT X.K H a (t.map V.str)/\t≠[]) as ts->∀ b∈as,b<s.heap.objs.size
 | _,_,.nil,b,hb=>by cases hb
 | _,_,.cons h t,b,hb=>by
  rcases hA9.mp hb with z | z
  ·subst z
   obtain ⟨its,rv,⟨o,g,_⟩,_⟩:=I.tuple h.1
   exact Heap.lt_size g
  ·exact tups_lt I t b z
end
end L2
namespace L2
open PySem PySem.Spec PyProof.Rows PySem.W
section
variable {AS:Type} {g:TG} {tt:TT} {tb:TB AS} {Q:AS->St->Hp->Prop} {a0:AS} {σ0:St} {H0:Hp}
def NxG (n i:Nat) (Pv:Nat->AS->St->Hp->Prop) (a:AS) (σ:St) (H:Hp):Prop:=∃ m',m'<n - i/\m'=n - (i+1)/\i+1<=n/\Pv (i+1) a σ H
theorem nxg {n i:Nat} {Pv:Nat->AS->St->Hp->Prop} {a:AS} {σ:St} {H:Hp} (hi:i<n) (h:Pv (i+1) a σ H):NxG n i Pv a σ H:=⟨_,by omega,rfl,hi,h⟩
theorem g_list {K:PySem.W.Frag} {p:Addr} {xs:List V} (Pv:Nat->AS->St->Hp->Prop) (h0:Pv 0 a0 σ0 H0) (hl:∀ i a σ H,i<=xs.length->Pv i a σ H->SqL K H p xs)
  (hs:∀ i x a σ H,xs[i]?=some x->Pv i a σ H->g x σ H fun σ2 H2=>tt σ2 H2 fun b H3=>if b=true then tb a σ2 H3 (NxG xs.length i Pv) else NxG xs.length i Pv a σ2 H3)
  (hd:∀ a σ H,Pv xs.length a σ H->Q a σ H):qFo (Itl K p) g tt tb Q a0 σ0 H0:=by
 refine ⟨fun i m a σ H=>m=xs.length - i/\i<=xs.length/\Pv i a σ H,⟨xs.length,by simp,hAt _,h0⟩,?_⟩
 rintro i m a σ H ⟨rfl,hi,pv⟩
 have q:=hl i a σ H hi pv
 by_cases hlt:i<xs.length
 ·refine .inr ⟨⟨xs,xs[i],q,by simp [hlt]⟩,fun x H' y=>?_⟩
  obtain ⟨e,y⟩:=y
  subst e
  exact hs i x a σ _ (y xs q) pv
 ·have e:i=xs.length:=by omega
  subst e
  exact .inl ⟨⟨xs,q,hA5 _⟩,hd a σ H pv⟩
theorem g_tuple {K:PySem.W.Frag} {p:Addr} {xs:List V} (Pv:Nat->AS->St->Hp->Prop) (h0:Pv 0 a0 σ0 H0) (hl:∀ i a σ H,i<=xs.length->Pv i a σ H->SqT K H p xs)
  (hs:∀ i x a σ H,xs[i]?=some x->Pv i a σ H->g x σ H fun σ2 H2=>tt σ2 H2 fun b H3=>if b=true then tb a σ2 H3 (NxG xs.length i Pv) else NxG xs.length i Pv a σ2 H3)
  (hd:∀ a σ H,Pv xs.length a σ H->Q a σ H):qFo (Itt K p) g tt tb Q a0 σ0 H0:=by
 refine ⟨fun i m a σ H=>m=xs.length - i/\i<=xs.length/\Pv i a σ H,⟨xs.length,by simp,hAt _,h0⟩,?_⟩
 rintro i m a σ H ⟨rfl,hi,pv⟩
 have q:=hl i a σ H hi pv
 by_cases hlt:i<xs.length
 ·refine .inr ⟨⟨xs,xs[i],q,by simp [hlt]⟩,fun x H' y=>?_⟩
  obtain ⟨e,y⟩:=y
  subst e
  exact hs i x a σ _ (y xs q) pv
 ·have e:i=xs.length:=by omega
  subst e
  exact .inl ⟨⟨xs,q,hA5 _⟩,hd a σ H pv⟩
theorem g_pairs {n:Nat} {Ls:Hp->Prop} {xv:Nat->List V} (Pv:Nat->AS->St->Hp->Prop) (h0:Pv 0 a0 σ0 H0) (hl:∀ i a σ H,i<=n->Pv i a σ H->Ls H)
  (hs:∀ i a σ H T,i<n->Pv i a σ H->H T=none->g (.ref T) σ (upd H T (.tup (xv i))) fun σ2 H2=>tt σ2 H2 fun b H3=>if b=true then tb a σ2 H3 (NxG n i Pv) else NxG n i Pv a σ2 H3)
  (hd:∀ a σ H,Pv n a σ H->Q a σ H):qFo (Itp n Ls xv) g tt tb Q a0 σ0 H0:=by
 refine ⟨fun i m a σ H=>m=n - i/\i<=n/\Pv i a σ H,⟨n,by simp,hAt _,h0⟩,?_⟩
 rintro i m a σ H ⟨rfl,hi,pv⟩
 have q:=hl i a σ H hi pv
 by_cases hlt:i<n
 ·refine .inr ⟨⟨q,hlt⟩,fun x H' y=>?_⟩
  obtain ⟨T,e1,e2,e3⟩:=y
  subst e2 e3
  exact hs i a σ H T hlt pv e1
 ·have e:i=n:=by omega
  subst e
  exact .inl ⟨⟨q,rfl⟩,hd a σ H pv⟩
end
section
variable {X:Cx}
theorem call_range1':qBq X (.type "range") (fun xs H Q=>∃ j:Int,xs=[.int j]/\0<=j/\j<=1000/\∀ r,H r=none->Q (.ref r) (upd H r (.rng 0 j))):=by
 intro pins s σ H xs us Q I r h
 obtain ⟨j,rfl,h0,h1,q⟩:=h
 obtain ⟨u,rfl,t,rfl⟩:=qCa r
 refine call_range_1 ?_
 exact ⟨.ref s.heap.objs.size,_,I.laid (a:=s.heap.objs.size) (o:=.rng 0 j) (fun b o e=>Heap.get?_push_of_some _ e) (hA5 _) ⟨_,_,_,Heap.get?_push_size _ rfl⟩,rfl,q _ (I.hok.fresh (hA5 _))⟩
theorem ints_vals:∀ {its:List Value} {n:Nat} (k:Nat),its.length=n->(∀ i v,its[i]?=some v->∃ t,v=Value.int ((k+i:Nat):Int) t)->qA6 ((List.range' k n).map fun (i:Nat)=>V.int (i:Int)) its
 | [],n,k,hl,_=>by
  have e:n=0:=hl.symm
  subst e;exact .nil
 | v :: r,n,k,hl,h=>by
  obtain ⟨m,rfl⟩:∃ m,n=m+1:=⟨n - 1,by simp at hl;omega⟩
  rw [List.range'_succ,hAl]
  refine .cons ?_ (ints_vals (k+1) (by simpa using hl) fun i v hv=>?_)
  ·obtain ⟨t,e⟩:=h 0 v rfl
   exact ⟨t,by rw [e,Nat.add_zero]⟩
  ·obtain ⟨t,e⟩:=h (i+1) v (by simpa using hv)
   exact ⟨t,by rw [e,show k+(i+1)=k+1+i by omega]⟩
theorem call_list_rng (hc:X.calm=true):qBq X (.type "list") (fun xs H Q=>∃ (r:Addr) (j:Int),xs=[.ref r]/\H r=some (.rng 0 j)/\0<=j/\j<=1000/\∀ l,H l=none->Q (.ref l) (upd H l (.lst ((List.range j.toNat).map fun (i:Nat)=>V.int (i:Int))))):=by
 intro pins s σ H xs us Q I r h
 obtain ⟨p,j,rfl,hp,h0,h1,q⟩:=h
 obtain ⟨u,rfl,rx⟩:=qCa r
 cases rx
 obtain ⟨t,u,v,e⟩:=I.hok p _ hp
 refine call_list_range (n:=j.toNat) (a:=0) (b:=j) (c:=1) (I.ok.hd hc) e (small_one (by decide) (by decide) (by omega) (by omega)) (by rw [rangeSize_one];split <;> omega) (by omega) fun h' tk acc' c' hk hS hacc=>?_
 refine ⟨.ref s.heap.objs.size,_,I.laid (t':=tk) (a:=s.heap.objs.size) (o:=.lst ((List.range j.toNat).map fun (i:Nat)=>V.int (i:Int))) (fun b o e=>hk b o e) (hA5 _) ⟨?_,acc'.toList,c',?_,by rw [Array.toArray_toList];exact hS⟩,rfl,q _ (I.hok.fresh (hA5 _))⟩
 ·rw [hA1,hCr]
  exact hBh (qAh (by omega))
 ·rw [List.range_eq_range']
  refine ints_vals 0 (by rw [hB2];exact hacc.1) fun i v hv=>?_
  obtain ⟨t,e⟩:=hacc.2 i v (by rw [<-hAo];exact hv)
  exact ⟨t,by rw [e];congr 1;omega⟩
end
end L2
namespace L2
open PySem PySem.Spec PyProof.Rows PySem.W
structure Ordr (lt:Nat->Nat->Bool):Prop where
 asym:∀ a b,lt a b=true->lt b a=false
 tr:∀ a b c,lt b a=false->lt c b=false->lt c a=false
theorem Ordr.irr {lt:Nat->Nat->Bool} (o:Ordr lt) (a:Nat):lt a a=false:=by
 cases h:lt a a with
 | false=>rfl
 | true=>exact (o.asym a a h).symm.trans h▸rfl
def SPk (lt:Nat->Nat->Bool) (p:Array Nat) (k:Nat):Prop:=∀ i j,i<j->j<k->lt (p.getD j 0) (p.getD i 0)=false
def DPk (lt:Nat->Nat->Bool) (p:Array Nat) (k:Nat):Prop:=∀ i j,i<j->j<k->lt (p.getD i 0) (p.getD j 0)=false
def ERk (lt:Nat->Nat->Bool) (p:Array Nat) (a b:Nat):Prop:=∀ i j,a<=i->i<b->a<=j->j<b->lt (p.getD i 0) (p.getD j 0)=false
theorem Gd.size {n:Nat} {p:Array Nat} (h:Gd n p):p.size=n:=by
 have:=Array.Perm.size_eq h
 simpa using this
theorem qF8 {p:Array Nat} {i j:Nat} (hj:j<=p.size) (k:Nat):(kas_rev p i j).getD k 0=if i<=k/\k<j then p.getD (i+j - 1 - k) 0 else p.getD k 0:=by
 unfold kas_rev
 rw [hBx,getElem?_mirror_all hj]
 split <;> rw [<-hBx]
theorem bub_at {p:Array Nat} {k l:Nat} (hk:k<p.size) (hl:l<=k) (i:Nat):(bubble p k (k - l)).getD i 0=if i=l then p.getD k 0 else if l<i/\i<=k then p.getD (i - 1) 0 else p.getD i 0:=by
 rw [hBx,getElem?_bubble hk _ (by omega)]
 have e:k - (k - l)=l:=by omega
 rw [e]
 by_cases e1:i=l
 ·rw [if_pos e1,if_pos e1,<-hBx]
 ·rw [if_neg e1,if_neg e1]
  by_cases e2:l<i/\i<=k
  ·rw [if_pos e2,if_pos e2,<-hBx]
  ·rw [if_neg e2,if_neg e2,<-hBx]
section
variable {lt:Nat->Nat->Bool} (o:Ordr lt)
include o
theorem SPk.snoc {p:Array Nat} {k:Nat} (h:SPk lt p k) (h1:1<=k) (hk:lt (p.getD k 0) (p.getD (k - 1) 0)=false):SPk lt p (k+1):=fun i j hij hj=>by
 by_cases e:j=k
 ·subst e
  by_cases e2:i=j - 1
  ·subst e2;exact hk
  ·exact o.tr _ _ _ (h i (j - 1) (by omega) (by omega)) hk
 ·exact h i j hij (by omega)
theorem DPk.snoc {p:Array Nat} {k:Nat} (h:DPk lt p k) (h1:1<=k) (hk:lt (p.getD (k - 1) 0) (p.getD k 0)=false):DPk lt p (k+1):=fun i j hij hj=>by
 by_cases e:j=k
 ·subst e
  by_cases e2:i=j - 1
  ·subst e2;exact hk
  ·exact o.tr _ _ _ hk (h i (j - 1) (by omega) (by omega))
 ·exact h i j hij (by omega)
omit o in
theorem DPk.rev {p:Array Nat} {a b k:Nat} (h:DPk lt p k) (hb:b<=p.size) (hbk:b<=k) (e:ERk lt p a b):DPk lt (kas_rev p a b) k:=fun i j hij hj=>by
 rw [qF8 hb,qF8 hb]
 split
 ·split
  ·exact e _ _ (by omega) (by omega) (by omega) (by omega)
  ·exact h _ _ (by omega) (by omega)
 ·split
  ·exact h _ _ (by omega) (by omega)
  ·exact h _ _ (by omega) (by omega)
omit o in
theorem DPk.turn {p:Array Nat} {k:Nat} (h:DPk lt p k) (hk:k<=p.size):SPk lt (kas_rev p 0 k) k:=fun i j hij hj=>by
 rw [qF8 hk,qF8 hk,if_pos (by omega),if_pos (by omega)]
 exact h _ _ (by omega) (by omega)
variable {n:Nat} {cmp:Nat->Nat->(Bool->Shared->Prop)->Shared->Prop} {s:Shared} (hask:∀ i j C,i<n->j<n->C (lt i j) s->cmp i j C s) (h0:0<n)
include hask h0
theorem sk_asc {p:Array Nat} (g:Gd n p) {Q:Nat->Shared->Prop} (N:Nat) (hq:∀ m,SPk lt p m->1<=m->m<=N->(m<N->lt (p.getD m 0) (p.getD (m - 1) 0)=true)->Q m s):∀ f m,1<=m->m+f=N->SPk lt p m->(kas_asc p f m).kasWp cmp Q s
 | 0,m,h1,hN,sp=>hq m sp h1 (by omega) (fun z=>by omega)
 | f+1,m,h1,hN,sp=>by
  refine hask _ _ _ (g.lt h0 _) (g.lt h0 _) ?_
  dsimp only
  split
  ·rename_i c
   exact hq m sp h1 (by omega) fun _=>c
  ·rename_i c
   exact sk_asc g N hq f (m+1) (by omega) (by omega) (sp.snoc o h1 (by simpa using c))
theorem sk_desc {Q:Array Nat×Nat×Nat->Shared->Prop} (N:Nat) (hN:N<=n) (hq:∀ p m q,Gd n p->1<=m->q+1<=m->m<=N->DPk lt p m->ERk lt p (m - (q+1)) m->Q (p,m,q) s):∀ f p m q,Gd n p->1<=m->q+1<=m->m+f=N->DPk lt p m->ERk lt p (m - (q+1)) m->(kas_desc f p m q).kasWp cmp Q s
 | 0,p,m,q,g,h1,h2,h3,dp,er=>hq p m q g h1 h2 (by omega) dp er
 | f+1,p,m,q,g,h1,h2,h3,dp,er=>by
  have sz:=g.size
  refine hask _ _ _ (g.lt h0 _) (g.lt h0 _) ?_
  dsimp only
  split
  ·rename_i c
   have dp':=dp.snoc o h1 (o.asym _ _ c)
   have one:∀ p':Array Nat,ERk lt p' (m+1 - (0+1)) (m+1):=fun p' i j hi hi' hj hj'=>by
    have e1:i=m:=by omega
    have e2:j=m:=by omega
    subst e1 e2
    exact o.irr _
   split
   ·exact sk_desc N hN hq f _ (m+1) 0 (g.rev _ _) (by omega) (by omega) (by omega) (dp'.rev (by omega) (by omega) er) (one _)
   ·exact sk_desc N hN hq f p (m+1) 0 g (by omega) (by omega) (by omega) dp' (one _)
  ·rename_i c
   refine hask _ _ _ (g.lt h0 _) (g.lt h0 _) ?_
   dsimp only
   split
   ·exact hq p m q g h1 h2 (by omega) dp er
   ·rename_i d
    have c':lt (p.getD m 0) (p.getD (m - 1) 0)=false:=by simpa using c
    have d':lt (p.getD (m - 1) 0) (p.getD m 0)=false:=by simpa using d
    refine sk_desc N hN hq f p (m+1) (q+1) g (by omega) (by omega) (by omega) (dp.snoc o h1 d') fun i j hi hi' hj hj'=>?_
    by_cases ei:i=m
    ·subst ei
     by_cases ej:j=i
     ·subst ej;exact o.irr _
     ·exact o.tr _ _ _ (er (i - 1) j (by omega) (by omega) (by omega) (by omega)) c'
    ·by_cases ej:j=m
     ·subst ej
      exact o.tr _ _ _ d' (er i (j - 1) (by omega) (by omega) (by omega) (by omega))
     ·exact er i j (by omega) (by omega) (by omega) (by omega)
theorem sk_tail3 {p:Array Nat} (g:Gd n p) {Q:Nat×Array Nat->Shared->Prop} (N:Nat) (hN:N<=n) (hq:∀ m p,Gd n p->SPk lt p m->1<=m->m<=N->Q (m,p) s) (m:Nat) (h1:1<=m) (h2:m<=N) (dp:DPk lt p m):(kas_tail3 m N p).kasWp cmp Q s:=by
 unfold kas_tail3
 rw [KasT.kasWp_bind]
 have sz:=g.size
 exact sk_asc o hask h0 (g.rev _ _) N (fun m' sp a b _=>hq m' _ (g.rev _ _) sp a b) _ _ h1 (by omega) (dp.turn (by omega))
theorem qE2 {p:Array Nat} (g:Gd n p) {Q:Nat×Array Nat->Shared->Prop} (N:Nat) (hN:N<=n) (hq:∀ m p,Gd n p->SPk lt p m->1<=m->m<=N->Q (m,p) s) (m:Nat) (h2:m+1<=N) (dp:DPk lt p (m+1)):(kas_descPart m N p).kasWp cmp Q s:=by
 unfold kas_descPart
 rw [KasT.kasWp_bind]
 refine sk_desc o hask h0 N hN (fun p' m' q g' a b c dp' er=>?_) _ _ _ _ g (by omega) (by omega) (by omega) dp fun i j hi hi' hj hj'=>?_
 ·have sz:=g'.size
  dsimp only
  split
  ·exact sk_tail3 o hask h0 (g'.rev _ _) N hN hq _ a c (dp'.rev (by omega) (hA5 _) er)
  ·exact sk_tail3 o hask h0 g' N hN hq _ a c dp'
 ·have e1:i=m:=by omega
  have e2:j=m:=by omega
  subst e1 e2
  exact o.irr _
theorem sk_count {p:Array Nat} (g:Gd n p) {Q:Nat×Array Nat->Shared->Prop} (hq:∀ m p,Gd n p->SPk lt p m->1<=m->m<=n->Q (m,p) s):(kas_count n p).kasWp cmp Q s:=by
 unfold kas_count
 rw [KasT.kasWp_bind]
 have sz:=g.size
 refine sk_asc o hask h0 g n (fun m sp m1 mn st=>?_) _ _ (hA5 _) (by omega) (fun i j hij hj=>by omega)
 split
 ·exact hq _ _ g sp m1 mn
 ·rename_i c
  have c':m≠n:=by simpa using c
  have lt1:=st (by omega)
  have ge1:=o.asym _ _ lt1
  split
  ·refine hask _ _ _ (g.lt h0 _) (g.lt h0 _) ?_
   dsimp only
   split
   ·exact hq _ _ g sp m1 mn
   ·rename_i d
    have d':lt (p.getD 0 0) (p.getD (m - 1) 0)=false:=by simpa using d
    have lo:∀ i,i<m->lt (p.getD (m - 1) 0) (p.getD i 0)=false:=fun i hi=>by
     by_cases e:i=m - 1
     ·subst e;exact o.irr _
     ·exact sp i (m - 1) (by omega) (by omega)
    have hi0:∀ j,j<m->lt (p.getD j 0) (p.getD 0 0)=false:=fun j hj=>by
     by_cases e:j=0
     ·subst e;exact o.irr _
     ·exact sp 0 j (by omega) hj
    have er:ERk lt p 0 m:=fun i j _ hi _ hj=>o.tr _ _ _ (o.tr _ _ _ (lo j hj) d') (hi0 i hi)
    refine qE2 o hask h0 (g.rev _ _) n (hA5 _) hq m (by omega) fun i j hij hj=>?_
    rw [qF8 (by omega),qF8 (by omega)]
    by_cases ej:j=m
    ·subst ej
     rw [if_pos (by omega),if_neg (by omega)]
     exact o.tr _ _ _ ge1 (er _ _ (by omega) (by omega) (by omega) (by omega))
    ·rw [if_pos (by omega),if_pos (by omega)]
     exact er _ _ (by omega) (by omega) (by omega) (by omega)
  ·have e:m=1:=by omega
   subst e
   refine qE2 o hask h0 g n (hA5 _) hq 1 (by omega) fun i j hij hj=>?_
   have e1:i=0:=by omega
   have e2:j=1:=by omega
   subst e1 e2
   exact ge1
theorem sk_place {p:Array Nat} (g:Gd n p) {Q:Nat->Shared->Prop} (k:Nat) (sp:SPk lt p k) (hq:∀ l,l<=k->(∀ i,i<l->lt (p.getD k 0) (p.getD i 0)=false)->(∀ i,l<=i->i<k->lt (p.getD i 0) (p.getD k 0)=false)->Q l s) :
  ∀ f l r,l<=r->r<=k->r - l<=f->(∀ i,i<l->lt (p.getD k 0) (p.getD i 0)=false)->(∀ i,r<=i->i<k->lt (p.getD i 0) (p.getD k 0)=false)->(kas_place p k f l r).kasWp cmp Q s
 | 0,l,r,h1,h2,h3,a,b=>hq l (by omega) a fun i hi hk=>b i (by omega) hk
 | f+1,l,r,h1,h2,h3,a,b=>by
  unfold kas_place
  split
  ·exact hq l (by omega) a fun i hi hk=>b i (by omega) hk
  ·refine hask _ _ _ (g.lt h0 _) (g.lt h0 _) ?_
   dsimp only
   split
   ·rename_i c
    have c':=o.asym _ _ c
    refine sk_place g k sp hq f l ((l+r) / 2) (by omega) (by omega) (by omega) a fun i hi hk=>?_
    by_cases e:i=(l+r) / 2
    ·subst e;exact c'
    ·exact o.tr _ _ _ c' (sp _ _ (by omega) hk)
   ·rename_i c
    have c':lt (p.getD k 0) (p.getD ((l+r) / 2) 0)=false:=by simpa using c
    refine sk_place g k sp hq f ((l+r) / 2+1) r (by omega) h2 (by omega) (fun i hi=>?_) b
    by_cases e:i=(l+r) / 2
    ·subst e;exact c'
    ·exact o.tr _ _ _ (sp i ((l+r) / 2) (by omega) (by omega)) c'
theorem sk_bin {Q:Array Nat->Shared->Prop} (hq:∀ p,Gd n p->SPk lt p n->Q p s):∀ f p k,Gd n p->k+f=n->SPk lt p k->(kas_bin f p k).kasWp cmp Q s
 | 0,p,k,g,h1,sp=>hq p g (by rw [<-h1];exact sp)
 | f+1,p,k,g,h1,sp=>by
  unfold kas_bin
  rw [KasT.kasWp_bind]
  have sz:=g.size
  refine sk_place o hask h0 g k sp (fun l hl a b=>sk_bin hq f _ _ (g.bub _ _) (by omega) fun i j hij hj=>?_) k 0 k (by omega) (hA5 _) (by omega) (fun i hi=>by omega) (fun i hi hk=>by omega)
  rw [bub_at (by omega) hl,bub_at (by omega) hl]
  by_cases ej:j=l
  ·rw [if_pos ej,if_neg (by omega),if_neg (by omega)]
   exact a i (by omega)
  ·rw [if_neg ej]
   by_cases ej2:l<j/\j<=k
   ·rw [if_pos ej2]
    by_cases ei:i=l
    ·rw [if_pos ei]
     exact b (j - 1) (by omega) (by omega)
    ·rw [if_neg ei]
     split
     ·exact sp _ _ (by omega) (by omega)
     ·exact sp _ _ (by omega) (by omega)
   ·rw [if_neg ej2,if_neg (by omega),if_neg (by omega)]
    exact sp _ _ hij (by omega)
theorem sk_sort {Q:Array Nat->Shared->Prop} (hq:∀ p,Gd n p->SPk lt p n->Q p s):(kas_sort n).kasWp cmp Q s:=by
 unfold kas_sort
 rw [KasT.kasWp_bind]
 refine sk_count o hask h0 (Array.Perm.refl _) (fun m p g sp m1 mn=>?_)
 dsimp only
 have e:max m 1=m:=by omega
 rw [e]
 split
 ·exact sk_bin o hask h0 hq _ _ _ g (by omega) sp
 ·have e2:m=n:=by omega
  subst e2
  exact hq _ g sp
end
end L2
namespace L2
open PySem PySem.Spec PyProof.Rows PySem.W
theorem txTri:∀ a b:List Nat,a<b\/a=b\/b<a
 | [],[]=>.inr (.inl rfl)
 | [],_ :: _=>.inl (List.nil_lt_cons _ _)
 | _ :: _,[]=>.inr (.inr (List.nil_lt_cons _ _))
 | x :: a,y :: b=>by
  rcases Nat.lt_trichotomy x y with h | h | h
  ·exact .inl (hDf.mpr (.inl h))
  ·subst h
   rcases txTri a b with h | h | h
   ·exact .inl (hDf.mpr (.inr ⟨rfl,h⟩))
   ·exact .inr (.inl (by rw [h]))
   ·exact .inr (.inr (hDf.mpr (.inr ⟨rfl,h⟩)))
  ·exact .inr (.inr (hDf.mpr (.inl h)))
theorem txExt {x y:Str} (h:x.cps.toList=y.cps.toList):x=y:=by
 cases x;cases y
 simp only [Str.mk.injEq]
 exact hDl.mp h
def sLtB (x y:Str):Bool:=decide (x.cps.toList<y.cps.toList)
theorem qDj (x:Str):sLtB x x=false:=decide_eq_false (List.lt_irrefl _)
theorem qD0 {x y z:Str} (h:sLtB x y=true) (h':sLtB y z=true):sLtB x z=true:=decide_eq_true (List.lt_trans (of_decide_eq_true h) (of_decide_eq_true h'))
theorem sLtB_tri (x y:Str):sLtB x y=true\/x=y\/sLtB y x=true:=by
 rcases txTri x.cps.toList y.cps.toList with h | h | h
 ·exact .inl (decide_eq_true h)
 ·exact .inr (.inl (txExt h))
 ·exact .inr (.inr (decide_eq_true h))
def ltL:List Str->List Str->Bool
 | [],[]=>false
 | [],_ :: _=>true
 | _ :: _,[]=>false
 | x :: r,y :: t=>if x=y then ltL r t else sLtB x y
theorem ltL_irr:∀ a:List Str,ltL a a=false
 | []=>rfl
 | x :: r=>by unfold ltL;rw [if_pos rfl];exact ltL_irr r
theorem ltL_tri:∀ a b:List Str,ltL a b=true\/a=b\/ltL b a=true
 | [],[]=>.inr (.inl rfl)
 | [],_ :: _=>.inl rfl
 | _ :: _,[]=>.inr (.inr rfl)
 | x :: r,y :: t=>by
  unfold ltL
  by_cases e:x=y
  ·subst e
   rw [if_pos rfl,if_pos rfl]
   rcases ltL_tri r t with h | h | h
   ·exact .inl h
   ·exact .inr (.inl (by rw [h]))
   ·exact .inr (.inr h)
  ·rw [if_neg e,if_neg (fun z=>e z.symm)]
   rcases sLtB_tri x y with h | h | h
   ·exact .inl h
   ·exact absurd h e
   ·exact .inr (.inr h)
theorem qDp:∀ a b c:List Str,ltL a b=true->ltL b c=true->ltL a c=true
 | [],_,[],h,h'=>by
  rename_i b
  cases b with
  | nil=>exact h
  | cons _ _=>cases h'
 | [],_,_ :: _,_,_=>rfl
 | _ :: _,[],_,h,_=>by cases h
 | _ :: _,_ :: _,[],_,h'=>by cases h'
 | x :: r,y :: t,z :: u,h,h'=>by
  unfold ltL at h h' ⊢
  by_cases e1:x=y
  ·subst e1
   rw [if_pos rfl] at h
   by_cases e2:x=z
   ·subst e2
    rw [if_pos rfl] at h' ⊢
    exact qDp r t u h h'
   ·rw [if_neg e2] at h' ⊢
    exact h'
  ·rw [if_neg e1] at h
   by_cases e2:y=z
   ·subst e2
    rw [if_neg e1]
    exact h
   ·rw [if_neg e2] at h'
    have q:=qD0 h h'
    have e3:¬x=z:=fun e=>by rw [e,qDj] at q;cases q
    rw [if_neg e3]
    exact q
theorem ltL_asym (a b:List Str) (h:ltL a b=true):ltL b a=false:=by
 cases q:ltL b a with
 | false=>rfl
 | true=>have:=qDp a b a h q;rw [ltL_irr] at this;cases this
def ltI (ts:List (List Str)) (i j:Nat):Bool:=ltL (ts.getD i []) (ts.getD j [])
theorem ltI_ord (ts:List (List Str)):Ordr (ltI ts):=⟨fun a b h=>ltL_asym _ _ h,fun a b c h h'=>by
 have h1:ltL (ts.getD b []) (ts.getD a [])=false:=h
 have h2:ltL (ts.getD c []) (ts.getD b [])=false:=h'
 show ltL (ts.getD c []) (ts.getD a [])=false
 rcases ltL_tri (ts.getD a []) (ts.getD b []) with q | q | q
 ·rcases ltL_tri (ts.getD b []) (ts.getD c []) with r | r | r
  ·exact ltL_asym _ _ (qDp _ _ _ q r)
  ·rw [<-r];exact h1
  ·rw [h2] at r;cases r
 ·rw [q];exact h2
 ·rw [h1] at q;cases q⟩
theorem qC4 (vs:List Value):(List.range vs.length).map (fun i=>vs.getD i Value.none)=vs:=by
 refine hCs fun i=>?_
 by_cases hi:i<vs.length
 ·rw [hAj,List.getElem?_range hi,hA3 hi]
  show some (vs.getD i Value.none)=_
  rw [hAe,hA3 hi];rfl
 ·rw [hBi (by simp;omega),hBi (by omega)]
theorem katlex_ex {P:Program} {w:World} {A:Around} {s:Shared} {b fin:Bool} {Q:Bool->Shared->Prop}:∀ {vs us:List Value} {x y:List Str} (i:Nat),StrsAre vs x->StrsAre us y->Q (ltL x y) s->fin=decide (x.length<y.length)->KatLex P w A b fin Q (vs.zip us) i s
 | _,_,_,_,i,.nil,.nil,hQ,hf=>by rw [hf];exact hQ
 | _,_,_,_,i,.nil,.cons _ _ _,hQ,hf=>by rw [hf];exact hQ
 | _,_,_,_,i,.cons _ _ _,.nil,hQ,hf=>by rw [hf];exact hQ
 | _,_,_,_,i,.cons p t r,.cons q u r',hQ,hf=>by
  refine kat_cons (wpAny_eqBool_str (kat_go (fun e=>kat_yes (katlex_ex (i+1) r r' ?_ ?_)) fun e=>kat_no ?_))
  ·have e':=of_decide_eq_true e
   unfold ltL at hQ
   rw [if_pos e'] at hQ
   exact hQ
  ·rw [hf]
   simp
  ·have e':=of_decide_eq_false e
   unfold ltL at hQ
   rw [if_neg e'] at hQ
   cases hb:(b && i == 0) with
   | true=>exact strKind_oneLt P w A _ s _ _ _ _ rfl rfl hQ
   | false=>exact kat_one _ _ (lt_str hQ)
section
variable {P:Program} {w:World} {A:Around} {E:Value->Shared->Prop} {s:Shared}
theorem tups_atO {h h':Heap} {a:Addr} (k:∀ b o,b≠a->h.get? b=some o->h'.get? b=some o):∀ {vs:List Value} {ts:List (List Str)} {i:Nat},Paired (TupS h) vs ts->(∀ v∈vs,v≠.ref a)->i<vs.length->∃ (b:Addr) (its:Array Value),IsTup h' b its/\vs.getD i Value.none = .ref b/\StrsAre its.toList (ts.getD i [])
 | _,_,i,.nil,_,hi=>absurd hi (hC6 _)
 | _,_,0,@Paired.cons _ _ _ v t l1 l2 hh tt,hn,_=>by
  obtain ⟨b,its,rfl,⟨o,g,c,n,d⟩,st,ne⟩:=hh
  have nb:b≠a:=fun z=>hn _ hA2 (by rw [z])
  exact ⟨b,its,⟨o,k b o nb g,c,n,d⟩,rfl,st⟩
 | _,_,i+1,@Paired.cons _ _ _ v t l1 l2 hh tt,hn,hi=>tups_atO (i:=i) k tt (fun u hu=>hn u (hA4 _ hu)) (by simpa using hi)
theorem sort_tupsO {a:Addr} {vs:List Value} {ts:List (List Str)} {n:Nat} {R:PySem.Fin->Shared->Prop} (ho:s.heap.get? a=some (seqObj "list" vs.toArray n)) (ht:Paired (TupS s.heap) vs ts) (h64:vs.length<64) (hna:∀ v∈vs,v≠.ref a)
  (h:∀ (out:List Value) (p:Array Nat),out.Perm vs->Gd vs.length p->SPk (ltI ts) p vs.length->out=p.toList.map (fun i=>vs.getD i Value.none)->R (.done (.ret .none)) { s with heap:=sortedHeap s.heap a vs out.toArray }):wpAny (model P w) A (Builtin.«list.sort» ⟨[.ref a],[]⟩) R E s:=by
 rw [list_sort_plain]
 have ha:a<s.heap.objs.size:=Heap.lt_size ho
 refine wpAny_bind (listItems_at ho rfl (wpAny_bind (listUpdate_at ho rfl ?_ (by rw [hAd,sizeLine_eq];omega) (hAt _))))
 obtain ⟨e1,ho1⟩:∃ e1,(s.heap.update a (Obj.mapSeq fun _=>#[])).get? a=some (seqObj "list" #[] e1):=⟨_,get?_update_seq ho (fun _=>#[])⟩
 refine wpAny_bind (seqEpoch_at ho1 rfl (wpAny_bind (wpAny_newTuple ?_ (by show vs.length<=_;rw [sizeLine_eq];omega))))
 refine wpAny_bind (wpAny_newList ?_ (hAt _))
 refine wpAny_holding ?_
 have ho6:(((s.heap.update a (Obj.mapSeq fun _=>#[])).push (seqObj "tuple" vs.toArray 0)).push (seqObj "list" #[] 0)).get? a=some (seqObj "list" #[] e1):=Heap.get?_push_of_some _ (Heap.get?_push_of_some _ ho1)
 have keep:∀ b o,b≠a->s.heap.get? b=some o->(((s.heap.update a (Obj.mapSeq fun _=>#[])).push (seqObj "tuple" vs.toArray 0)).push (seqObj "list" #[] 0)).get? b=some o:=fun b o hb e=>by
  refine Heap.get?_push_of_some _ (Heap.get?_push_of_some _ ?_)
  rw [Heap.get?_update_ne _ _ _ _ hb];exact e
 show wpAny (model P w) A _ R E { s with heap:=((s.heap.update a (Obj.mapSeq fun _=>#[])).push (seqObj "tuple" vs.toArray 0)).push (seqObj "list" #[] 0) }
 dsimp only
 have fin:∀ (st':SortSt) (out:List Value),(arrOf st').map (·.2)=out.toArray->failedOf st'=none->out.Perm vs->(∃ p,Gd vs.length p/\SPk (ltI ts) p vs.length/\out=p.toList.map (fun i=>vs.getD i Value.none))->wpAny (model P w) A (do
   let touched:=(← seqEpoch a) != e1
   Builtin.List.listUpdate (.ref a) fun _=>(arrOf st').map (·.2)
   if let some e:=failedOf st' then rule "list.sort.comparison-raised";throw e
   if touched then rule "list.sort.modified";raiseError "ValueError" "list modified during sort"
   ret .none) R E { s with heap:=((s.heap.update a (Obj.mapSeq fun _=>#[])).push (seqObj "tuple" vs.toArray 0)).push (seqObj "list" #[] 0) }:=by
  intro st' out e hf hp ⟨p,hg,hsp,ep⟩
  refine wpAny_bind (seqEpoch_at ho6 rfl ?_)
  refine wpAny_bind (listUpdate_at ho6 rfl ?_ (hAt _) (by rw [e,hAd,hp.length_eq,sizeLine_eq];omega))
  rw [hf]
  simp only [bne_self_eq_false,hCk,if_false]
  rw [e]
  exact wpAny_pure (h out p hp hg hsp ep)
 by_cases h2:vs.toArray.size<2
 ·rw [if_pos h2,if_pos h2]
  refine wpAny_bind (wpAny_pure ?_)
  rw [StateT.run_pure]
  refine wpAny_bind (wpAny_pure (fin _ vs ?_ rfl (hCi _) ⟨Rng vs.length,Array.Perm.refl _,fun i j hij hj=>absurd hj (by rw [hAd] at h2;omega),(qC4 vs).symm⟩))
  show (vs.toArray.zip vs.toArray).map (·.2)=vs.toArray
  apply hDl.mp
  rw [hDm,hDn]
  exact hDb (hA5 _)
 ·rw [if_neg h2,if_neg h2]
  have hl2:2<=vs.length:=by rw [hAd] at h2;omega
  obtain ⟨fs,kt,fl,fa⟩:=qE0 (a:=a) keep ht hna
  refine wpAny_bind (kat_kind (T:=.type "str") kt (by omega) (fun v hv=>?_) (by decide) ?_)
  ·obtain ⟨x,t,rfl⟩:=fa v hv
   exact .now
  refine wpAny_bind (wpAny_mono (kat_run (ks:=vs) (Q:=fun st' s'=>s'={ s with heap:=((s.heap.update a (Obj.mapSeq fun _=>#[])).push (seqObj "tuple" vs.toArray 0)).push (seqObj "list" #[] 0) }/\∃ out:List Value,(arrOf st').map (·.2)=out.toArray/\failedOf st'=none/\out.Perm vs/\∃ p,Gd vs.length p/\SPk (ltI ts) p vs.length/\out=p.toList.map (fun i=>vs.getD i Value.none)) (G:=fun p s'=>s'={ s with heap:=((s.heap.update a (Obj.mapSeq fun _=>#[])).push (seqObj "tuple" vs.toArray 0)).push (seqObj "list" #[] 0) }/\Gd vs.length p/\SPk (ltI ts) p vs.length) rfl hl2 h64 (fun p st' s' a1 a2 a3 a4=>?_) ?_) ?_ fun _ _ e=>e)
  ·obtain ⟨rfl,g,sp⟩:=a4
   refine ⟨rfl,_,kat_snds rfl a2,a3,?_,p,g,sp,rfl⟩
   have q:=(hBc.mp g).map fun i=>vs.getD i Value.none
   exact q.trans (List.Perm.of_eq (qC4 vs))
  ·refine sk_sort (ltI_ord ts) (fun i j C hi hj hC=>?_) (by omega) fun p g sp=>⟨rfl,g,sp⟩
   obtain ⟨x1,y1,z1,v1,w1⟩:=tups_atO keep ht hna hi
   obtain ⟨x2,y2,z2,v2,w2⟩:=tups_atO keep ht hna hj
   show wpAny _ _ (keyLt' _ (vs.getD i Value.none) (vs.getD j Value.none)) C _ _
   rw [v1,v2]
   obtain ⟨o1,g1,c1,n1,d1⟩:=z1
   obtain ⟨o2,g2,c2,n2,d2⟩:=z2
   have l1:y1.size=(ts.getD i []).length:=by rw [<-w1.strs];simp
   have l2:y2.size=(ts.getD j []).length:=by rw [<-w2.strs];simp
   exact kat_lt g1 d1 g2 d2 (katlex_ex 0 w1 w2 hC (by rw [l1,l2]))
  ·rintro ⟨⟨⟩,st'⟩ s' ⟨rfl,out,q1,q2,q3,q4⟩
   exact fin st' out q1 q2 q3 q4
end
end L2
namespace L2
open PySem PySem.Spec PyProof.Rows PySem.W
theorem gd_mem {n:Nat} {o:Array Nat} (g:Gd n o) {i:Nat} (hi:i∈o.toList):i<n:=by
 have:=(hBc.mp g).mem_iff.mp hi
 simpa using this
theorem gd_len {n:Nat} {o:Array Nat} (g:Gd n o):o.toList.length=n:=by
 have:=g.size
 simpa using this
theorem outs_refs {as:List Addr} {l:List Nat} (h:∀ i∈l,i<as.length):l.map (fun i=>(as.map Value.ref).getD i Value.none)=(l.map fun i=>as.getD i 0).map Value.ref:=by
 rw [hB4]
 refine hBy fun i hi=>?_
 have:=h i hi
 show (as.map Value.ref).getD i Value.none=Value.ref (as.getD i 0)
 rw [hAe,hAe,hAj,hA3 this];rfl
section
variable {X:Cx}
theorem call_sortedTO:qBq X (.builtin "sorted") (fun xs H Q=>∃ (p:Addr) (as:List Addr) (ts:List (List Str)),xs=[.ref p]/\SqL X.K H p (as.map V.ref)/\Paired (fun a t=>SqT X.K H a (t.map V.str)/\t≠[]) as ts/\as.length<64/\∀ (r:Addr) (o:Array Nat),H r=none->Gd as.length o->SPk (ltI ts) o as.length->Q (.ref r) (upd H r (.lst ((o.toList.map fun i=>as.getD i 0).map V.ref)))):=by
 intro pins s σ H xs us Q I r h
 obtain ⟨p,as,ts,rfl,hq,ht,h64,q⟩:=h
 obtain ⟨u,rfl,rx⟩:=qCa r
 cases rx
 obtain ⟨its,rv,pl,hz⟩:=I.list hq
 have ei:=refs_of rv
 subst ei
 refine Calls.call_function_entry kind_sorted plain_sorted entry_sorted (args_sorted1 _) ?_
 unfold Builtin.«sorted»
 refine wpAny_bind (m:=checkCount "sorted" 1 1 _) (wpAny_pure (wpAny_bind (collect_list pl.isList ?_ (by rw [hA1,sizeLine_eq];omega))))
 refine wpAny_bind (wpAny_newList ?_ (by rw [hA1,sizeLine_eq];omega))
 have hsz:((s.heap.push (seqObj "list" #[] 0)).update s.heap.objs.size (Obj.mapSeq (·++(as.map Value.ref).toArray))).objs.size=s.heap.objs.size+1:=by rw [Heap.size_update,size_push']
 have hoL:(((s.heap.push (seqObj "list" #[] 0)).update s.heap.objs.size (Obj.mapSeq (·++(as.map Value.ref).toArray))).push (seqObj "list" (as.map Value.ref).toArray 0)).get? (s.heap.objs.size+1)=some (seqObj "list" (as.map Value.ref).toArray 0):=by
  rw [<-hsz];exact Heap.get?_push_size _ rfl
 have keep:∀ b o,s.heap.get? b=some o->(((s.heap.push (seqObj "list" #[] 0)).update s.heap.objs.size (Obj.mapSeq (·++(as.map Value.ref).toArray))).push (seqObj "list" (as.map Value.ref).toArray 0)).get? b=some o:=fun b o e=>by
  have hlt:b<s.heap.objs.size:=Heap.lt_size e
  rw [Heap.get?_push_ne _ _ _ (by rw [hsz];exact hAk (hB8 hlt)),Heap.get?_update_ne _ _ _ _ (hAk hlt),Heap.get?_push_ne _ _ _ (hAk hlt)]
  exact e
 show wpAny _ _ _ _ _ { s with heap:=((s.heap.push (seqObj "list" #[] 0)).update s.heap.objs.size (Obj.mapSeq (·++(as.map Value.ref).toArray))).push (seqObj "list" (as.map Value.ref).toArray 0) }
 rw [hsz]
 have tp:=tups_mk (h':=((s.heap.push (seqObj "list" #[] 0)).update s.heap.objs.size (Obj.mapSeq (·++(as.map Value.ref).toArray))).push (seqObj "list" (as.map Value.ref).toArray 0)) I keep ht
 refine wpAny_bind (wpAny_holding (wpAny_call_entry slot_list_sort ⟨_,hoL,rfl⟩ entry_list_sort (sort_tupsO hoL tp (by rw [hA1];exact h64) (fun v hv z=>?_) fun out o hp hg hsp eo=>⟨_,rfl,?_⟩) (args_list_sort _)))
 ·obtain ⟨b,hb,e⟩:=hAb.mp hv
  rw [<-e] at z
  injection z with z
  have lt:=tups_lt I ht b hb
  exact absurd lt (by rw [z];exact Nat.not_lt_of_le (hAx _))
 rw [hA1] at hg hsp
 rw [outs_refs fun i hi=>gd_mem hg hi] at eo
 subst eo
 have nz:H (s.heap.objs.size+1)=none:=I.hok.fresh (hAx _)
 obtain ⟨e,he⟩:=sortedAll_at s.heap (as.map Value.ref) ((o.toList.map fun i=>as.getD i 0).map Value.ref).toArray
 refine wpAny_pure ⟨_,rfl,.ref (s.heap.objs.size+1),_,I.laid (t':=s.toks) (a:=s.heap.objs.size+1) (o:=.lst ((o.toList.map fun i=>as.getD i 0).map V.ref)) (h':=sortedAll s.heap (as.map Value.ref) ((o.toList.map fun i=>as.getD i 0).map Value.ref).toArray) (fun b o eb=>sortedAll_old eb) (hAx _) ⟨?_,(o.toList.map fun i=>as.getD i 0).map Value.ref,e,qDg _,he⟩,rfl,q _ o nz hg hsp⟩
 rw [hA1,hA1,gd_len hg]
 exact hBh (qAh (by omega))
end
end L2
namespace L2
open PySem PySem.Spec PyProof.Rows PySem.W
open AutoSeq1 (wpAny_loadPart')
open MeetsSeq MeetsSeq2 MeetsSeq3 SeqRoads2
theorem strs_at {vs:List Value} {x:List Str} (h:StrsAre vs x):∀ {i:Nat},i<vs.length->∃ t,vs[i]?=some (.str (x.getD i "") t):=by
 induction h with
 | nil=>intro i hi;exact absurd hi (hC6 _)
 | cons p t r ih =>
  intro i hi
  cases i with
  | zero=>exact ⟨t,rfl⟩
  | succ i=>simpa using ih (i:=i) (by simpa using hi)
theorem drop_at {x:List Str} {i:Nat} (h:i<x.length):x.drop i=x.getD i "" :: x.drop (i+1):=by
 rw [hCz h,hAe,hA3 h];rfl
theorem lt_loopS (l b:Addr) (items items2:Array Value) (n n2:Nat) (dd dd2:Option Addr) (sl sl2:Array (Option Value)) (x y:List Str) (hx:StrsAre items.toList x) (hy:StrsAre items2.toList y):∀ (k i:Nat),items.size - i=k->i<=items.size->i<=items2.size ->
  Meets (Builtin.«list.__eq__.loop» ⟨[.ref l,.ref b,rawInt i,rawInt 0],[]⟩)
   (fun A R s=>(s.heap.get? l=some { cls:=.type "list",dict:=dd,data:=.seq items n,slots:=sl }/\s.heap.get? b=some { cls:=.type "list",dict:=dd2,data:=.seq items2 n2,slots:=sl2 })/\R (.ok (.ret (.bool (ltL (x.drop i) (y.drop i))))) s):=by
 have lx:items.size=x.length:=by rw [<-hx.strs];simp
 have ly:items2.size=y.length:=by rw [<-hy.strs];simp
 intro k
 induction k with
 | zero =>
  intro i hk h1 h2 prog w A R s h
  obtain ⟨hp,g,d,tk,os⟩:=s
  obtain ⟨⟨hl,hb⟩,h⟩:=h
  have e1:i=items.size:=by omega
  have q1:items[((i:Nat):Int).toNat]?=none:=by simp;omega
  wp_walk using wpAny_loadPart' hl,wpAny_loadPart' hb
  rw [q1]
  wp_walk using wpAny_loadPart' hl,wpAny_loadPart' hb
  have dx:x.drop i=[]:=by simp;omega
  rw [dx] at h
  show R (.ok (.ret (.bool (decide (items.size<items2.size))))) _
  cases hd:y.drop i with
  | nil =>
   rw [hd] at h
   have:y.length<=i:=by simpa using hd
   rw [decide_eq_false (by omega)]
   exact h
  | cons a r =>
   rw [hd] at h
   have:i<y.length:=by
    have:=congrArg List.length hd
    rw [hCe,hAy] at this
    omega
   rw [decide_eq_true (by omega)]
   exact h
 | succ k ih =>
  intro i hk h1 h2 prog w A R s h
  obtain ⟨hp,g,d,tk,os⟩:=s
  obtain ⟨⟨hl,hb⟩,h⟩:=h
  have hlt:i<items.size:=by omega
  obtain ⟨t1,q1⟩:=strs_at hx (i:=i) (by simpa using hlt)
  rw [hAo] at q1
  have q1':items[((i:Nat):Int).toNat]?=some (.str (x.getD i "") t1):=q1
  have dx:=drop_at (x:=x) (i:=i) (by omega)
  wp_walk using wpAny_loadPart' hl,wpAny_loadPart' hb
  rw [q1']
  by_cases hlt2:i<items2.size
  ·obtain ⟨t2,q2⟩:=strs_at hy (i:=i) (by simpa using hlt2)
   rw [hAo] at q2
   have q2':items2[((i:Nat):Int).toNat]?=some (.str (y.getD i "") t2):=q2
   have dy:=drop_at (x:=y) (i:=i) (by omega)
   have hc:((i:Int)+1)=((i+1:Nat):Int):=by push_cast;rfl
   rw [dx,dy] at h
   unfold ltL at h
   rw [q2']
   refine wpAny_bind (wpAny_eqBool_str ?_)
   by_cases e:x.getD i "" = y.getD i ""
   ·rw [if_pos e] at h
    rw [decide_eq_true e]
    wp_walk
    rw [hc]
    exact ⟨plainId_quiet plain_eq_loop _,codeAny_builtin entry_eq_loop (by
     rw [Around.under_plainId plain_eq_loop _]
     exact ih (i+1) (by omega) (by omega) (by omega) prog w A R _ ⟨⟨hl,hb⟩,h⟩)⟩
   ·rw [if_neg e] at h
    rw [decide_eq_false e]
    wp_walk using wpAny_loadPart' hl,wpAny_loadPart' hb
    rw [q1',q2']
    refine wpAny_bind (richCompare_gives (op:=.Lt) (typeIs_str _ _ _) (typeIs_str _ _ _) F.slot_str_lt F.entry_str_lt (F.args_str_lt_2 _ _) (gives_str_lt _ _ _ _) (fun e=>nomatch e) ?_)
    exact wpAny_pure h
  ·have q2':items2[((i:Nat):Int).toNat]?=none:=by simp;omega
   rw [q2']
   wp_walk using wpAny_loadPart' hl,wpAny_loadPart' hb
   have dy:y.drop i=[]:=by simp;omega
   rw [dx,dy] at h
   show R (.ok (.ret (.bool (decide (items.size<items2.size))))) _
   rw [decide_eq_false (by omega)]
   exact h
theorem list_ltS (l b:Addr) (items items2:Array Value) (n n2:Nat) (dd dd2:Option Addr) (sl sl2:Array (Option Value)) (x y:List Str) (hx:StrsAre items.toList x) (hy:StrsAre items2.toList y) :
  Meets (Builtin.«list.__lt__» ⟨[.ref l,.ref b],[]⟩)
   (fun A R s=>(s.heap.get? l=some { cls:=.type "list",dict:=dd,data:=.seq items n,slots:=sl }/\s.heap.get? b=some { cls:=.type "list",dict:=dd2,data:=.seq items2 n2,slots:=sl2 })/\R (.ok (.ret (.bool (ltL x y)))) s):=by
 intro prog w A R s h
 obtain ⟨hp,g,d,tk,os⟩:=s
 obtain ⟨⟨hl,hb⟩,h⟩:=h
 have f3:=AutoSeq1.sub_list_list
 wp_walk using wpAny_loadPart' hl,wpAny_loadPart' hb
 exact ⟨plainId_quiet plain_eq_loop _,codeAny_builtin entry_eq_loop (by
  rw [Around.under_plainId plain_eq_loop _]
  exact lt_loopS l b items items2 n n2 dd dd2 sl sl2 x y hx hy _ 0 rfl (hAt _) (hAt _) prog w A R _ ⟨⟨hl,hb⟩,h⟩)⟩
theorem keyLt_lists {P:Program} {w:World} {A:Around} {E:Value->Shared->Prop} {s:Shared} {l b:Addr} {items items2:Array Value} {x y:List Str} {Q:Bool->Shared->Prop} (hu:A.units<cLine) (hl:s.heap.IsList l items) (hb:s.heap.IsList b items2) (hx:StrsAre items.toList x) (hy:StrsAre items2.toList y)
  (h:Q (ltL x y) s):wpAny (model P w) A (keyLt' oneType' (.ref l) (.ref b)) Q E s:=by
 obtain ⟨⟨cls,dd,data,sl⟩,ho,hc,n,hd⟩:=hl
 obtain ⟨⟨cls2,dd2,data2,sl2⟩,ho2,hc2,n2,hd2⟩:=hb
 simp only at hc hd hc2 hd2
 subst hc hd hc2 hd2
 rw [keyLt'_oneType,oneLt'_eq]
 simp only [if_true]
 refine wpAny_bind (wpAny_cRoomFor hu ?_)
 refine wpAny_bind (wpAny_callSpecialIfBound?_slot (⟨_,ho,rfl⟩:s.TypeIs (.ref l) "list") F.slot_list_lt (call_meets F.slot_list_lt ⟨_,ho,rfl⟩ F.entry_list_lt (F.args_list_lt_2 _ _) (list_ltS l b items items2 n n2 dd dd2 sl sl2 x y hx hy) ⟨⟨ho,ho2⟩,?_⟩))
 exact wpAny_truthy_bool h
end L2
namespace L2
open PySem PySem.Spec PyProof.Rows PySem.W
def LstS (h:Heap) (v:Value) (t:List Str):Prop:=∃ a its,v = .ref a/\h.IsList a its/\StrsAre its.toList t
theorem lists_mem {h:Heap}:∀ {vs:List Value} {ts:List (List Str)},Paired (LstS h) vs ts->∀ v∈vs,∃ t∈ts,LstS h v t
 | _,_,.nil,v,hv=>by cases hv
 | _,_,.cons x r,v,hv=>by
  rcases hA9.mp hv with z | z
  ·subst z;exact ⟨_,hA2,x⟩
  ·obtain ⟨t,ht,q⟩:=lists_mem r v z
   exact ⟨t,hA4 _ ht,q⟩
section
variable {P:Program} {w:World} {A:Around} {E:Value->Shared->Prop} {s:Shared}
theorem qFi {h h':Heap} {a:Addr} (k:∀ b o,b≠a->h.get? b=some o->h'.get? b=some o):∀ {vs:List Value} {ts:List (List Str)} {i:Nat},Paired (LstS h) vs ts->(∀ v∈vs,v≠.ref a)->i<vs.length->∃ (b:Addr) (its:Array Value),h'.IsList b its/\vs.getD i Value.none = .ref b/\StrsAre its.toList (ts.getD i [])
 | _,_,i,.nil,_,hi=>absurd hi (hC6 _)
 | _,_,0,@Paired.cons _ _ _ v t l1 l2 hh tt,hn,_=>by
  obtain ⟨b,its,rfl,⟨o,g,c,n,d⟩,st⟩:=hh
  have nb:b≠a:=fun z=>hn _ hA2 (by rw [z])
  exact ⟨b,its,⟨o,k b o nb g,c,n,d⟩,rfl,st⟩
 | _,_,i+1,@Paired.cons _ _ _ v t l1 l2 hh tt,hn,hi=>qFi (i:=i) k tt (fun u hu=>hn u (hA4 _ hu)) (by simpa using hi)
theorem sort_listsO (hu:A.units<cLine) {a:Addr} {vs:List Value} {ts:List (List Str)} {n:Nat} {R:PySem.Fin->Shared->Prop} (ho:s.heap.get? a=some (seqObj "list" vs.toArray n)) (ht:Paired (LstS s.heap) vs ts) (h64:vs.length<64) (hna:∀ v∈vs,v≠.ref a)
  (h:∀ (out:List Value) (p:Array Nat),out.Perm vs->Gd vs.length p->SPk (ltI ts) p vs.length->out=p.toList.map (fun i=>vs.getD i Value.none)->R (.done (.ret .none)) { s with heap:=sortedHeap s.heap a vs out.toArray }):wpAny (model P w) A (Builtin.«list.sort» ⟨[.ref a],[]⟩) R E s:=by
 rw [list_sort_plain]
 have ha:a<s.heap.objs.size:=Heap.lt_size ho
 refine wpAny_bind (listItems_at ho rfl (wpAny_bind (listUpdate_at ho rfl ?_ (by rw [hAd,sizeLine_eq];omega) (hAt _))))
 obtain ⟨e1,ho1⟩:∃ e1,(s.heap.update a (Obj.mapSeq fun _=>#[])).get? a=some (seqObj "list" #[] e1):=⟨_,get?_update_seq ho (fun _=>#[])⟩
 refine wpAny_bind (seqEpoch_at ho1 rfl (wpAny_bind (wpAny_newTuple ?_ (by show vs.length<=_;rw [sizeLine_eq];omega))))
 refine wpAny_bind (wpAny_newList ?_ (hAt _))
 refine wpAny_holding ?_
 have ho6:(((s.heap.update a (Obj.mapSeq fun _=>#[])).push (seqObj "tuple" vs.toArray 0)).push (seqObj "list" #[] 0)).get? a=some (seqObj "list" #[] e1):=Heap.get?_push_of_some _ (Heap.get?_push_of_some _ ho1)
 have keep:∀ b o,b≠a->s.heap.get? b=some o->(((s.heap.update a (Obj.mapSeq fun _=>#[])).push (seqObj "tuple" vs.toArray 0)).push (seqObj "list" #[] 0)).get? b=some o:=fun b o hb e=>by
  refine Heap.get?_push_of_some _ (Heap.get?_push_of_some _ ?_)
  rw [Heap.get?_update_ne _ _ _ _ hb];exact e
 show wpAny (model P w) A _ R E { s with heap:=((s.heap.update a (Obj.mapSeq fun _=>#[])).push (seqObj "tuple" vs.toArray 0)).push (seqObj "list" #[] 0) }
 dsimp only
 have fin:∀ (st':SortSt) (out:List Value),(arrOf st').map (·.2)=out.toArray->failedOf st'=none->out.Perm vs->(∃ p,Gd vs.length p/\SPk (ltI ts) p vs.length/\out=p.toList.map (fun i=>vs.getD i Value.none))->wpAny (model P w) A (do
   let touched:=(← seqEpoch a) != e1
   Builtin.List.listUpdate (.ref a) fun _=>(arrOf st').map (·.2)
   if let some e:=failedOf st' then rule "list.sort.comparison-raised";throw e
   if touched then rule "list.sort.modified";raiseError "ValueError" "list modified during sort"
   ret .none) R E { s with heap:=((s.heap.update a (Obj.mapSeq fun _=>#[])).push (seqObj "tuple" vs.toArray 0)).push (seqObj "list" #[] 0) }:=by
  intro st' out e hf hp ⟨p,hg,hsp,ep⟩
  refine wpAny_bind (seqEpoch_at ho6 rfl ?_)
  refine wpAny_bind (listUpdate_at ho6 rfl ?_ (hAt _) (by rw [e,hAd,hp.length_eq,sizeLine_eq];omega))
  rw [hf]
  simp only [bne_self_eq_false,hCk,if_false]
  rw [e]
  exact wpAny_pure (h out p hp hg hsp ep)
 by_cases h2:vs.toArray.size<2
 ·rw [if_pos h2,if_pos h2]
  refine wpAny_bind (wpAny_pure ?_)
  rw [StateT.run_pure]
  refine wpAny_bind (wpAny_pure (fin _ vs ?_ rfl (hCi _) ⟨Rng vs.length,Array.Perm.refl _,fun i j hij hj=>absurd hj (by rw [hAd] at h2;omega),(qC4 vs).symm⟩))
  show (vs.toArray.zip vs.toArray).map (·.2)=vs.toArray
  apply hDl.mp
  rw [hDm,hDn]
  exact hDb (hA5 _)
 ·rw [if_neg h2,if_neg h2]
  have hl2:2<=vs.length:=by rw [hAd] at h2;omega
  refine wpAny_bind (kas_kind (T:=.type "list") hl2 (fun v hv=>?_) (by decide) (by decide) ?_)
  ·obtain ⟨t,_,b,its,rfl,⟨o,g,c,_⟩,st⟩:=lists_mem ht v hv
   have nb:b≠a:=fun z=>hna _ hv (by rw [z])
   exact kitAt_ty _ _ ⟨o,keep b o nb g,c⟩
  refine wpAny_bind (wpAny_mono (kat_run (ks:=vs) (Q:=fun st' s'=>s'={ s with heap:=((s.heap.update a (Obj.mapSeq fun _=>#[])).push (seqObj "tuple" vs.toArray 0)).push (seqObj "list" #[] 0) }/\∃ out:List Value,(arrOf st').map (·.2)=out.toArray/\failedOf st'=none/\out.Perm vs/\∃ p,Gd vs.length p/\SPk (ltI ts) p vs.length/\out=p.toList.map (fun i=>vs.getD i Value.none)) (G:=fun p s'=>s'={ s with heap:=((s.heap.update a (Obj.mapSeq fun _=>#[])).push (seqObj "tuple" vs.toArray 0)).push (seqObj "list" #[] 0) }/\Gd vs.length p/\SPk (ltI ts) p vs.length) rfl hl2 h64 (fun p st' s' a1 a2 a3 a4=>?_) ?_) ?_ fun _ _ e=>e)
  ·obtain ⟨rfl,g,sp⟩:=a4
   refine ⟨rfl,_,kat_snds rfl a2,a3,?_,p,g,sp,rfl⟩
   have q:=(hBc.mp g).map fun i=>vs.getD i Value.none
   exact q.trans (List.Perm.of_eq (qC4 vs))
  ·refine sk_sort (ltI_ord ts) (fun i j C hi hj hC=>?_) (by omega) fun p g sp=>⟨rfl,g,sp⟩
   obtain ⟨x1,y1,z1,v1,w1⟩:=qFi keep ht hna hi
   obtain ⟨x2,y2,z2,v2,w2⟩:=qFi keep ht hna hj
   show wpAny _ _ (keyLt' _ (vs.getD i Value.none) (vs.getD j Value.none)) C _ _
   rw [v1,v2]
   exact keyLt_lists hu z1 z2 w1 w2 hC
  ·rintro ⟨⟨⟩,st'⟩ s' ⟨rfl,out,q1,q2,q3,q4⟩
   exact fin st' out q1 q2 q3 q4
end
section
variable {X:Cx}
theorem lists_mk {pins:List (Addr×Obj)} {s:Shared} {σ:St} {H:Hp} {h':Heap} (I:Inv X pins σ H s) (k:∀ b o,s.heap.get? b=some o->h'.get? b=some o):∀ {as:List Addr} {ts:List (List Str)},Paired (fun a t=>SqL X.K H a (t.map V.str)) as ts->Paired (LstS h') (as.map Value.ref) ts
 | _,_,.nil=>.nil
 | _,_,.cons h t=>by
  obtain ⟨its,rv,⟨o,n,e,c,_,dt⟩,_⟩:=I.list h
  exact .cons ⟨_,its.toArray,rfl,⟨o,k _ _ e,c,_,dt⟩,by simpa using qCe rv⟩ (lists_mk I k t)
theorem lists_lt {pins:List (Addr×Obj)} {s:Shared} {σ:St} {H:Hp} (I:Inv X pins σ H s):∀ {as:List Addr} {ts:List (List Str)},Paired (fun a t=>SqL X.K H a (t.map V.str)) as ts->∀ b∈as,b<s.heap.objs.size
 | _,_,.nil,b,hb=>by cases hb
 | _,_,.cons h t,b,hb=>by
  rcases hA9.mp hb with z | z
  ·subst z
   obtain ⟨its,rv,⟨o,n,e,_⟩,_⟩:=I.list h
   exact Heap.lt_size e
  ·exact lists_lt I t b z
theorem call_sortedLO (hu:X.A.units+2<cLine):qBq X (.builtin "sorted") (fun xs H Q=>∃ (p:Addr) (as:List Addr) (ts:List (List Str)),xs=[.ref p]/\SqL X.K H p (as.map V.ref)/\Paired (fun a t=>SqL X.K H a (t.map V.str)) as ts/\as.length<64/\∀ (r:Addr) (o:Array Nat),H r=none->Gd as.length o->SPk (ltI ts) o as.length->Q (.ref r) (upd H r (.lst ((o.toList.map fun i=>as.getD i 0).map V.ref)))):=by
 intro pins s σ H xs us Q I r h
 obtain ⟨p,as,ts,rfl,hq,ht,h64,q⟩:=h
 obtain ⟨u,rfl,rx⟩:=qCa r
 cases rx
 obtain ⟨its,rv,pl,hz⟩:=I.list hq
 have ei:=refs_of rv
 subst ei
 refine Calls.call_function_entry kind_sorted plain_sorted entry_sorted (args_sorted1 _) ?_
 unfold Builtin.«sorted»
 refine wpAny_bind (m:=checkCount "sorted" 1 1 _) (wpAny_pure (wpAny_bind (collect_list pl.isList ?_ (by rw [hA1,sizeLine_eq];omega))))
 refine wpAny_bind (wpAny_newList ?_ (by rw [hA1,sizeLine_eq];omega))
 have hsz:((s.heap.push (seqObj "list" #[] 0)).update s.heap.objs.size (Obj.mapSeq (·++(as.map Value.ref).toArray))).objs.size=s.heap.objs.size+1:=by rw [Heap.size_update,size_push']
 have hoL:(((s.heap.push (seqObj "list" #[] 0)).update s.heap.objs.size (Obj.mapSeq (·++(as.map Value.ref).toArray))).push (seqObj "list" (as.map Value.ref).toArray 0)).get? (s.heap.objs.size+1)=some (seqObj "list" (as.map Value.ref).toArray 0):=by
  rw [<-hsz];exact Heap.get?_push_size _ rfl
 have keep:∀ b o,s.heap.get? b=some o->(((s.heap.push (seqObj "list" #[] 0)).update s.heap.objs.size (Obj.mapSeq (·++(as.map Value.ref).toArray))).push (seqObj "list" (as.map Value.ref).toArray 0)).get? b=some o:=fun b o e=>by
  have hlt:b<s.heap.objs.size:=Heap.lt_size e
  rw [Heap.get?_push_ne _ _ _ (by rw [hsz];exact hAk (hB8 hlt)),Heap.get?_update_ne _ _ _ _ (hAk hlt),Heap.get?_push_ne _ _ _ (hAk hlt)]
  exact e
 show wpAny _ _ _ _ _ { s with heap:=((s.heap.push (seqObj "list" #[] 0)).update s.heap.objs.size (Obj.mapSeq (·++(as.map Value.ref).toArray))).push (seqObj "list" (as.map Value.ref).toArray 0) }
 rw [hsz]
 have tp:=lists_mk (h':=((s.heap.push (seqObj "list" #[] 0)).update s.heap.objs.size (Obj.mapSeq (·++(as.map Value.ref).toArray))).push (seqObj "list" (as.map Value.ref).toArray 0)) I keep ht
 refine wpAny_bind (wpAny_holding (wpAny_call_entry slot_list_sort ⟨_,hoL,rfl⟩ entry_list_sort (sort_listsO ?hu hoL tp (by rw [hA1];exact h64) (fun v hv z=>?_) fun out o hp hg hsp eo=>⟨_,rfl,?_⟩) (args_list_sort _)))
 case hu=>omega
 ·obtain ⟨b,hb,e⟩:=hAb.mp hv
  rw [<-e] at z
  injection z with z
  have lt:=lists_lt I ht b hb
  exact absurd lt (by rw [z];exact Nat.not_lt_of_le (hAx _))
 rw [hA1] at hg hsp
 rw [outs_refs fun i hi=>gd_mem hg hi] at eo
 subst eo
 have nz:H (s.heap.objs.size+1)=none:=I.hok.fresh (hAx _)
 obtain ⟨e,he⟩:=sortedAll_at s.heap (as.map Value.ref) ((o.toList.map fun i=>as.getD i 0).map Value.ref).toArray
 refine wpAny_pure ⟨_,rfl,.ref (s.heap.objs.size+1),_,I.laid (t':=s.toks) (a:=s.heap.objs.size+1) (o:=.lst ((o.toList.map fun i=>as.getD i 0).map V.ref)) (h':=sortedAll s.heap (as.map Value.ref) ((o.toList.map fun i=>as.getD i 0).map Value.ref).toArray) (fun b o eb=>sortedAll_old eb) (hAx _) ⟨?_,(o.toList.map fun i=>as.getD i 0).map Value.ref,e,qDg _,he⟩,rfl,q _ o nz hg hsp⟩
 rw [hA1,hA1,gd_len hg]
 exact hBh (qAh (by omega))
end
end L2
namespace L2
open PySem PySem.Spec PyProof.Rows
def LOb (xs:List V) (o:Obj):Prop:=xs.length<=sizeLine/\∃ (its:List Value) (n:Nat),qA6 xs its/\o={ cls:=.type "list",data:=.seq its.toArray n }
def listBody (elt:Expr) (acc:Addr) (env:Env):Sem Unit:=do
 let _ ← call (.builtin "list.append") [.ref acc,<-eval elt env]
def tApp (te:TE):TB (List V):=fun xs σ H Q=>te σ H fun v H'=>xs.length<sizeLine/\Q (xs++[v]) σ H'
theorem pbd_list {X:Cx} {acc:Addr} {elt:Expr} {te:TE} (xxe:X.xe=fun _ _=>False) (he:PE X elt te):PBd X LOb acc (listBody elt acc X.env) (tApp te):=by
 intro pins s σ H a o Q I np hx ha h
 have h0:=he _ s σ H _ I h
 rw [xxe] at h0
 unfold listBody
 refine wpAny_bind (thn h0 fun v s1 ⟨y,H1,I1,r1,hl,q⟩=>wpAny_bind ?_)
 have pa:=I1.pin (acc,o) (hA6 _ hA2)
 obtain ⟨hz,its,n,rv,rfl⟩:=ha
 have hlen:=rv.length
 refine wpAny_list_append_plain (items:=its.toArray) ⟨n,pa.1⟩ (fun h' pl sb=>?_) (by rw [hAd];omega)
 obtain ⟨k',pl⟩:=pl
 refine wpAny_pure ⟨a++[y],_,σ,H1,I1.repin (t':=s1.toks) (fun b u hb e=>(sb.2 b hb).trans e) pl (fun v z=>by cases z) hx np,⟨by rw [hAc];show _+1<=_;omega,its++[v],k',rv.append (.cons r1 .nil),by simp⟩,q⟩
section
variable {P:Program} {w:World} {target iter target2 iter2 elt:Expr} {ifs ifs2:List Expr} {scope:Scope} {pos:Pos}
theorem gc_list2:GC P w (.ListComp elt [⟨target,iter,ifs,0⟩,⟨target2,iter2,ifs2,0⟩] scope pos) target iter ifs scope iter.pos (newList []) (qC3 (.ListComp elt [⟨target,iter,ifs,0⟩,⟨target2,iter2,ifs2,0⟩] scope pos) iter2) (seqObj "list" #[] 0) ([]:List V) LOb (fun _ xs=>.lst xs) where
 new:=fun A s Q E h=>wpAny_newList h (hAt _)
 nf:=rfl
 nc:=fun a o h v z=>by
  obtain ⟨_,its,n,_,rfl⟩:=h
  cases z
 hA0:=⟨hAt _,[],0,.nil,rfl⟩
 hHO:=fun H' h acc a o hb x e=>by
  obtain ⟨hz,its,n,rv,rfl⟩:=x
  exact ⟨hz,its,n,rv,e⟩
 cl:=⟨_,rfl⟩
 dnS:=fun _ _ _ _ _ _ _ h=>h
 dnL:=fun _ _ _ _ _ _ _ h=>h
 q:=fun _ _ _=>rfl
 sh:=fun it acc env=>by
  unfold qBp qC3
  simp only [bind_assoc]
  rfl
end
end L2
namespace L2
open PySem PySem.Spec PyProof.Rows PySem.W
abbrev Srt (a:List (List Str)):Prop:=a.Pairwise fun x y=>ltL y x=false
theorem getD_rangeL (ts:List (List Str)):(List.range ts.length).map (fun i=>ts.getD i [])=ts:=by
 refine hCs fun i=>?_
 by_cases hi:i<ts.length
 ·rw [hAj,List.getElem?_range hi,hA3 hi]
  show some (ts.getD i [])=_
  rw [hAe,hA3 hi];rfl
 ·rw [hBi (by simp;omega),hBi (by omega)]
theorem qGc {ts:List (List Str)} {o:Array Nat} (g:Gd ts.length o) (sp:SPk (ltI ts) o ts.length):Srt (o.toList.map fun i=>ts.getD i [])/\(o.toList.map fun i=>ts.getD i []).Perm ts:=by
 have sz:=g.size
 refine ⟨?_,?_⟩
 ·rw [Srt,List.pairwise_iff_getElem]
  intro i j hi hj hij
  rw [hA1] at hi hj
  have h:=sp i j hij (by simpa [sz] using hj)
  rw [List.getElem_map,List.getElem_map]
  have e:∀ k (hk:k<o.toList.length),o.getD k 0=o.toList[k]:=fun k hk=>by
   have hk':k<o.size:=by simpa using hk
   simp [Array.getD,hk']
  rw [e i hi,e j hj] at h
  exact h
 ·have q:=(hBc.mp g).map fun i=>ts.getD i []
  exact q.trans (List.Perm.of_eq (getD_rangeL ts))
end L2
namespace L2
open PySem PySem.Spec PyProof.Rows
theorem pe_lc {X:Cx} {target iter elt:Expr} {ifs:List Expr} {scope sc:Scope} {pos:Pos} {N N':List Str} {sub:List (Option Nat)} {wi:TI} {g:TG} {tt:TT} {te:TE} (hN:X.N=N) (hsc:X.env.scope=sc)
  (O:CmpOk N sc N' scope sub) (hc:X.calm=true) (hi:PI X target iter wi)
  (B:∀ C s H fp,PG (qBh X scope N' C s H fp) target g/\PTs (qBh X scope N' C s H fp) ifs tt/\PE (qBh X scope N' C s H fp) elt te)
  (hs:∀ x,foldedSetIterable iter X.env x=pure x:=by intro _;rfl):PE X (.ListComp elt [⟨target,iter,ifs,0⟩] scope pos) (tComp sub wi g tt te) :=
 pe_comp hc (by rw [hN,hsc];exact O) hi B hs
theorem ps_lc {X:Cx} {target iter elt:Expr} {ifs:List Expr} {scope sc:Scope} {pos:Pos} {N N':List Str} {sub:List (Option Nat)} {wi:TI} {g:TG} {tt:TT} {te:TE} {i:Nat} {y:Str} {py spos:Pos} (hN:X.N=N) (hsc:X.env.scope=sc)
  (O:CmpOk N sc N' scope sub) (hc:X.calm=true) (hi:PI X target iter wi)
  (B:∀ C s H fp,PG (qBh X scope N' C s H fp) target g/\PTs (qBh X scope N' C s H fp) ifs tt/\PE (qBh X scope N' C s H fp) elt te)
  (nd:X.N.Nodup) (hy:X.N[i]?=some y) (hx:Loc X.env.scope y)
  (hsw:swapsWith (.ListComp elt [⟨target,iter,ifs,0⟩] scope pos) (some (.Name y py)) spos.line X.env=pure true:=by rfl)
  (hs:∀ x,foldedSetIterable iter X.env x=pure x:=by intro _;rfl) (hf:X.fn y=true\/X.env.scope.names.lookup y=some .local:=by first | exact .inl rfl | exact .inr rfl | assumption) :
  PS X (.Assign [.Name y py] (.ListComp elt [⟨target,iter,ifs,0⟩] scope pos) spos) (tAsg (tComp sub wi g tt te) (gName i)) :=
 ps_comp hc (by rw [hN,hsc];exact O) hi B nd hy hx hsw hs hf
end L2
namespace My
open PySem L2
def top (i:Nat):Stmt:=PySem.Challenge.pw_roundsalone_k23_walks.main.body.getD i (.Pass ⟨0,0,0,0⟩)
abbrev sMask:Stmt:=top 4
abbrev qE7:Stmt:=top 5
abbrev sLess:Stmt:=top 6
abbrev sRedu:Stmt:=top 7
abbrev sSums:Stmt:=top 8
abbrev sLead:Stmt:=top 9
abbrev sCrM:Stmt:=top 10
abbrev sTabF:Stmt:=top 11
abbrev qE5:Stmt:=top 13
abbrev qF6:Stmt:=top 14
abbrev sTies:Stmt:=top 16
abbrev qDb:Stmt:=top 17
abbrev sStar:Stmt:=top 18
abbrev qE6:Stmt:=top 19
abbrev qEg:Stmt:=top 20
abbrev qDz:Stmt:=top 21
abbrev sMet:Stmt:=top 22
abbrev qE4:Stmt:=top 23
abbrev sOne:Stmt:=top 25
abbrev sWalk:Stmt:=top 26
abbrev qEf:Stmt:=top 28
abbrev sRMas:Stmt:=top 29
abbrev qDa:Stmt:=top 30
abbrev sCell:Stmt:=top 32
abbrev sBig:Stmt:=top 33
abbrev qE8:Stmt:=top 34
abbrev sEnds:Stmt:=top 35
abbrev sNet:Stmt:=top 36
abbrev qBy:Stmt:=top 37
abbrev sLaw:Stmt:=top 38
def Ext (H H':Hp):Prop:=∀ b o,H b=some o->H' b=some o
theorem Ext.refl (H:Hp):Ext H H:=fun _ _ h=>h
theorem Ext.trans {H H1 H2:Hp} (a:Ext H H1) (b:Ext H1 H2):Ext H H2:=fun c o h=>b c o (a c o h)
theorem Ext.new {H:Hp} {p:Addr} (h:H p=none) (o:HO):Ext H (upd H p o):=fun b u q=>by rw [qAe (qAd q h)];exact q
theorem Ext.none {H H':Hp} (e:Ext H H') {p:Addr} (h:H' p=none):H p=none:=by
 cases q:H p with
 | none=>rfl
 | some o=>rw [e p o q] at h;cases h
theorem Ext.sqL {K:PySem.W.Frag} {H H':Hp} {a:Addr} {xs:List V} (e:Ext H H') (h:SqL K H a xs):SqL K H' a xs:=by
 rcases h with (h | ⟨o,h⟩) | h
 ·exact .inl (.inl (e _ _ h))
 ·exact .inl (.inr ⟨o,e _ _ h⟩)
 ·exact .inr h
def spCell (K:PySem.W.Frag):Sp:=fun vs H Q _=>∃ (a:Addr) (ns:List Int) (k:Int),vs=[.ref a,.int k]/\SqL K H a (ns.map V.int)/\0<=k/\∀ v,Q (.int v) H
section
variable {P:Program} {w:World} {K:PySem.W.Frag} {mg:Str->Option Value} {base:Heap} {f f1:Addr} {fd fd1:FuncData}
theorem scCell:FnScope ["_law_script","_law_k"] ["_law_script","_law_k"] (qAb sCell):=⟨rfl,rfl,rfl,by decide +kernel,rfl,by decide +kernel,by decide +kernel⟩
theorem ok_cell (F:Fun K "_law_cell_at" "_law_cell_at" sCell f fd) (ml:mg "len" = none):FnOk P w K mg base CX0 1 f fd ["_law_script","_law_k"] (spCell K):=by
 refine F.ok scCell (fun vs H Q E h=>?_) (fun cdv A outer s H vs Q E hr h=>?_)
 ·obtain ⟨a,ns,k,rfl,_⟩:=h
  rfl
 obtain ⟨a,ns,k,rfl,hS,h0,q⟩:=h
 refine ⟨_,pss_cons (qD1 (qAu op_lt (pv 1) (qAn qAw rfl ml hBz (qAa (pv 0) qAc)) (qA1 _)) (qAi (qAv (pe_ix ix_list (pv 0) (pv 1) (fun _ _=>rfl)))) qBr) (qAi (qAv qAg)),?_⟩
 refine ⟨_,rfl,_,rfl,a,_,rfl,.inl hS,_,_,rfl,rfl,_,rfl,?_⟩
 refine qFl (fun c=>?_) (fun c=>q 0)
 have c':k<(((ns.map V.int).length:Nat):Int):=of_decide_eq_true c
 rw [hA1] at c'
 have hk:k.toNat<ns.length:=by omega
 have hv:atI (ns.map V.int) ((k.toNat:Nat):Int)=some (.int ns[k.toNat]):=atI_nat (by rw [hAj,hA3 hk] <;> rfl)
 rw [hD8 h0] at hv
 exact ⟨_,rfl,_,rfl,a,_,_,_,rfl,rfl,hS,hv,q _⟩
end
end My
namespace My
open PySem L2
theorem qFt:bootBuiltins "isinstance" = some (.builtin "isinstance"):=by decide +kernel
theorem kit_same (K:PySem.W.Frag) (t:Value):PySem.W.kitOne K t t=some true:=by unfold PySem.W.kitOne;rw [if_pos (beq_self_eq_true t)]
theorem boot_abs':bootBuiltins "abs" = some (.builtin "abs"):=by decide +kernel
theorem boot_range':bootBuiltins "range" = some (.type "range"):=by decide +kernel
theorem boot_any':bootBuiltins "any" = some (.builtin "any"):=by decide +kernel
end My
namespace My
open PySem L2
section
variable {σ0:St} {g:TG} {tt:TT} {te:TE} {Q:List V->Hp->Prop} {H1:Hp}
theorem turns_pure {K:PySem.W.Frag} {a:Addr} {xs:List V} (f:V->Option V) (hS:SqL K H1 a xs) (hz:xs.length<=sizeLine)
  (hs:∀ x∈xs,∀ C:Option V->Hp->Prop,C (f x) H1->g x σ0 H1 fun σ2 H2=>Sle σ0 σ2/\tt σ2 H2 fun b H3=>if b=true then te σ2 H3 (fun v H4=>C (some v) H4) else C none H3)
  (hd:Q (xs.filterMap f) H1):qEj (Itl K a) σ0 g tt te Q H1:=by
 refine qAr (xs:=xs) (fun i ys H=>H=H1/\ys=(xs.take i).filterMap f) ⟨rfl,by simp⟩ (fun i ys H _ h=>by rw [h.1];exact hS) ?_ ?_
 ·rintro i x ys H hx ⟨rfl,rfl⟩
  have hi:i<xs.length:=(hAp.mp hx).1
  have hm:x∈xs:=hAr hx
  have tk:(xs.take (i+1)).filterMap f=(xs.take i).filterMap f++(f x).toList:=by
   rw [List.take_add_one,hx,List.filterMap_append]
   cases e:f x <;> simp [e]
  have hl:((xs.take i).filterMap f).length<sizeLine:=by
   have h1:=List.length_filterMap_le f (xs.take i)
   rw [hAh] at h1
   omega
  refine hs x hm (fun o H4=>match o with | some v=>((xs.take i).filterMap f).length<sizeLine/\Nxt xs.length i _ ((xs.take i).filterMap f++[v]) H4 | none=>Nxt xs.length i _ ((xs.take i).filterMap f) H4) ?_
  cases e:f x with
  | none=>exact nxt hi ⟨rfl,by rw [tk,e];simp⟩
  | some v=>exact ⟨hl,nxt hi ⟨rfl,by rw [tk,e];simp⟩⟩
 ·rintro ys H ⟨rfl,rfl⟩
  rw [hA8 (hA5 _)]
  exact hd
end
theorem inV_str (n:Str):∀ other:List Str,inV (.str n) (other.map V.str)=decide (n∈other)
 | []=>by simp [inV]
 | x :: r=>by
  have ih:=inV_str n r
  unfold inV at ih ⊢
  rw [hAl,hCh,ih]
  show (x == n || decide (n∈r))=_
  by_cases e:n=x
  ·subst e;simp
  ·have e':¬x=n:=fun z=>e z.symm
   simp [e,e']
theorem qFp:∀ other:List Str,(other.map V.str).all flatV=true:=fun other=>by
 rw [hCw]
 intro x hx
 obtain ⟨y,_,rfl⟩:=hAb.mp hx
 rfl
def LsS (H:Hp) (a:Addr) (ss:List Str):Prop:=H a=some (.lst (ss.map V.str))
end My
namespace My
open PySem L2
abbrev sg:Str:="abcdefghijklmnopqrstuvwxyz0123456789"
def sgC (n:Nat):Nat:=sg.cps.toList.getD n 0
theorem sg_len:sg.cps.toList.length=36:=by decide +kernel
theorem sg_nd:sg.cps.toList.Nodup:=by decide +kernel
theorem sg_small:∀ c∈sg.cps.toList,c<128:=by decide +kernel
theorem sg_at {i:Int} (h0:0<=i) (h1:i<36):atI sg.cps.toList i=some (sgC i.toNat):=by
 have hk:i.toNat<sg.cps.toList.length:=by rw [sg_len];omega
 have:=atI_nat (xs:=sg.cps.toList) (j:=i.toNat) (v:=sgC i.toNat) (by
  unfold sgC
  rw [hAe,hA3 hk];rfl)
 rw [hD8 h0] at this
 exact this
theorem sgC_inj {i j:Nat} (hi:i<36) (hj:j<36) (e:sgC i=sgC j):i=j:=by
 have hi':i<sg.cps.toList.length:=by rw [sg_len];exact hi
 have hj':j<sg.cps.toList.length:=by rw [sg_len];exact hj
 unfold sgC at e
 rw [hAe,hAe,hA3 hi',hA3 hj'] at e
 exact (List.getElem_inj sg_nd).mp e
theorem sgC_small {i:Nat} (hi:i<36):sgC i<128:=by
 have hi':i<sg.cps.toList.length:=by rw [sg_len];exact hi
 unfold sgC
 rw [hAe,hA3 hi']
 exact sg_small _ (hBf hi')
def Sm (x:Str):Prop:=∀ c∈x.cps.toList,c<128
theorem Sm.ok {x:Str} (h:Sm x):PyData.strOk x=true:=by
 unfold PyData.strOk
 rw [Array.all_eq_true_iff_forall_mem]
 intro c hc
 have:=h c (by simpa using hc)
 exact decide_eq_true (by omega)
theorem Sm.app {x y:Str} (h:Sm x) (h':Sm y):Sm (x++y):=fun c hc=>by
 rw [Str.cps_append,hBn,hAf] at hc
 exact hc.elim (h c) (h' c)
theorem Sm.one {c:Nat} (h:c<128):Sm ⟨#[c]⟩:=fun d hd=>by
 have:d=c:=by simpa using hd
 omega
theorem Sm.nil:Sm "":=fun c hc=>by
 have:c∈([]:List Nat):=hc
 cases this
theorem Sm.slice {x:Str} (h:Sm x) (l u:Option Int):Sm (Txt.slice x l u):=fun c hc=>by
 unfold Txt.slice at hc
 split at hc
 ·exact h c hc
 ·simp only [List.mem_filterMap] at hc
  obtain ⟨i,_,hi⟩:=hc
  exact h c (by simpa using Array.mem_of_getElem? hi)
end My
namespace My
open PySem L2
def rowD (r:List Str):PyData:=.list (r.map .str)
theorem eqv_strs:∀ a b:List Str,PyData.eqvAll (a.map .str) (b.map .str)=decide (a=b)
 | [],[]=>rfl
 | [],_ :: _=>rfl
 | _ :: _,[]=>rfl
 | x :: a,y :: b=>by
  show (x == y && PyData.eqvAll (a.map .str) (b.map .str))=_
  rw [eqv_strs a b]
  by_cases e:x=y
  ·subst e;simp
  ·simp [e]
theorem eqv_row (a b:List Str):PyData.eqv (rowD a) (rowD b)=decide (a=b):=eqv_strs a b
def SOk (r:List Str):Prop:=∀ x∈r,PyData.strOk x=true
theorem lay_strs:∀ {r:List Str},SOk r->PyData.canLayAll0 (r.map .str)=true/\PyData.depthAll (r.map .str)=0
 | [],_=>⟨rfl,rfl⟩
 | x :: r,h=>by
  obtain ⟨h1,h2⟩:=lay_strs (r:=r) fun y hy=>h y (hA4 _ hy)
  refine ⟨?_,?_⟩
  ·show (PyData.strOk x && PyData.canLayAll0 (r.map .str))=true
   rw [h1,h x hA2];rfl
  ·show max 0 (PyData.depthAll (r.map .str))=0
   rw [h2];rfl
theorem qB2 {r:List Str} (h:SOk r):SeqAt.shaped (rowD r)=true:=by
 obtain ⟨h3,h4⟩:=lay_strs h
 show (PyData.canLayAll0 (r.map .str) && decide (PyData.depthAll (r.map .str)+1<=64))=true
 rw [h3,h4];rfl
theorem dr_strs {K:PySem.W.Frag} {H:Hp}:∀ r:List Str,DRs K H (r.map V.str) (r.map .str)
 | []=>.nil
 | x :: r=>.cons (.str x) (dr_strs r)
theorem qGl {K:PySem.W.Frag} {H:Hp} {a:Addr} {r:List Str} (h:LsS H a r):DR K H (.ref a) (rowD r):=.lst (SqL.of h) (dr_strs r)
end My
namespace My
open PySem L2
theorem qFa {k:Nat} {A:Around} (hr:Room k A):A.units+64<cLine:=by have:=hr.un;omega
theorem qBn:bootBuiltins "list" = some (.type "list"):=by decide +kernel
theorem qBj:bootBuiltins "sorted" = some (.builtin "sorted"):=by decide +kernel
theorem boot_all':bootBuiltins "all" = some (.builtin "all"):=by decide +kernel
theorem boot_set':bootBuiltins "set" = some (.type "set"):=by decide +kernel
theorem qFs:bootBuiltins "tuple" = some (.type "tuple"):=by decide +kernel
end My
namespace My
open PySem L2
theorem qBo {α:Type} {P:List α->Prop} (h0:P []) (hs:∀ l t,P l->P (l++[t])) (l:List α):P l:=by
 have:∀ r:List α,P r.reverse:=fun r=>by
  induction r with
  | nil=>exact h0
  | cons a r ih=>rw [List.reverse_cons];exact hs _ _ ih
 have q:=this l.reverse
 rwa [List.reverse_reverse] at q
abbrev Tr:=Str×Str×Str
abbrev lab (f:Str->Str) (t:Tr):Str->Str:=fun p=>if f p=f t.2.2 then f t.2.1 else f p
def homF (net:List Tr):Str->Str:=net.foldl lab id
theorem qCi (net:List Tr) (t:Tr):homF (net++[t])=lab (homF net) t:=by unfold homF;rw [hCg];rfl
def qGh (net:List Tr) (x:Str):Prop:=∃ t∈net,x=t.2.1\/x=t.2.2
theorem qB6 {net:List Tr} {t:Tr} {x:Str}:qGh (net++[t]) x↔qGh net x\/x=t.2.1\/x=t.2.2:=by
 unfold qGh
 constructor
 ·rintro ⟨u,hu,h⟩
  rcases hAf.mp hu with z | z
  ·exact .inl ⟨u,z,h⟩
  ·rw [hA7] at z;subst z;exact .inr h
 ·rintro (⟨u,hu,h⟩ | h)
  ·exact ⟨u,hAm _ hu,h⟩
  ·exact ⟨t,hA6 _ (hA7.mpr rfl),h⟩
theorem homF_tie (net:List Tr):∀ t∈net,homF net t.2.1=homF net t.2.2:=by
 refine qBo (P:=fun net=>∀ t∈net,homF net t.2.1=homF net t.2.2) (fun t h=>by cases h) (fun l t ih=>?_) net
 intro u hu
 rw [qCi]
 show (if homF l u.2.1=homF l t.2.2 then homF l t.2.1 else homF l u.2.1)=if homF l u.2.2=homF l t.2.2 then homF l t.2.1 else homF l u.2.2
 rcases hAf.mp hu with z | z
 ·rw [ih u z]
 ·rw [hA7] at z
  subst z
  rw [if_pos rfl]
  split <;> rfl
def wStep (kept:List Tr) (t:Tr):List Tr:=if homF kept t.2.1=homF kept t.2.2 then kept else kept++[t]
def woodF (net:List Tr):List Tr:=net.foldl wStep []
theorem qDx (net:List Tr) (t:Tr):woodF (net++[t])=wStep (woodF net) t:=by unfold woodF;rw [hCg];rfl
theorem lab_same {f:Str->Str} {t:Tr} (h:f t.2.1=f t.2.2):lab f t=f:=by
 funext p
 show (if f p=f t.2.2 then f t.2.1 else f p)=f p
 split
 ·rename_i e;rw [e,h]
 ·rfl
theorem homF_wood (net:List Tr):homF (woodF net)=homF net:=by
 refine qBo (P:=fun net=>homF (woodF net)=homF net) rfl (fun l t ih=>?_) net
 rw [qDx,qCi]
 unfold wStep
 rw [ih]
 split
 ·rename_i e
  rw [ih,lab_same e]
 ·rw [qCi,ih]
theorem nodup_len {l1 l2:List Str} (h1:l1.Nodup) (h2:l2.Nodup) (h:∀ x,x∈l1↔x∈l2):l1.length=l2.length:=((hBd h1 h2).mpr h).length_eq
theorem count (ps:List Str) (nd:ps.Nodup) (net:List Tr):(∀ x,qGh net x->x∈ps)->∃ labs:List Str,labs.Nodup/\(∀ x,x∈labs↔∃ p∈ps,homF net p=x)/\labs.length+(woodF net).length=ps.length:=by
 refine qBo (P:=fun net=>(∀ x,qGh net x->x∈ps)->∃ labs:List Str,labs.Nodup/\(∀ x,x∈labs↔∃ p∈ps,homF net p=x)/\labs.length+(woodF net).length=ps.length) (fun _=>⟨ps,nd,fun x=>⟨fun h=>⟨x,h,rfl⟩,fun ⟨p,hp,e⟩=>e▸hp⟩,rfl⟩) (fun l t ih hp=>?_) net
 obtain ⟨labs,n1,m1,c1⟩:=ih fun x hx=>hp x (qB6.mpr (.inl hx))
 have o1:t.2.1∈ps:=hp _ (qB6.mpr (.inr (.inl rfl)))
 have o2:t.2.2∈ps:=hp _ (qB6.mpr (.inr (.inr rfl)))
 rw [qCi,qDx]
 unfold wStep
 rw [homF_wood]
 by_cases e:homF l t.2.1=homF l t.2.2
 ·rw [if_pos e,lab_same e]
  exact ⟨labs,n1,m1,c1⟩
 ·rw [if_neg e]
  have mo:homF l t.2.2∈labs:=(m1 _).mpr ⟨_,o2,rfl⟩
  refine ⟨labs.erase (homF l t.2.2),n1.erase _,fun x=>?_,?_⟩
  ·rw [n1.mem_erase_iff,m1]
   constructor
   ·rintro ⟨nx,p,hp',ex⟩
    refine ⟨p,hp',?_⟩
    show (if homF l p=homF l t.2.2 then homF l t.2.1 else homF l p)=x
    rw [if_neg (by rw [ex];exact nx),ex]
   ·rintro ⟨p,hp',ex⟩
    have ex':(if homF l p=homF l t.2.2 then homF l t.2.1 else homF l p)=x:=ex
    by_cases z:homF l p=homF l t.2.2
    ·rw [if_pos z] at ex'
     exact ⟨by rw [<-ex'];exact e,_,o1,ex'⟩
    ·rw [if_neg z] at ex'
     exact ⟨by rw [<-ex'];exact z,p,hp',ex'⟩
  ·rw [List.length_erase_of_mem mo,hAc]
   have:0<labs.length:=List.length_pos_of_mem mo
   show labs.length - 1+((woodF l).length+1)=_
   omega
theorem count_ks {net:List Tr} {ps ks:List Str} (n1:ps.Nodup) (m1:∀ x,x∈ps↔qGh net x) (n2:ks.Nodup) (m2:∀ x,x∈ks↔∃ t∈net,homF net t.2.1=x):ks.length+(woodF net).length=ps.length:=by
 obtain ⟨labs,n3,m3,c⟩:=count ps n1 net fun x hx=>(m1 x).mpr hx
 have e:ks.length=labs.length:=nodup_len n2 n3 fun x=>by
  rw [m2,m3]
  constructor
  ·rintro ⟨t,ht,rfl⟩
   exact ⟨t.2.1,(m1 _).mpr ⟨t,ht,.inl rfl⟩,rfl⟩
  ·rintro ⟨p,hp,rfl⟩
   obtain ⟨t,ht,h⟩:=(m1 p).mp hp
   refine ⟨t,ht,?_⟩
   rcases h with rfl | rfl
   ·rfl
   ·exact homF_tie net t ht
 rw [e];exact c
end My
namespace My
open PySem L2
def othr (f:Tr->Str) (t:Tr) (r:List Tr):List Tr:=r.filter fun u=>!decide (f u=f t)
theorem othr_le (f:Tr->Str) (t:Tr) (r:List Tr):(othr f t r).length<=r.length:=hAw _ _
def PCK (f:Tr->Str):List Tr->List (Str×List Str)
 | []=>[]
 | t :: r=>(f t,((t :: r).filter fun u=>decide (f u=f t)).map (·.1)) :: PCK f (othr f t r)
termination_by l=>l.length
decreasing_by
 have:=othr_le f t r
 simp only [hAy]
 omega
theorem qEb (f:Tr->Str):PCK f []=[]:=by rw [PCK]
theorem qDt (f:Tr->Str) (t:Tr) (r:List Tr):PCK f (t :: r)=(f t,((t :: r).filter fun u=>decide (f u=f t)).map (·.1)) :: PCK f (r.filter fun u=>!decide (f u=f t)):=by rw [PCK];rfl
theorem len_ind {P:List Tr->Prop} (h:∀ l,(∀ l',l'.length<l.length->P l')->P l) (l:List Tr):P l:=by
 have:∀ n,∀ l:List Tr,l.length<n->P l:=fun n=>by
  induction n with
  | zero=>intro l hl;omega
  | succ n ih=>intro l hl;exact h l fun l' hl'=>ih l' (by omega)
 exact this (l.length+1) l (by omega)
theorem qDs (f:Tr->Str) (net:List Tr):((PCK f net).map (·.1)).Nodup/\∀ x,x∈(PCK f net).map (·.1)↔∃ t∈net,f t=x:=by
 refine len_ind (P:=fun net=>((PCK f net).map (·.1)).Nodup/\∀ x,x∈(PCK f net).map (·.1)↔∃ t∈net,f t=x) (fun l ih=>?_) net
 cases l with
 | nil=>rw [qEb];exact ⟨hC9,fun x=>by simp⟩
 | cons t r =>
  obtain ⟨h1,h2⟩:=ih (r.filter fun u=>!decide (f u=f t)) (by have:=hAw (fun u=>!decide (f u=f t)) r;rw [hAy];omega)
  rw [qDt,hAl]
  refine ⟨hB0.mpr ⟨fun z=>?_,h1⟩,fun x=>?_⟩
  ·obtain ⟨u,hu,e⟩:=(h2 _).mp z
   have:=(hAg.mp hu).2
   simp [e] at this
  ·rw [hA9,h2]
   constructor
   ·rintro (rfl | ⟨u,hu,e⟩)
    ·exact ⟨t,hA2,rfl⟩
    ·exact ⟨u,hA4 _ (hAg.mp hu).1,e⟩
   ·rintro ⟨u,hu,e⟩
    by_cases z:x=f t
    ·exact .inl z
    ·rcases hA9.mp hu with y | y
     ·subst y;exact absurd e.symm z
     ·exact .inr ⟨u,hAg.mpr ⟨y,by rw [e];simpa using z⟩,e⟩
theorem PCK_snoc (f:Tr->Str) (t:Tr) (net:List Tr):PCK f (net++[t])=if f t∈(PCK f net).map (·.1) then (PCK f net).map (fun p=>if p.1=f t then (p.1,p.2++[t.1]) else p) else PCK f net++[(f t,[t.1])]:=by
 refine len_ind (P:=fun net=>PCK f (net++[t])=if f t∈(PCK f net).map (·.1) then (PCK f net).map (fun p=>if p.1=f t then (p.1,p.2++[t.1]) else p) else PCK f net++[(f t,[t.1])]) (fun l ih=>?_) net
 cases l with
 | nil =>
  rw [List.nil_append,qDt,qEb,List.filter_nil,qEb,if_neg (by simp)]
  simp
 | cons u r =>
  have ih':=ih (r.filter fun v=>!decide (f v=f u)) (by have:=hAw (fun v=>!decide (f v=f u)) r;rw [hAy];omega)
  obtain ⟨k1,k2⟩:=qDs f (r.filter fun v=>!decide (f v=f u))
  rw [List.cons_append,qDt,qDt,hC3]
  have nu:f u∉(PCK f (r.filter fun v=>!decide (f v=f u))).map (·.1):=fun z=>by
   obtain ⟨v,hv,e⟩:=(k2 _).mp z
   have:=(hAg.mp hv).2
   simp [e] at this
  by_cases e:f t=f u
  ·have e1:([t].filter fun v=>!decide (f v=f u))=[]:=by simp [e]
   have e2:((u :: (r++[t])).filter fun v=>decide (f v=f u))=((u :: r).filter fun v=>decide (f v=f u))++[t]:=by
    rw [<-List.cons_append,hC3];simp [e]
   rw [e1,e2,hC5,hAl,if_pos (by rw [e];exact hA2),hAl]
   dsimp only
   rw [if_pos e.symm,hAa]
   congr 1
   refine (List.map_id _).symm.trans (hBy fun p hp=>?_)
   have:p.1≠f t:=fun z=>by
    have m:=hB6 (f:=(·.1)) hp
    rw [z,e] at m
    exact nu m
   rw [if_neg this];rfl
  ·have e1:([t].filter fun v=>!decide (f v=f u))=[t]:=by simp [e]
   have e2:((u :: (r++[t])).filter fun v=>decide (f v=f u))=((u :: r).filter fun v=>decide (f v=f u)):=by
    rw [<-List.cons_append,hC3];simp [e]
   rw [e1,e2,ih',hAl]
   dsimp only
   by_cases m:f t∈(PCK f (r.filter fun v=>!decide (f v=f u))).map (·.1)
   ·rw [if_pos m,if_pos (hA4 _ m),hAl]
    dsimp only
    rw [if_neg (fun z=>e z.symm)]
   ·rw [if_neg m,if_neg (fun z=>(hA9.mp z).elim e m)]
    rfl
theorem PCK_val (f:Tr->Str) (net:List Tr):∀ p∈PCK f net,p.2=(net.filter fun u=>decide (f u=p.1)).map (·.1):=by
 refine len_ind (P:=fun net=>∀ p∈PCK f net,p.2=(net.filter fun u=>decide (f u=p.1)).map (·.1)) (fun l ih=>?_) net
 cases l with
 | nil=>rw [qEb];intro p hp;cases hp
 | cons t r =>
  rw [qDt]
  intro p hp
  rcases hA9.mp hp with z | z
  ·subst z;rfl
  ·have q:=ih (r.filter fun u=>!decide (f u=f t)) (by have:=hAw (fun u=>!decide (f u=f t)) r;rw [hAy];omega) p z
   obtain ⟨_,k2⟩:=qDs f (r.filter fun v=>!decide (f v=f t))
   obtain ⟨v,hv,e⟩:=(k2 p.1).mp (hB6 z)
   have ne:¬f t=p.1:=fun y=>by
    have:=(hAg.mp hv).2
    simp [e,y] at this
   rw [q,List.filter_filter,List.filter_cons,if_neg (by simpa using ne)]
   congr 1
   refine List.filter_congr fun u hu=>?_
   by_cases y:f u=p.1
   ·have w:¬f u=f t:=fun w=>ne (w.symm.trans y)
    rw [decide_eq_true y,decide_eq_false w];rfl
   ·rw [decide_eq_false y];rfl
abbrev qFz (l:List Str):Prop:=l.Pairwise fun a b=>sLtB a b=true
theorem rise_ext:∀ {a b:List Str},qFz a->qFz b->(∀ x,x∈a↔x∈b)->a=b
 | [],[],_,_,_=>rfl
 | [],y :: b,_,_,h=>by have:=(h y).mpr hA2;cases this
 | x :: a,[],_,_,h=>by have:=(h x).mp hA2;cases this
 | x :: a,y :: b,ha,hb,h=>by
  obtain ⟨a1,a2⟩:=hBm.mp ha
  obtain ⟨b1,b2⟩:=hBm.mp hb
  have e:x=y:=by
   rcases hA9.mp ((h x).mp hA2) with z | z
   ·exact z
   ·rcases hA9.mp ((h y).mpr hA2) with w | w
    ·exact w.symm
    ·have q:=qD0 (b1 x z) (a1 y w)
     rw [qDj] at q;cases q
  subst e
  refine congrArg _ (rise_ext a2 b2 fun z=>⟨fun hz=>?_,fun hz=>?_⟩)
  ·rcases hA9.mp ((h z).mp (hA4 _ hz)) with w | w
   ·have:=a1 z hz;rw [w,qDj] at this;cases this
   ·exact w
  ·rcases hA9.mp ((h z).mpr (hA4 _ hz)) with w | w
   ·have:=b1 z hz;rw [w,qDj] at this;cases this
   ·exact w
end My
namespace My
open PySem L2
abbrev trV (t:Tr):List V:=[.str t.1,.str t.2.1,.str t.2.2]
def qBb (H:Hp) (p:Addr) (net:List Tr):Prop:=∃ as:List Addr,H p=some (.lst (as.map V.ref))/\Paired (fun a t=>H a=some (.tup (trV t))) as net
theorem qBb.ext {H H':Hp} {p:Addr} {net:List Tr} (h:qBb H p net) (e:Ext H H'):qBb H' p net:=by
 obtain ⟨as,h1,h2⟩:=h
 exact ⟨as,e _ _ h1,Paired.mapP h2 fun a t z=>e _ _ z⟩
theorem qA9 {α β:Type} {R:α->β->Prop}:∀ {as:List α} {bs:List β} {i:Nat} {a:α},Paired R as bs->as[i]?=some a->∃ b,bs[i]?=some b/\R a b
 | _,_,_,_,.nil,e=>by simp at e
 | _,_,0,_,.cons h _,e=>by simp at e;subst e;exact ⟨_,rfl,h⟩
 | _,_,i+1,_,.cons _ t,e=>by
  obtain ⟨b,h1,h2⟩:=qA9 (i:=i) t (by simpa using e)
  exact ⟨b,by simpa using h1,h2⟩
theorem qCk {H:Hp} {as:List Addr} {net:List Tr} {i:Nat} {x:V} (h:Paired (fun a t=>H a=some (.tup (trV t))) as net) (e:(as.map V.ref)[i]?=some x):∃ a t,x = .ref a/\net[i]?=some t/\H a=some (.tup (trV t)):=by
 rw [hAj] at e
 cases ha:as[i]? with
 | none=>rw [ha] at e;cases e
 | some a =>
  rw [ha] at e
  obtain ⟨t,h1,h2⟩:=qA9 h ha
  exact ⟨a,t,(hAs e).symm,h1,h2⟩
theorem qAj {α:Type} {l:List α} {i:Nat} {t:α} (h:l[i]?=some t):l.take (i+1)=l.take i++[t]:=by rw [List.take_add_one,h];rfl
theorem qAx {α:Type} {l:List α} {i:Nat} {t:α} (h:l[i]?=some t):i<l.length:=(hAp.mp h).1
theorem rise_go:∀ (l:List Str) (p:Str),PyProof.Rows.risingS p l=true->(p :: l).Nodup->qFz (p :: l)
 | [],p,_,_=>hCp _ _
 | x :: r,p,h,nd=>by
  have h':(!PySem.Spec.ltCps x.cps.toList p.cps.toList && PyProof.Rows.risingS x r)=true:=h
  rw [hBa] at h'
  have nd':=hB0.mp nd
  have ih:=rise_go r x h'.2 nd'.2
  have px:sLtB p x=true:=by
   have z:=h'.1
   rw [PyProof.Rows.ltCps_eq] at z
   rcases sLtB_tri p x with t | t | t
   ·exact t
   ·exact absurd t (fun e=>nd'.1 (by rw [e];exact hA2))
   ·rw [decide_eq_true (of_decide_eq_true t)] at z;cases z
  refine hBm.mpr ⟨fun y hy=>?_,ih⟩
  rcases hA9.mp hy with e | hy
  ·rw [e];exact px
  ·exact qD0 px ((hBm.mp ih).1 y hy)
theorem rise_of {l:List Str} (h:PyProof.Rows.sortedS l=true) (nd:l.Nodup):qFz l:=by
 cases l with
 | nil=>exact List.Pairwise.nil
 | cons x r=>exact rise_go r x h nd
def qEa (net:List Tr) (ps:List Str):Prop:=ps.Nodup/\∀ x,x∈ps↔qGh net x
def qEs:Sp:=fun vs H Q _=>∃ (p:Addr) (net:List Tr),vs=[.ref p]/\qBb H p net/\net.length<=12/\∀ r ps H',Ext H H'->H r=none->LsS H' r ps->qEa net ps->qFz ps->ps.length<=24->Q (.ref r) H'
section
variable {P:Program} {w:World} {K:PySem.W.Frag} {mg:Str->Option Value} {base:Heap} {f f1:Addr} {fd fd1:FuncData}
theorem scPoints:FnScope ["net"] ["net"] (qAb qDb):=⟨rfl,rfl,rfl,by decide +kernel,rfl,by decide +kernel,by decide +kernel⟩
abbrev ptN:List Str:=["tie","one","other","end"]
theorem ok_points (F:Fun K "points" "points" qDb f fd) (mso:mg "sorted" = none):FnOk P w K mg base CX0 1 f fd ["net"] qEs:=by
 refine F.ok scPoints (fun vs H Q E h=>?_) (fun cdv A outer s H vs Q E hr h=>?_)
 ·obtain ⟨p,net,rfl,_⟩:=h
  rfl
 obtain ⟨p,net,rfl,⟨as,hp,pr⟩,hl,q⟩:=h
 refine ⟨_,qAi (qAv (qAn (qFx rfl) rfl mso qBj (qAa
  (pe_g gc_set2 rfl (N:=["net"]) (sc:=qAb qDb) (N':=ptN) (sub:=[none,none,none,none]) rfl rfl (CmpOk.of (by decide +kernel)) rfl (qAs (pv 0))
   (fun C s H fp=>⟨(show PG _ _ (gTup K 3 _) from qBt rfl (qAk (qAf (i:=0) (by show ptN.Nodup;decide) rfl (Or.inl rfl)) (qAk (qAf (i:=1) (by show ptN.Nodup;decide) rfl (Or.inl rfl)) (qAk (qAf (i:=2) (by show ptN.Nodup;decide) rfl (Or.inl rfl)) qBe)))),qA4,
    fun acc=>pbd_nest rfl rfl (show PI _ _ _ (iTup K _) from pi_tup (qBu (qAa (pv 1) (qAa (pv 2) qAc)))) (qAf (i:=3) (by show ptN.Nodup;decide) rfl (Or.inl rfl)) qA4 (pbd_set rfl (pv 3)) (fun _=>rfl) rfl rfl (fun _=>rfl) (fun _ _ _ _ _ h=>h) (fun _ _ _ _ _ h=>h) (fun _=>rfl)⟩)) qAc))),?_⟩
 have lA:as.length=net.length:=pr.length
 refine ⟨_,rfl,p,rfl,⟨_,SqL.of hp⟩,?_⟩
 refine g_list (xs:=as.map V.ref) (fun i ss σ H'=>Ext H H'/\(∃ x0 x1 x2 x3:Option V,σ=[x0,x1,x2,x3])/\ss.Nodup/\(∀ x,x∈ss↔qGh (net.take i) x)/\ss.length<=2*i) ⟨Ext.refl _,⟨none,none,none,none,rfl⟩,hC9,fun x=>⟨fun z=>(by cases z),fun ⟨t,ht,_⟩=>(by simp at ht)⟩,hAt _⟩ (fun i ss σ H' _ h=>SqL.of (h.1 _ _ hp)) ?_ ?_
 ·rintro i x ss σ H' hx ⟨he,⟨x0,x1,x2,x3,rfl⟩,nd,mem,ln⟩
  obtain ⟨a,t,rfl,ht,ha⟩:=qCk pr hx
  have hi:=qAx ht
  refine ⟨a,_,rfl,SqT.of (he _ _ ha),rfl,_,_,rfl,_,_,rfl,_,_,rfl,rfl,iteT (B:=False) ?_⟩
  refine ⟨_,rfl,_,rfl,(by show 2<=sizeLine;decide),fun T hT=>⟨T,rfl,⟨_,SqT.of upd_same⟩,?_⟩⟩
  have X1:=Ext.new hT (.tup [V.str t.2.1,V.str t.2.2])
  refine g_tuple (xs:=[V.str t.2.1,V.str t.2.2]) (fun j ss σ H2=>Ext (upd H' T (.tup [V.str t.2.1,V.str t.2.2])) H2/\(∃ y:Option V,σ=[some (.str t.1),some (.str t.2.1),some (.str t.2.2),y])/\ss.Nodup/\(∀ x,x∈ss↔qGh (net.take i) x\/(0<j/\x=t.2.1)\/(1<j/\x=t.2.2))/\ss.length<=2*i+j)
   ⟨Ext.refl _,⟨_,rfl⟩,nd,fun x=>by rw [mem];simp,by omega⟩ (fun j ss σ H2 _ h=>SqT.of (h.1 _ _ upd_same)) ?_ ?_
  ·rintro j z ss2 σ H2 hz ⟨h2,⟨y,rfl⟩,nd2,mem2,ln2⟩
   have hj:j<2:=qAx hz
   obtain ⟨v,rfl,hv⟩:∃ v:Str,z = .str v/\((j=0/\v=t.2.1)\/(j=1/\v=t.2.2)):=by
    rcases (show j=0\/j=1 by omega) with rfl | rfl
    ·exact ⟨t.2.1,(hAs hz).symm,.inl ⟨rfl,rfl⟩⟩
    ·exact ⟨t.2.2,(hAs hz).symm,.inr ⟨rfl,rfl⟩⟩
   refine iteT (B:=False) ⟨_,rfl,v,rfl,by omega,fun ss3 h3=>nxg hj ⟨h2,⟨_,rfl⟩,?_⟩⟩
   have key:ss3.Nodup/\(∀ x,x∈ss3↔x∈ss2\/x=v)/\ss3.length<=ss2.length+1:=by
    by_cases m:v∈ss2
    ·rw [if_pos m] at h3
     subst h3
     exact ⟨nd2,fun x=>⟨.inl,fun z=>z.elim id fun e=>e▸m⟩,hAx _⟩
    ·rw [if_neg m] at h3
     refine ⟨h3.nodup_iff.mpr ?_,fun x=>by rw [h3.mem_iff,hAf,hA7],by rw [h3.length_eq,hAc];exact hA5 _⟩
     rw [hC8]
     exact ⟨nd2,by simp,fun y hy z hz=>by rw [hA7] at hz;subst hz;rintro rfl;exact m hy⟩
   refine ⟨key.1,fun x=>?_,by have:=key.2.2;omega⟩
   rw [key.2.1,mem2]
   rcases hv with ⟨rfl,rfl⟩ | ⟨rfl,rfl⟩
   ·simp
   ·simp [or_assoc]
  ·rintro ss2 σ H2 ⟨h2,⟨y,rfl⟩,nd2,mem2,ln2⟩
   refine nxg (qAx hx) ⟨he.trans (X1.trans h2),⟨_,_,_,_,rfl⟩,nd2,fun x=>?_,by have:ss2.length<=2*i+2:=ln2;omega⟩
   rw [mem2,qAj ht,qB6]
   simp
 ·rintro ss σ H' ⟨he,_,nd,mem,ln⟩ r hr1
  rw [hA1,lA,hA8 (hA5 _)] at mem
  rw [hA1,lA] at ln
  refine ⟨r,ss,rfl,upd_same,by omega,fun r2 ss2 hr2 pm srt=>?_⟩
  exact q r2 ss2 _ ((he.trans (Ext.new hr1 _)).trans (Ext.new hr2 _)) ((he.trans (Ext.new hr1 _)).none hr2) upd_same ⟨pm.nodup_iff.mpr nd,fun x=>by rw [pm.mem_iff,mem]⟩ (rise_of srt (pm.nodup_iff.mpr nd)) (by rw [pm.length_eq];omega)
end
end My
namespace My
open PySem L2
theorem Ext.over {H H':Hp} {d:Addr} (e:Ext H H') (h:H d=Option.none) (o:HO):Ext H (upd H' d o):=fun b u q=>by rw [qAe (qAd q h)];exact e b u q
def hD (ps:List Str) (f:Str->Str):List (Key×V):=ps.map fun p=>(Sum.inr p,V.str (f p))
theorem hD_val (f:Str->Str) (x:Str):∀ ps:List Str,valV (hD ps f) (Sum.inr x)=if x∈ps then some (.str (f x)) else none
 | []=>by simp [hD,valV]
 | p :: r=>by
  have ih:=hD_val f x r
  by_cases e:p=x
  ·subst e
   rw [if_pos hA2]
   exact qBc rfl
  ·have:valV (hD (p :: r) f) (Sum.inr x)=valV (hD r f) (Sum.inr x):=qBa fun z=>e (Sum.inr.inj z)
   rw [this,ih]
   have e':¬x=p:=fun z=>e z.symm
   simp [e']
theorem hD_snoc {ps:List Str} {f:Str->Str} {i:Nat} {p:Str} (nd:ps.Nodup) (h:ps[i]?=some p):qEn (hD (ps.take i) f) (Sum.inr p) (.str (f p))=hD (ps.take (i+1)) f:=by
 have np:p∉ps.take i:=fun z=>by
  have e:=qAj h
  have nd':(ps.take (i+1)).Nodup:=nd.sublist (hDj _ _)
  rw [e,hC8] at nd'
  exact nd'.2.2 p z p (by simp) rfl
 rw [putK_new _ (by rw [hD_val,if_neg np]),qAj h]
 unfold hD
 rw [hAa];rfl
theorem hD_itV {ps:List Str} {f:Str->Str} {i:Nat} {p:Str} (h:ps[i]?=some p):itV (hD ps f) i=[V.str p,V.str (f p)]:=by
 unfold itV hD
 rw [hAj,h];rfl
def spHomes:Sp:=fun vs H Q _=>∃ (p:Addr) (net:List Tr),vs=[.ref p]/\qBb H p net/\net.length<=12/\∀ r ps H',Ext H H'->H r=none->H' r=some (.dK (hD ps (homF net)))->qEa net ps->ps.length<=24->Q (.ref r) H'
section
variable {P:Program} {w:World} {K:PySem.W.Frag} {mg:Str->Option Value} {base:Heap} {f f1:Addr} {fd fd1:FuncData}
abbrev hoN:List Str:=["net","home","tie","one","other","old","new"]
theorem qCp:FnScope hoN ["net"] (qAb qEg):=⟨rfl,rfl,rfl,by decide +kernel,rfl,by decide +kernel,by decide +kernel⟩
theorem ok_homes (F:Fun K "homes" "homes" qEg f fd) (G:FnOk P w K mg base CX0 1 f1 fd1 ["net"] qEs) (bG:qA7 K fd1 ["net"] []) (kG:PySem.W.keepIn K (.ref f1)=true) (mG:mg "points" = some (.ref f1)):FnOk P w K mg base CX0 2 f fd ["net"] spHomes:=by
 refine F.ok qCp (fun vs H Q E h=>?_) (fun cdv A outer s H vs Q E hr h=>?_)
 ·obtain ⟨p,net,rfl,_⟩:=h
  rfl
 obtain ⟨p,net,rfl,nt,hl,q⟩:=h
 refine ⟨_,pss_cons (ps_g (i:=1) gc_dict (fun _=>rfl) (N:=hoN) (sc:=qAb qEg) (N':=["point"]) (sub:=[none]) rfl rfl (CmpOk.of (by decide +kernel)) rfl (qAs (qAl G hr rfl mG kG bG .nil qA5 (qAa (pv 0) qAc)))
   (fun C s H fp=>⟨qAf (i:=0) (by show (["point"]:List Str).Nodup;decide) rfl (Or.inl rfl),qA4,fun acc=>pbd_dict rfl (pv 0) (pv 0)⟩) qCp.nd rfl (Or.inl rfl))
  (pss_cons (qBs PassesOwn.never rfl (qAs (pv 0)) (qBt rfl (qAk (qAf (i:=2) qCp.nd rfl (Or.inl rfl)) (qAk (qAf (i:=3) qCp.nd rfl (Or.inl rfl)) (qAk (qAf (i:=4) qCp.nd rfl (Or.inl rfl)) qBe))))
   (pss_cons (ps_asg (qBu (qAa (qD2 (hu_of hr) (pv 1) (pv 4) (fun _ _=>rfl)) (qAa (qD2 (hu_of hr) (pv 1) (pv 3) (fun _ _=>rfl)) qAc))) (qBt rfl (qAk (qAf (i:=5) qCp.nd rfl (Or.inr rfl)) (qAk (qAf (i:=6) qCp.nd rfl (Or.inr rfl)) qBe))))
   (qAi (ps_g (i:=1) gc_dict (fun _=>rfl) (N:=hoN) (sc:=qAb qEg) (N':=["point","at","new","old"]) (sub:=[none,none,some 6,some 5]) rfl rfl (CmpOk.of (by decide +kernel)) rfl (pi_items (pv 1))
    (fun C s H fp=>⟨(show PG _ _ (gTup K 2 _) from qBt rfl (qAk (qAf (i:=0) (by show (["point","at","new","old"]:List Str).Nodup;decide) rfl (Or.inl rfl)) (qAk (qAf (i:=1) (by show (["point","at","new","old"]:List Str).Nodup;decide) rfl (Or.inl rfl)) qBe))),qA4,
     fun acc=>pbd_dict rfl (pv 0) (qEt (qAu qDm (pv 1) (pv 3) (qA1 _)) (pv 2) (pv 1))⟩) qCp.nd rfl (Or.inl rfl)))))
  (qAi (qAv (pv 1)))),?_⟩
 obtain ⟨as,hp,pr⟩:=id nt
 have lA:as.length=net.length:=pr.length
 refine ⟨_,rfl,p,net,rfl,nt,hl,fun r ps H1 e1 hr1 hps pok _ lps=>⟨r,rfl,⟨_,SqL.of hps⟩,?_⟩⟩
 have pnd:=pok.1
 refine g_list (xs:=ps.map V.str) (fun i kvs σ H2=>H2=H1/\(∃ x:Option V,σ=[x])/\kvs=hD (ps.take i) id) ⟨rfl,⟨none,rfl⟩,rfl⟩ (fun i kvs σ H2 _ h=>by rw [h.1];exact SqL.of hps) ?_ ?_
 ·rintro i x kvs σ H2 hx ⟨rfl,⟨x0,rfl⟩,rfl⟩
  obtain ⟨y,hy,rfl⟩:∃ y,ps[i]?=some y/\V.str y=x:=by
   rw [hAj] at hx
   cases e:ps[i]? with
   | none=>rw [e] at hx;cases hx
   | some y=>rw [e] at hx;exact ⟨y,rfl,hAs hx⟩
  refine iteT (B:=False) ⟨_,rfl,_,rfl,Sum.inr y,rfl,?_,nxg (qAx hx) ⟨rfl,⟨_,rfl⟩,hD_snoc pnd hy⟩⟩
  have:=qAx hy
  unfold hD
  rw [hA1,hAh]
  exact qAh (by omega)
 ·rintro kvs σ H2 ⟨rfl,_,rfl⟩ d hd
  rw [hA1,hA8 (hA5 _)]
  have hd0:=e1.none hd
  refine ⟨_,rfl,p,rfl,⟨_,SqL.of ((e1.over hd0 _) _ _ hp)⟩,?_⟩
  refine qBz (xs:=as.map V.ref) (fun i σ H3=>∃ (d:Addr) (x2 x3 x4 x5 x6:Option V),σ=[some (.ref p),some (.ref d),x2,x3,x4,x5,x6]/\Ext H H3/\H d=none/\H3 d=some (.dK (hD ps (homF (net.take i))))) ⟨d,_,_,_,_,_,rfl,e1.over hd0 _,hd0,upd_same⟩ ?_ ?_ ?_
  ·rintro i σ H3 _ ⟨d,x2,x3,x4,x5,x6,_,e3,_⟩
   exact SqL.of (e3 _ _ hp)
  ·rintro i x σ H3 hx ⟨d,x2,x3,x4,x5,x6,rfl,e3,hd0,hd3⟩
   obtain ⟨a,t,rfl,ht,ha⟩:=qCk pr hx
   have i1:t.2.1∈ps:=(pok.2 _).mpr ⟨t,hAr ht,.inl rfl⟩
   have i2:t.2.2∈ps:=(pok.2 _).mpr ⟨t,hAr ht,.inr rfl⟩
   have v1:=hD_val (homF (net.take i)) t.2.1 ps
   have v2:=hD_val (homF (net.take i)) t.2.2 ps
   rw [if_pos i1] at v1
   rw [if_pos i2] at v2
   refine ⟨a,_,rfl,SqT.of (e3 _ _ ha),rfl,_,_,rfl,_,_,rfl,_,_,rfl,rfl,?_⟩
   have g2:=DGet.k (k:=Sum.inr t.2.2) hd3
   rw [v2] at g2
   have g1:=DGet.k (k:=Sum.inr t.2.1) hd3
   rw [v1] at g1
   refine ⟨_,rfl,_,rfl,d,_,rfl,g2,_,rfl,_,rfl,d,_,rfl,g1,(by show 2<=sizeLine;decide),fun T hT=>⟨T,_,rfl,SqT.of upd_same,rfl,_,_,rfl,_,_,rfl,rfl,?_⟩⟩
   have e4:=Ext.new hT (.tup [V.str (homF (net.take i) t.2.2),V.str (homF (net.take i) t.2.1)])
   refine ⟨_,rfl,d,_,rfl,e4 _ _ hd3,fun o=>?_⟩
   have ln:(hD ps (homF (net.take i))).length=ps.length:=by unfold hD;rw [hA1]
   have g0:=(e3.trans e4).over hd0 (.frz o (.dK (hD ps (homF (net.take i)))))
   rw [ln]
   refine g_pairs (fun j kvs σ H5=>(∃ x0 x1:Option V,σ=[x0,x1,some (.str (homF (net.take i) t.2.1)),some (.str (homF (net.take i) t.2.2))])/\Ext H H5/\H5 d=some (.frz o (.dK (hD ps (homF (net.take i)))))/\kvs=hD (ps.take j) (lab (homF (net.take i)) t))
    ⟨⟨none,none,rfl⟩,g0,upd_same,rfl⟩ (fun j kvs σ H5 _ h=>h.2.2.1) ?_ ?_
   ·rintro j kvs σ H5 T2 hj ⟨⟨x0,x1,rfl⟩,e5,f5,rfl⟩ hT2
    have hy:ps[j]?=some ps[j]:=hA3 hj
    refine ⟨T2,_,rfl,SqT.of upd_same,?_⟩
    rw [hD_itV hy]
    refine ⟨rfl,_,_,rfl,_,_,rfl,rfl,iteT (B:=False) ?_⟩
    have e6:=e5.trans (Ext.new hT2 (.tup [V.str ps[j],V.str (homF (net.take i) ps[j])]))
    have f6:=Ext.new hT2 (.tup [V.str ps[j],V.str (homF (net.take i) ps[j])]) _ _ f5
    have sm:(hD (ps.take j) (lab (homF (net.take i)) t)).length<sizeLine:=by
     unfold hD
     rw [hA1,hAh]
     exact qAh (by omega)
    refine ⟨_,rfl,_,rfl,_,rfl,rfl,_,rfl,?_⟩
    refine qFl (fun c=>?_) (fun c=>?_)
    ·refine ⟨_,rfl,Sum.inr ps[j],rfl,sm,nxg hj ⟨⟨_,_,rfl⟩,e6,f6,?_⟩⟩
     have c':homF (net.take i) ps[j]=homF (net.take i) t.2.2:=by simpa using c
     have h:=hD_snoc (f:=lab (homF (net.take i)) t) pnd hy
     rwa [show lab (homF (net.take i)) t ps[j]=homF (net.take i) t.2.1 from if_pos c'] at h
    ·refine ⟨_,rfl,Sum.inr ps[j],rfl,sm,nxg hj ⟨⟨_,_,rfl⟩,e6,f6,?_⟩⟩
     have c':¬homF (net.take i) ps[j]=homF (net.take i) t.2.2:=by simpa using c
     have h:=hD_snoc (f:=lab (homF (net.take i)) t) pnd hy
     rwa [show lab (homF (net.take i)) t ps[j]=homF (net.take i) ps[j] from if_neg c'] at h
   ·rintro kvs σ H5 ⟨⟨x0,x1,rfl⟩,e5,f5,rfl⟩ d2 hd2
    rw [hA8 (hA5 _)]
    have hd20:=e5.none hd2
    refine ⟨d2,_,_,_,_,_,rfl,e5.over hd20 _,hd20,?_⟩
    rw [qAj ht,qCi]
    exact upd_same
  ·rintro σ H3 ⟨d,x2,x3,x4,x5,x6,rfl,e3,hd0,hd3⟩
   rw [hA1,lA,hA8 (hA5 _)] at hd3
   exact ⟨_,rfl,q d ps H3 e3 hd0 hd3 pok lps⟩
end
end My
namespace My
open PySem L2
def stT (t:Tr) (x:Str):List Str:=(if t.2.1=x then [t.1] else [])++(if t.2.2=x then [t.1] else [])
def starF (net:List Tr) (x:Str):List Str:=(net.map fun t=>stT t x).flatten
theorem qCz (net:List Tr) (t:Tr) (x:Str):starF (net++[t]) x=starF net x++stT t x:=by
 unfold starF
 rw [hAa,List.flatten_append]
 simp
theorem stT_le (t:Tr) (x:Str):(stT t x).length<=2:=by
 unfold stT
 rw [hAc]
 split <;> split <;> simp
theorem starF_le (net:List Tr) (x:Str):(starF net x).length<=2*net.length:=by
 refine qBo (P:=fun net=>(starF net x).length<=2*net.length) (hA5 _) (fun l t ih=>?_) net
 rw [qCz,hAc,hAc]
 have:=stT_le t x
 show _<=2*(l.length+1)
 omega
def spStar:Sp:=fun vs H Q _=>∃ (p:Addr) (net:List Tr) (x:Str),vs=[.ref p,.str x]/\qBb H p net/\net.length<=12/\∀ r H',Ext H H'->H r=none->LsS H' r (starF net x)->Q (.ref r) H'
section
variable {P:Program} {w:World} {K:PySem.W.Frag} {mg:Str->Option Value} {base:Heap} {f f1:Addr} {fd fd1:FuncData}
theorem scStar:FnScope ["net","point"] ["net","point"] (qAb sStar):=⟨rfl,rfl,rfl,by decide +kernel,rfl,by decide +kernel,by decide +kernel⟩
abbrev stN:List Str:=["tie","one","other","end","point"]
theorem ok_star (F:Fun K "star" "star" sStar f fd):FnOk P w K mg base CX0 1 f fd ["net","point"] spStar:=by
 refine F.ok scStar (fun vs H Q E h=>?_) (fun cdv A outer s H vs Q E hr h=>?_)
 ·obtain ⟨p,net,x,rfl,_⟩:=h
  rfl
 obtain ⟨p,net,x,rfl,⟨as,hp,pr⟩,hl,q⟩:=h
 refine ⟨_,qAi (qAv
  (pe_g gc_list2 rfl (N:=["net","point"]) (sc:=qAb sStar) (N':=stN) (sub:=[none,none,none,none,some 1]) rfl rfl (CmpOk.of (by decide +kernel)) rfl (qAs (pv 0))
   (fun C s H fp=>⟨(show PG _ _ (gTup K 3 _) from qBt rfl (qAk (qAf (i:=0) (by show stN.Nodup;decide) rfl (Or.inl rfl)) (qAk (qAf (i:=1) (by show stN.Nodup;decide) rfl (Or.inl rfl)) (qAk (qAf (i:=2) (by show stN.Nodup;decide) rfl (Or.inl rfl)) qBe)))),qA4,
    fun acc=>pbd_nest rfl rfl (show PI _ _ _ (iTup K _) from pi_tup (qBu (qAa (pv 1) (qAa (pv 2) qAc)))) (qAf (i:=3) (by show stN.Nodup;decide) rfl (Or.inl rfl)) (qDd (qAu qDm (pv 3) (pv 4) (qA1 _))) (pbd_list rfl (pv 0)) (fun _=>rfl) rfl rfl (fun _=>rfl) (fun _ _ _ _ _ h=>h) (fun _ _ _ _ _ h=>h) (fun _=>rfl)⟩))),?_⟩
 have lA:as.length=net.length:=pr.length
 refine ⟨_,rfl,p,rfl,⟨_,SqL.of hp⟩,?_⟩
 refine g_list (xs:=as.map V.ref) (fun i ss σ H'=>Ext H H'/\(∃ x0 x1 x2 x3:Option V,σ=[x0,x1,x2,x3,some (.str x)])/\ss=(starF (net.take i) x).map V.str) ⟨Ext.refl _,⟨none,none,none,none,rfl⟩,rfl⟩ (fun i ss σ H' _ h=>SqL.of (h.1 _ _ hp)) ?_ ?_
 ·rintro i z ss σ H' hx ⟨he,⟨x0,x1,x2,x3,rfl⟩,rfl⟩
  obtain ⟨a,t,rfl,ht,ha⟩:=qCk pr hx
  have hi:=qAx ht
  refine ⟨a,_,rfl,SqT.of (he _ _ ha),rfl,_,_,rfl,_,_,rfl,_,_,rfl,rfl,iteT (B:=False) ?_⟩
  refine ⟨_,rfl,_,rfl,(by show 2<=sizeLine;decide),fun T hT=>⟨T,rfl,⟨_,SqT.of upd_same⟩,?_⟩⟩
  have X1:=Ext.new hT (.tup [V.str t.2.1,V.str t.2.2])
  have ls:=starF_le (net.take i) x
  rw [hAh] at ls
  refine g_tuple (xs:=[V.str t.2.1,V.str t.2.2]) (fun j ss σ H2=>Ext (upd H' T (.tup [V.str t.2.1,V.str t.2.2])) H2/\(∃ y:Option V,σ=[some (.str t.1),some (.str t.2.1),some (.str t.2.2),y,some (.str x)])/\ss=(starF (net.take i) x++((if 0<j/\t.2.1=x then [t.1] else [])++(if 1<j/\t.2.2=x then [t.1] else []))).map V.str)
   ⟨Ext.refl _,⟨_,rfl⟩,by simp⟩ (fun j ss σ H2 _ h=>SqT.of (h.1 _ _ upd_same)) ?_ ?_
  ·rintro j z ss2 σ H2 hz ⟨h2,⟨y,rfl⟩,rfl⟩
   have hj:j<2:=qAx hz
   rcases (show j=0\/j=1 by omega) with rfl | rfl
   ·cases hAs hz
    refine ⟨_,rfl,_,rfl,rfl,_,rfl,?_⟩
    refine qFl (fun c=>?_) (fun c=>?_)
    ·have c':t.2.1=x:=by simpa using c
     refine ⟨_,rfl,?_,nxg hj ⟨h2,⟨_,rfl⟩,?_⟩⟩
     ·simp only [hC0,false_and,if_false,hC5,List.nil_append,hA1]
      exact qAh (by simp;omega)
     ·simp [c']
    ·have c':¬t.2.1=x:=by simpa using c
     exact nxg hj ⟨h2,⟨_,rfl⟩,by simp [c']⟩
   ·cases hAs hz
    refine ⟨_,rfl,_,rfl,rfl,_,rfl,?_⟩
    refine qFl (fun c=>?_) (fun c=>?_)
    ·have c':t.2.2=x:=by simpa using c
     refine ⟨_,rfl,?_,nxg hj ⟨h2,⟨_,rfl⟩,?_⟩⟩
     ·rw [hA1,hAc,hAc]
      refine qAh ?_
      have e1:(if 0<1/\t.2.1=x then [t.1] else []).length<=1:=by split <;> simp
      have e2:(if 1<1/\t.2.2=x then [t.1] else []).length<=1:=by split <;> simp
      omega
     ·simp [c']
    ·have c':¬t.2.2=x:=by simpa using c
     exact nxg hj ⟨h2,⟨_,rfl⟩,by simp [c']⟩
  ·rintro ss2 σ H2 ⟨h2,⟨y,rfl⟩,rfl⟩
   refine nxg (qAx hx) ⟨he.trans (X1.trans h2),⟨_,_,_,_,rfl⟩,?_⟩
   rw [qAj ht,qCz]
   unfold stT
   simp
 ·rintro ss σ H' ⟨he,_,rfl⟩ r hr1
  rw [hA1,lA,hA8 (hA5 _)]
  exact q r _ (he.trans (Ext.new hr1 _)) (he.none hr1) upd_same
end
end My
namespace My
open PySem L2
theorem room2 {k:Nat} {A:Around} (hr:Room k A):A.units+2<cLine:=by have:=hr.un;omega
def RowsAt (H:Hp) (p:Addr) (F:List (List Str)):Prop:=∃ as:List Addr,H p=some (.lst (as.map V.ref))/\Paired (LsS H) as F
def RowsY (H0 H:Hp) (fo:Addr) (F:List (List Str)):Prop:=∃ as:List Addr,H fo=some (.lst (as.map V.ref))/\Paired (fun a r=>LsS H a r/\H0 a=none/\a≠fo) as F
theorem RowsY.rows {H0 H:Hp} {p:Addr} {F:List (List Str)} (h:RowsY H0 H p F):RowsAt H p F:=by
 obtain ⟨as,h1,h2⟩:=h
 exact ⟨as,h1,Paired.mapP h2 fun a r z=>z.1⟩
def RowsZ (H0 H:Hp) (fo:Addr) (F:List (List Str)):Prop:=∃ as:List Addr,as.Nodup/\H fo=some (.lst (as.map V.ref))/\Paired (fun a r=>LsS H a r/\H0 a=none/\a≠fo) as F
theorem qFg {α β:Type} {R:α->β->Prop}:∀ {as:List α} {bs:List β},Paired R as bs->∀ a∈as,∃ b∈bs,R a b
 | _,_,.nil,a,h=>by cases h
 | _,_,.cons h t,a,ha=>by
  rcases hA9.mp ha with rfl | z
  ·exact ⟨_,hA2,h⟩
  ·obtain ⟨b,hb,hr⟩:=qFg t a z
   exact ⟨b,hA4 _ hb,hr⟩
theorem getD_rangeA (as:List Addr):(List.range as.length).map (fun i=>as.getD i 0)=as:=by
 refine hCs fun i=>?_
 by_cases hi:i<as.length
 ·rw [hAj,List.getElem?_range hi,hA3 hi]
  show some (as.getD i 0)=_
  rw [hAe,hA3 hi];rfl
 ·rw [hBi (by simp;omega),hBi (by omega)]
theorem pick_perm {as:List Addr} {o:Array Nat} (g:Gd as.length o):(o.toList.map fun i=>as.getD i 0).Perm as :=
 ((hBc.mp g).map fun i=>as.getD i 0).trans (List.Perm.of_eq (getD_rangeA as))
theorem paired_at {R:Addr->List Str->Prop}:∀ {as:List Addr} {ts:List (List Str)} {i:Nat},Paired R as ts->i<as.length->R (as.getD i 0) (ts.getD i [])
 | _,_,i,.nil,hi=>absurd hi (hC6 _)
 | _,_,0,.cons h _,_=>h
 | _,_,i+1,.cons _ t,hi=>by simpa using paired_at (i:=i) t (by simpa using hi)
theorem qFf {R:Addr->List Str->Prop} {as:List Addr} {ts:List (List Str)} (pr:Paired R as ts):∀ {l:List Nat},(∀ i∈l,i<as.length)->Paired R (l.map fun i=>as.getD i 0) (l.map fun i=>ts.getD i [])
 | [],_=>.nil
 | i :: l,h=>.cons (paired_at pr (h i hA2)) (qFf pr fun j hj=>h j (hA4 _ hj))
def spStars:Sp:=fun vs H Q _=>∃ (p:Addr) (net:List Tr),vs=[.ref p]/\qBb H p net/\net.length<=12/\∀ r rows ps H',Ext H H'->H r=none->RowsZ H H' r rows->qEa net ps->qFz ps->rows.Perm (ps.map (starF net))->Srt rows->rows.length<=24->Q (.ref r) H'
section
variable {P:Program} {w:World} {K:PySem.W.Frag} {mg:Str->Option Value} {base:Heap} {f f1 f2:Addr} {fd fd1 fd2:FuncData}
theorem scStars:FnScope ["net"] ["net"] (qAb qE6):=⟨rfl,rfl,rfl,by decide +kernel,rfl,by decide +kernel,by decide +kernel⟩
theorem ok_stars (F:Fun K "stars" "stars" qE6 f fd) (G:FnOk P w K mg base CX0 1 f1 fd1 ["net"] qEs) (bG:qA7 K fd1 ["net"] []) (kG:PySem.W.keepIn K (.ref f1)=true) (mG:mg "points" = some (.ref f1))
  (G2:FnOk P w K mg base CX0 1 f2 fd2 ["net","point"] spStar) (bG2:qA7 K fd2 ["net","point"] []) (kG2:PySem.W.keepIn K (.ref f2)=true) (mG2:mg "star" = some (.ref f2)) (mso:mg "sorted" = none):FnOk P w K mg base CX0 2 f fd ["net"] spStars:=by
 refine F.ok scStars (fun vs H Q E h=>?_) (fun cdv A outer s H vs Q E hr h=>?_)
 ·obtain ⟨p,net,rfl,_⟩:=h
  rfl
 obtain ⟨p,net,rfl,nt,hl,q⟩:=h
 refine ⟨_,qAi (qAv (qAn (call_sortedLO (room2 hr)) rfl mso qBj (qAa
  (pe_lc (N:=["net"]) (sc:=qAb qE6) (N':=["point","net"]) (sub:=[none,some 0]) rfl rfl (CmpOk.of (by decide +kernel)) rfl (qAs (qAl G hr rfl mG kG bG .nil qA5 (qAa (pv 0) qAc)))
   (fun C s H fp=>⟨qAf (i:=0) (by show (["point","net"]:List Str).Nodup;decide) rfl (Or.inl rfl),qA4,qAl G2 hr rfl mG2 kG2 bG2 .nil qA5 (qAa (pv 1) (qAa (pv 0) qAc))⟩)) qAc))),?_⟩
 refine ⟨_,rfl,p,net,rfl,nt,hl,fun pl ps H1 e1 pl0 hpl pok psr lps=>⟨pl,rfl,⟨_,SqL.of hpl⟩,?_⟩⟩
 refine qAr (xs:=ps.map V.str) (fun j ys H2=>Ext H1 H2/\∃ as,ys=as.map V.ref/\as.Nodup/\Paired (fun a r=>LsS H2 a r/\H a=none) as ((ps.take j).map (starF net))) ⟨Ext.refl _,[],rfl,hC9,.nil⟩ (fun j ys H2 _ h=>SqL.of (h.1 _ _ hpl)) ?_ ?_
 ·rintro j x ys H2 hx ⟨e2,as,rfl,nd,pr⟩
  obtain ⟨y,hy,rfl⟩:∃ y,ps[j]?=some y/\V.str y=x:=by
   rw [hAj] at hx
   cases e:ps[j]? with
   | none=>rw [e] at hx;cases hx
   | some y=>rw [e] at hx;exact ⟨y,rfl,hAs hx⟩
  have hj:=qAx hy
  have la:as.length=_:=pr.length
  rw [hA1,hAh] at la
  refine ⟨Sle.set _ (Sle.refl _) (fun u z=>by cases z),iteT (B:=False) ⟨_,rfl,_,rfl,p,net,y,rfl,(nt.ext e1).ext e2,hl,fun r H3 e3 r0 hr3=>⟨?_,nxt (qAx hx) ⟨e2.trans e3,as++[r],by rw [hAa];rfl,?_,?_⟩⟩⟩⟩
  ·rw [hA1];exact qAh (by omega)
  ·rw [hC8]
   refine ⟨nd,by simp,fun a ha b hb z=>?_⟩
   rw [hA7] at hb
   obtain ⟨_,_,h1,_⟩:=qFg pr a ha
   unfold LsS at h1
   rw [z,hb,r0] at h1
   cases h1
  ·rw [qAj hy,hAa]
   exact Paired.snoc (Paired.mapP pr fun a t z=>⟨e3 _ _ z.1,z.2⟩) ⟨hr3,(e1.trans e2).none r0⟩
 ·rintro ys H2 ⟨e2,as,rfl,nd,pr⟩ l hl'
  rw [hA1,hA8 (hA5 _)] at pr
  have la:as.length=(ps.map (starF net)).length:=pr.length
  have la':as.length=ps.length:=by rw [la,hA1]
  have X1:=Ext.new hl' (.lst (as.map V.ref))
  refine ⟨l,as,ps.map (starF net),rfl,SqL.of upd_same,Paired.mapP pr fun a t z=>SqL.of (X1 _ _ z.1),by omega,fun r o hr' g sp=>?_⟩
  have X2:=X1.trans (Ext.new hr' (.lst ((o.toList.map fun i=>as.getD i 0).map V.ref)))
  have E2:=e1.trans e2
  have gm:∀ i∈o.toList,i<as.length:=fun i hi=>gd_mem g hi
  have gl:=gd_len g
  have nd':=(pick_perm g).nodup_iff.mpr nd
  rw [la] at g sp
  obtain ⟨s1,s2⟩:=qGc g sp
  refine q r _ ps _ (E2.trans X2) ((E2.trans X1).none hr') ⟨_,nd',upd_same,Paired.mapP (qFf pr gm) fun a t z=>⟨X2 _ _ z.1,z.2,qAd (X1 _ _ z.1) hr'⟩⟩ pok psr s2 s1 ?_
  rw [hA1,gl,la']
  exact lps
end
end My
namespace My
open PySem L2
def spBig (K:PySem.W.Frag):Sp:=fun vs H Q _=>∃ (a:Addr) (ns:List Int) (k:Int),vs=[.ref a,.int k]/\SqL K H a (ns.map V.int)/\0<=k/\k<=100/\∀ v,Q (.int v) H
def Tx (ss:List Str):Prop:=∀ s∈ss,Sm s
def spNames:Sp:=fun vs H Q _=>∃ (b n:Int),vs=[.int b,.int n]/\0<=n/\n<=100/\∀ (r:Addr) (ss:List Str) (H':Hp),Ext H H'->H r=none->LsS H' r ss->ss.length=n.toNat->Tx ss->(n<=36->ss.Nodup)->Q (.ref r) H'
def nmF (pre post:Str) (f:Int) (k:Nat):Str:=pre++⟨#[sgC ((f+7*(0+(k:Int))) % 36).toNat]⟩++post
theorem nmF_inj {pre post:Str} {f:Int} {i j:Nat} (hi:i<36) (hj:j<36) (e:nmF pre post f i=nmF pre post f j):i=j:=by
 have e1:=congrArg (fun s:Str=>s.cps.toList) e
 unfold nmF at e1
 simp only [Str.cps_append,hBn] at e1
 have e2:=List.append_cancel_left (List.append_cancel_right e1)
 have a0:=hCc (f+7*(0+(i:Int))) (show (36:Int)≠0 by decide)
 have a1:=hBu (f+7*(0+(i:Int))) (show (0:Int)<36 by decide)
 have b0:=hCc (f+7*(0+(j:Int))) (show (36:Int)≠0 by decide)
 have b1:=hBu (f+7*(0+(j:Int))) (show (0:Int)<36 by decide)
 have e3:sgC ((f+7*(0+(i:Int))) % 36).toNat=sgC ((f+7*(0+(j:Int))) % 36).toNat:=by simpa using e2
 have e4:=sgC_inj (by omega) (by omega) e3
 omega
theorem nd_range {g:Nat->Str}:∀ {n:Nat},(∀ i j,i<n->j<n->g i=g j->i=j)->((List.range n).map g).Nodup
 | 0,_=>hC9
 | n+1,h=>by
  rw [List.range_succ,hAa,hC8]
  refine ⟨nd_range fun i j hi hj=>h i j (by omega) (by omega),by simp,fun a ha b hb=>?_⟩
  obtain ⟨i,hi,rfl⟩:=hAb.mp ha
  rw [List.map_singleton,hA7] at hb
  subst hb
  rw [hBj] at hi
  intro z
  have:=h i n (by omega) (by omega) z
  omega
section
variable {P:Program} {w:World} {K:PySem.W.Frag} {mg:Str->Option Value} {base:Heap} {f f1 f2:Addr} {fd fd1 fd2:FuncData}
abbrev bgN:List Str:=["_law_script","_law_k","_law_x","_law_total","_law_j"]
theorem scBig:FnScope bgN ["_law_script","_law_k"] (qAb sBig):=⟨rfl,rfl,rfl,by decide +kernel,rfl,by decide +kernel,by decide +kernel⟩
theorem ok_big (F:Fun K "_law_big" "_law_big" sBig f fd) (G:FnOk P w K mg base CX0 1 f1 fd1 ["_law_script","_law_k"] (spCell K)) (bG:qA7 K fd1 ["_law_script","_law_k"] []) (kG:PySem.W.keepIn K (.ref f1)=true) (mG:mg "_law_cell_at" = some (.ref f1)) (mr:mg "range" = none) (ma:mg "abs" = none) :
  FnOk P w K mg base CX0 2 f fd ["_law_script","_law_k"] (spBig K):=by
 refine F.ok scBig (fun vs H Q E h=>?_) (fun cdv A outer s H vs Q E hr h=>?_)
 ·obtain ⟨a,ns,k,rfl,_⟩:=h
  rfl
 obtain ⟨a,ns,k,rfl,hS,h0,h1,q⟩:=h
 refine ⟨_,pss_cons (qD1 (qAu op_ge (qAn call_abs rfl ma boot_abs' (qAa (qAl G hr rfl mG kG bG .nil qA5 (qAa (pv 0) (qAa (pv 1) qAc))) qAc)) (qAo op_pow qAg qAg) (qA1 _))
   (qAi (qAv (qAo op_sub (qAn call_abs rfl ma boot_abs' (qAa (qAl G hr rfl mG kG bG .nil qA5 (qAa (pv 0) (qAa (pv 1) qAc))) qAc)) (qAo op_pow qAg qAg)))) qBr)
  (pss_cons (qAp (i:=2) scBig.nd rfl (Or.inl rfl) (qAo qBv (qAo qBv (qAo qBv (qAo qB8 (qAl G hr rfl mG kG bG .nil qA5 (qAa (pv 0) (qAa qAg qAc))) qAg) (qAo qDl qAg (pv 1))) (qAo qDl qAg (qAl G hr rfl mG kG bG .nil qA5 (qAa (pv 0) (qAa (pv 1) qAc))))) qAg))
  (pss_cons (qAp (i:=2) scBig.nd rfl (Or.inl rfl) (qAo qBv (qAo qB8 (pv 2) qAg) qAg))
  (pss_cons (qAp (i:=3) scBig.nd rfl (Or.inl rfl) qAg)
  (pss_cons (qBs PassesOwn.never rfl (qCg rfl mr (qAa qAg qAc)) (qAf (i:=4) scBig.nd rfl (Or.inl rfl))
   (pss_cons (qAp (i:=2) scBig.nd rfl (Or.inl rfl) (qAo qB8 (qAo qBv (qAo qBv (qAo qBv (qAo qDl (pv 2) qAg) (qAo qCd (pv 2) qAg)) (qAo qDl (qAo qDl qAg (pv 4)) (pv 4))) (pv 1)) qAg))
   (qAi (qAp (i:=3) scBig.nd rfl (Or.inl rfl) (qAo qBv (qAo qDl (pv 3) qAg) (qAo qB8 (qAo qDl (pv 2) qAg) qAg))))))
  (qAi (qAv (pv 3))))))),?_⟩
 refine ⟨_,rfl,_,rfl,a,ns,k,rfl,hS,h0,fun v=>⟨v,rfl,?_⟩⟩
 refine ⟨_,_,rfl,rfl,⟨by decide,by decide,by decide⟩,_,_,rfl,rfl,_,rfl,?_⟩
 refine qFl (fun c=>?_) (fun c=>?_)
 ·refine ⟨_,rfl,_,rfl,a,ns,k,rfl,hS,h0,fun v=>⟨v,rfl,?_⟩⟩
  exact ⟨_,_,rfl,rfl,⟨by decide,by decide,by decide⟩,_,_,rfl,rfl,q _⟩
 refine ⟨_,rfl,a,ns,0,rfl,hS,by decide,fun v1=>?_⟩
 refine ⟨_,_,rfl,rfl,(by show (0:Int)<_;decide),_,rfl,_,_,rfl,rfl,.inl ⟨by decide,by decide⟩,_,_,rfl,rfl,?_⟩
 refine ⟨_,rfl,_,rfl,a,ns,k,rfl,hS,h0,fun v2=>?_⟩
 refine ⟨_,_,rfl,rfl,.inl ⟨by decide,by decide⟩,_,_,rfl,rfl,_,_,rfl,rfl,?_⟩
 refine ⟨_,rfl,_,_,rfl,rfl,(by show (0:Int)<_;decide),_,_,rfl,rfl,?_⟩
 refine ⟨8,rfl,by decide,by decide,qCw (lo:=0) (n:=8) (fun i σ H'=>H'=H/\∃ (x t:Int) (z:Option V),σ=[some (.ref a),some (.int k),some (.int x),some (.int t),z]) ⟨rfl,_,0,none,rfl⟩ ?_ ?_⟩
 ·rintro i σ H' hi ⟨rfl,x,t,z,rfl⟩
  refine ⟨_,rfl,_,_,rfl,rfl,.inr ⟨by decide,by decide⟩,_,rfl,_,_,rfl,rfl,⟨by decide,by decide⟩,_,_,rfl,rfl,?_⟩
  refine ⟨_,rfl,_,_,rfl,rfl,.inl ⟨by decide,by decide⟩,_,rfl,_,_,rfl,rfl,.inr ⟨by omega,by omega⟩,_,_,rfl,rfl,?_⟩
  refine ⟨_,rfl,_,_,rfl,rfl,_,_,rfl,rfl,(by show (0:Int)<_;decide),?_⟩
  refine ⟨_,rfl,_,_,rfl,rfl,.inr ⟨by decide,by decide⟩,_,rfl,_,_,rfl,rfl,.inr ⟨by decide,by decide⟩,_,_,rfl,rfl,(by show (0:Int)<_;decide),_,_,rfl,rfl,?_⟩
  exact ⟨rfl,_,_,_,rfl⟩
 ·rintro σ H' ⟨rfl,x,t,z,rfl⟩
  exact ⟨_,rfl,q _⟩
abbrev naN:List Str:=["_law_big_here","_law_many","_law_signs","_law_word","_law_k","_law_spot","_law_first","_law_head","_law_tail"]
theorem qCb:FnScope naN ["_law_big_here","_law_many"] (qAb qE8):=⟨rfl,rfl,rfl,by decide +kernel,rfl,by decide +kernel,by decide +kernel⟩
theorem ok_names (F:Fun K "_law_names" "_law_names" qE8 f fd) (mr:mg "range" = none) (ml:mg "len" = none):FnOk P w K mg base CX0 1 f fd ["_law_big_here","_law_many"] spNames:=by
 refine F.ok qCb (fun vs H Q E h=>?_) (fun cdv A outer s H vs Q E hr h=>?_)
 ·obtain ⟨b,n,rfl,_⟩:=h
  rfl
 obtain ⟨b,n,rfl,n0,n1,q⟩:=h
 refine ⟨_,pss_cons (qAp (i:=2) qCb.nd rfl (Or.inr rfl) pe_str)
  (pss_cons (qAp (i:=3) qCb.nd rfl (Or.inl rfl) pe_str)
  (pss_cons (qBs PassesOwn.never rfl (qCg rfl mr (qAa (qAo qBv qAg (qAo qB8 (pv 0) qAg)) qAc)) (qAf (i:=4) qCb.nd rfl (Or.inl rfl))
   (pss_cons (qAp (i:=3) qCb.nd rfl (Or.inl rfl) (qAo qD4 (pv 3) (pe_ix ix_str (pv 2) (qAo qB8 (qAo qCd (pv 0) qAg) qAg) (fun _ _=>rfl))))
   (qAi (qAp (i:=0) qCb.nd rfl (Or.inl rfl) (qAo qCd (pv 0) qAg)))))
  (pss_cons (qAp (i:=5) qCb.nd rfl (Or.inl rfl) (qAo qB8 (qAo qCd (pv 0) qAg) (qAn call_len_str rfl ml hBz (qAa (pv 3) qAc))))
  (pss_cons (qAp (i:=6) qCb.nd rfl (Or.inr rfl) (qAo qB8 (qAo qCd (pv 0) qAg) qAg))
  (pss_cons (ps_asg (qBu (qAa (pe_slice sl_str (pv 3) po_none (po_some (pv 5))) (qAa (pe_slice sl_str (pv 3) (po_some (qAo qBv (pv 5) qAg)) po_none) qAc))) (qBt rfl (qAk (qAf (i:=7) qCb.nd rfl (Or.inr rfl)) (qAk (qAf (i:=8) qCb.nd rfl (Or.inr rfl)) qBe))))
  (qAi (qAv (pe_lc (N:=naN) (sc:=qAb qE8) (N':=["_law_k","_law_head","_law_signs","_law_first","_law_tail"]) (sub:=[none,some 7,some 2,some 6,some 8]) rfl rfl (CmpOk.of (by decide +kernel)) rfl (qCg rfl mr (qAa (pv 1) qAc))
   (fun C s H fp=>⟨qAf (i:=0) (by show (["_law_k","_law_head","_law_signs","_law_first","_law_tail"]:List Str).Nodup;decide) rfl (Or.inl rfl),qA4,
    qAo qD4 (qAo qD4 (pv 1) (pe_ix ix_str (pv 2) (qAo qB8 (qAo qBv (pv 3) (qAo qDl qAg (pv 0))) qAg) (fun _ _=>rfl))) (pv 4)⟩))))))))),?_⟩
 have b6:=hCc b (show (6:Int)≠0 by decide)
 have b6':=hBu b (show (0:Int)<6 by decide)
 refine ⟨_,rfl,_,_,rfl,rfl,(by show (0:Int)<_;decide),_,_,rfl,rfl,1+b % 6,rfl,by omega,by omega,?_⟩
 refine qCw (lo:=0) (n:=(1+b % 6).toNat) (fun i σ H'=>H'=H/\∃ (b':Int) (word:Str) (x:Option V),σ=[some (.int b'),some (.int n),some (.str sg),some (.str word),x,none,none,none,none]/\word.length=i/\Sm word) ⟨rfl,b,"",none,rfl,rfl,Sm.nil⟩ ?_ ?_
 ·rintro i σ H' hi ⟨rfl,b',word,x,rfl,hw,sm⟩
  have c1:=hCc (b' / 6) (show (36:Int)≠0 by decide)
  have c2:=hBu (b' / 6) (show (0:Int)<36 by decide)
  refine ⟨_,rfl,_,rfl,_,rfl,_,_,rfl,rfl,⟨by decide,by decide⟩,_,_,rfl,rfl,(by show (0:Int)<_;decide),sg,_,sgC (b' / 6 % 36).toNat,rfl,rfl,by decide +kernel,sg_at c1 c2,word,⟨#[sgC (b' / 6 % 36).toNat]⟩,rfl,rfl,?_,?_⟩
  ·show word.length+1<=sizeLine
   exact hBh (qAh (by omega))
  ·refine ⟨_,rfl,_,_,rfl,rfl,⟨by decide,by decide⟩,?_⟩
   refine ⟨rfl,_,_,_,rfl,?_,sm.app (Sm.one (sgC_small (by omega)))⟩
   rw [Str.length_append]
   show word.length+1=i+1
   omega
 ·rintro σ H' ⟨rfl,b',word,x,rfl,hw,sm⟩
  have wl:word.length<=sizeLine:=hBh (qAh (by omega))
  have fa:=hCc (b' / 216) (show (36:Int)≠0 by decide)
  have fb:=hBu (b' / 216) (show (0:Int)<36 by decide)
  refine ⟨_,rfl,_,_,rfl,rfl,⟨by decide,by decide⟩,_,rfl,word,rfl,wl,_,_,rfl,rfl,(by show (0:Int)<_;omega),?_⟩
  refine ⟨_,rfl,_,_,rfl,rfl,⟨by decide,by decide⟩,_,_,rfl,rfl,(by show (0:Int)<_;decide),?_⟩
  obtain ⟨spot,hsp⟩:∃ spot,b' / 6 % ((word.length:Nat):Int)=spot:=⟨_,rfl⟩
  refine ⟨_,rfl,_,rfl,_,rfl,word,rfl,wl,_,rfl,_,rfl,_,_,rfl,rfl,_,rfl,word,rfl,wl,(by show 2<=sizeLine;decide),fun T hT=>⟨T,_,rfl,SqT.of upd_same,rfl,_,_,rfl,_,_,rfl,rfl,?_⟩⟩
  have l1:=Txt.slice_le word none (some spot)
  have l2:=Txt.slice_le word (some (spot+1)) none
  have s1:=sm.slice none (some spot)
  have s2:=sm.slice (some (spot+1)) none
  have X1:=Ext.new hT (.tup [V.str (Txt.slice word none (some spot)),V.str (Txt.slice word (some (spot+1)) none)])
  refine ⟨_,rfl,n,rfl,by omega,by omega,?_⟩
  refine turns_range (lo:=0) (n:=n.toNat) (fun i ys H2=>H2=upd H' T (.tup [V.str (Txt.slice word none (some spot)),V.str (Txt.slice word (some (spot+1)) none)])/\∃ ss:List Str,ys=ss.map V.str/\ss.length=i/\Tx ss/\ss=(List.range i).map (nmF (Txt.slice word none (some spot)) (Txt.slice word (some (spot+1)) none) (b' / 216 % 36))) ⟨by rw [hsp],[],rfl,rfl,(fun s hs=>by cases hs),rfl⟩ ?_ ?_
  ·rintro i ys H2 hi ⟨rfl,ss,rfl,ls,tx,eq⟩
   have ea:=hCc (b' / 216 % 36+7*(0+(i:Int))) (show (36:Int)≠0 by decide)
   have eb:=hBu (b' / 216 % 36+7*(0+(i:Int))) (show (0:Int)<36 by decide)
   rw [hsp]
   refine ⟨Sle.set _ (Sle.refl _) (fun u z=>by cases z),iteT (B:=False) ⟨_,rfl,_,rfl,_,rfl,_,rfl,_,_,rfl,rfl,.inl ⟨by decide,by decide⟩,_,_,rfl,rfl,_,_,rfl,rfl,(by show (0:Int)<_;decide),sg,_,sgC ((b' / 216 % 36+7*(0+(i:Int))) % 36).toNat,rfl,rfl,by decide +kernel,sg_at ea eb,_,_,rfl,rfl,?_,_,rfl,_,_,rfl,rfl,?_,?_,nxt hi ⟨rfl,ss++[Txt.slice word none (some spot)++⟨#[sgC ((b' / 216 % 36+7*(0+(i:Int))) % 36).toNat]⟩++Txt.slice word (some (spot+1)) none],?_,?_,?_,?_⟩⟩⟩
   ·show _+1<=sizeLine
    exact hBh (qAh (by omega))
   ·rw [Str.length_append]
    show _+1+_<=sizeLine
    exact hBh (qAh (by omega))
   ·rw [hA1]
    exact qAh (by omega)
   ·rw [hAa];rfl
   ·rw [hAc,ls];rfl
   ·intro s hs
    rcases hAf.mp hs with z | z
    ·exact tx s z
    ·rw [hA7] at z
     subst z
     exact (s1.app (Sm.one (sgC_small (by omega)))).app s2
   ·rw [eq,List.range_succ,hAa];rfl
  ·rintro ys H2 ⟨rfl,ss,rfl,ls,tx,eq⟩ r hr'
   exact q r ss _ (X1.trans (Ext.new hr' _)) (X1.none hr') upd_same ls tx (fun n36=>by rw [eq];exact nd_range fun i j hi hj=>nmF_inj (by omega) (by omega))
end
end My
namespace My
open PySem L2
abbrev enV (e:Int×Int):List V:=[.int e.1,.int e.2]
def qDu (H:Hp) (p:Addr) (es:List (Int×Int)):Prop:=∃ as:List Addr,H p=some (.lst (as.map V.ref))/\Paired (fun a e=>H a=some (.tup (enV e))) as es
theorem qDu.ext {H H':Hp} {p:Addr} {es:List (Int×Int)} (h:qDu H p es) (e:Ext H H'):qDu H' p es:=by
 obtain ⟨as,h1,h2⟩:=h
 exact ⟨as,e _ _ h1,Paired.mapP h2 fun a t z=>e _ _ z⟩
theorem qDu.snoc {H H':Hp} {k a:Addr} {as:List Addr} {net:List (Int×Int)} {t:Int×Int} (hk:H k=some (.lst (as.map V.ref))) (pr:Paired (fun a t=>H a=some (.tup (enV t))) as net) (e:Ext H H') (ha:H' a=some (.tup (enV t))):qDu (upd H' k (.lst (as.map V.ref++[V.ref a]))) k (net++[t]):=by
 have hk':=e _ _ hk
 have ne:∀ {b:Addr} {xs:List V},H' b=some (.tup xs)->b≠k:=fun h z=>by rw [z,hk'] at h;cases h
 refine ⟨as++[a],by rw [upd_same,hAa];rfl,?_⟩
 refine Paired.snoc (Paired.mapP pr fun b u z=>?_) ?_
 ·have z':=e _ _ z
  rw [qAe (ne z')];exact z'
 ·rw [qAe (ne ha)];exact ha
theorem at_int {hs:List Int} {i:Int} (h0:0<=i) (h1:i<(hs.length:Int)):∃ v,atI (hs.map V.int) i=some (.int v):=by
 have hk:i.toNat<hs.length:=by omega
 have hv:atI (hs.map V.int) ((i.toNat:Nat):Int)=some (.int hs[i.toNat]):=atI_nat (by rw [hAj,hA3 hk] <;> rfl)
 rw [hD8 h0] at hv
 exact ⟨_,hv⟩
def InSp (sp:Int) (e:Int×Int):Prop:=(0<=e.1/\e.1<sp)/\0<=e.2/\e.2<sp
def spEnds:Sp:=fun vs H Q _=>∃ (b n sp:Int),vs=[.int b,.int n,.int sp]/\0<=n/\n<=12/\0<sp/\sp<=10/\∀ r es H',Ext H H'->H r=none->qDu H' r es->es.length<=n.toNat->(∀ e∈es,InSp sp e)->Q (.ref r) H'
section
variable {P:Program} {w:World} {K:PySem.W.Frag} {mg:Str->Option Value} {base:Heap} {f f1 f2:Addr} {fd fd1 fd2:FuncData}
abbrev eN:List Str:=["_law_big_here","_law_many","_law_spread","_law_heaps","_law_found","_law_high","_law_k","_law_one","_law_other","_law_gone"]
theorem qCq:FnScope eN ["_law_big_here","_law_many","_law_spread"] (qAb sEnds):=⟨rfl,rfl,rfl,by decide +kernel,rfl,by decide +kernel,by decide +kernel⟩
structure EI (H:Hp) (sp n:Int) (i:Nat) (σ:St) (H':Hp) (b' h:Int) (hp fo:Addr) (hs:List Int) (es:List (Int×Int)):Prop where
 st:∃ x6 x7 x8 x9:Option V,σ=[some (.int b'),some (.int n),some (.int sp),some (.ref hp),some (.ref fo),some (.int h),x6,x7,x8,x9]
 ext:Ext H H'
 fo0:H fo=none
 ne:hp≠fo
 hsA:H' hp=some (.lst (hs.map V.int))
 hsl:(hs.length:Int)=sp
 esA:qDu H' fo es
 esl:es.length<=i
 esi:∀ e∈es,InSp sp e
theorem ok_ends (F:Fun K "_law_ends" "_law_ends" sEnds f fd) (mr:mg "range" = none) (ml:mg "len" = none) (mL:mg "list" = none):FnOk P w K mg base CX0 1 f fd ["_law_big_here","_law_many","_law_spread"] spEnds:=by
 refine F.ok qCq (fun vs H Q E h=>?_) (fun cdv A outer s H vs Q E hr h=>?_)
 ·obtain ⟨b,n,sp,rfl,_⟩:=h
  rfl
 obtain ⟨b,n,sp,rfl,n0,n1,p0,p1,q⟩:=h
 refine ⟨_,pss_cons (qAp (i:=3) qCq.nd rfl (Or.inr rfl) (qBk (call_list_rng rfl) rfl mL qBn (qAa (qBk call_range1' rfl mr boot_range' (qAa (pv 2) qAc)) qAc)))
  (pss_cons (qAp (i:=4) qCq.nd rfl (Or.inl rfl) (qCh qAc))
  (pss_cons (qAp (i:=5) qCq.nd rfl (Or.inl rfl) qAg)
  (pss_cons (qBs PassesOwn.never rfl (qCg rfl mr (qAa (pv 1) qAc)) (qAf (i:=6) qCq.nd rfl (Or.inl rfl))
   (pss_cons (ps_asg (qBu (qAa (qAo qB8 (pv 0) (pv 2)) (qAa (qAo qB8 (qAo qCd (pv 0) (pv 2)) (pv 2)) qAc))) (qBt rfl (qAk (qAf (i:=7) qCq.nd rfl (Or.inr rfl)) (qAk (qAf (i:=8) qCq.nd rfl (Or.inl rfl)) qBe))))
   (pss_cons (qAp (i:=0) qCq.nd rfl (Or.inl rfl) (qAo qCd (qAo qCd (pv 0) (pv 2)) (pv 2)))
   (qAi (qD1 (PW.pt (pw_and (qAu qDm (pe_ix ix_list (pv 3) (pv 7) (fun _ _=>rfl)) (pe_ix ix_list (pv 3) (pv 8) (fun _ _=>rfl)) (qA1 _)) (pw_and1 (qAu op_lt (qAo op_sub (qAn qAw rfl ml hBz (qAa (pv 4) qAc)) (pv 5)) qAg (qA1 _)))))
    (qAi (qCs (pe_bm hBo hBv hBw qB4 (pv 4) (qAa (qBu (qAa (pv 7) (qAa (pv 8) qAc))) qAc))))
    (qAi (qD1 (PW.pt (pw_and (qAu op_ne (pe_ix ix_list (pv 3) (pv 7) (fun _ _=>rfl)) (pe_ix ix_list (pv 3) (pv 8) (fun _ _=>rfl)) (qA1 _)) (pw_and1 (qAu op_lt (pv 5) qAg (qA1 _)))))
     (pss_cons (qCs (pe_bm hBo hBv hBw qB4 (pv 4) (qAa (qBu (qAa (pv 7) (qAa (pv 8) qAc))) qAc)))
     (pss_cons (ps_aug (i:=5) qCq.nd rfl (Or.inl rfl) qAg ip_add)
     (pss_cons (qAp (i:=9) qCq.nd rfl (Or.inr rfl) (pe_ix ix_list (pv 3) (pv 8) (fun _ _=>rfl)))
     (qAi (qAp (i:=3) qCq.nd rfl (Or.inr rfl) (pe_lc (N:=eN) (sc:=qAb sEnds) (N':=["_law_heap","_law_heaps","_law_one","_law_gone"]) (sub:=[none,some 3,some 7,some 9]) rfl rfl (CmpOk.of (by decide +kernel)) rfl (qAs (pv 3))
      (fun C s H fp=>⟨qAf (i:=0) (by show (["_law_heap","_law_heaps","_law_one","_law_gone"]:List Str).Nodup;decide) rfl (Or.inl rfl),qA4,qEt (qAu qDm (pv 0) (pv 3) (qA1 _)) (pe_ix (show IxR _ (rIxL K) from ix_list) (pv 1) (pv 2) (fun _ _=>rfl)) (pv 0)⟩)))))))
     qBr)))))))
  (qAi (qAv (pv 4)))))),?_⟩
 refine ⟨_,rfl,sp,rfl,by omega,by omega,fun rg hrg=>⟨rg,sp,rfl,upd_same,by omega,by omega,fun hp hhp=>?_⟩⟩
 have X1:=Ext.new hrg (.rng 0 sp)
 have X2:=X1.trans (Ext.new hhp (.lst ((List.range sp.toNat).map fun (i:Nat)=>V.int (i:Int))))
 refine ⟨hAt _,fun fo hfo=>?_⟩
 have f0:=X2.none hfo
 refine ⟨_,rfl,n,rfl,by omega,by omega,qCw (lo:=0) (n:=n.toNat) (fun i σ H'=>∃ b' h hp fo hs es,EI H sp n i σ H' b' h hp fo hs es)
  ⟨b,0,hp,fo,(List.range sp.toNat).map fun (i:Nat)=>(i:Int),[],⟨_,_,_,_,rfl⟩,X2.trans (Ext.new hfo _),f0,fun e=>(by rw [<-e,upd_same] at hfo;cases hfo),?_,?_,⟨[],upd_same,.nil⟩,hA5 _,fun e he=>by cases he⟩ ?_ ?_⟩
 ·rw [qAe (fun e=>by rw [<-e,upd_same] at hfo;cases hfo),upd_same,hB4];rfl
 ·rw [hA1,hCr];omega
 ·rintro i σ H' hi ⟨b',h,hp,fo,hs,es,⟨x6,x7,x8,x9,rfl⟩,ext,fo0,ne,hsA,hsl,esA,esl,esi⟩
  have sp0:(0:Int)<sp:=p0
  have o0:=hCc b' (show sp≠0 by omega)
  have o1:=hBu b' p0
  have t0:=hCc (b' / sp) (show sp≠0 by omega)
  have t1:=hBu (b' / sp) p0
  have cd:CDiv (b' / sp) sp:=⟨p0,by omega⟩
  have cd':CDiv b' sp:=⟨p0,by omega⟩
  refine ⟨_,rfl,_,rfl,_,_,rfl,rfl,p0,_,rfl,_,rfl,_,_,rfl,rfl,cd',_,rfl,_,_,rfl,rfl,p0,(by show 2<=sizeLine;decide),fun T hT=>⟨T,_,rfl,SqT.of upd_same,rfl,_,_,rfl,_,_,rfl,rfl,?_⟩⟩
  have X3:=Ext.new hT (.tup [V.int (b' % sp),V.int (b' / sp % sp)])
  refine ⟨_,rfl,_,rfl,_,_,rfl,rfl,cd',_,rfl,_,_,rfl,rfl,cd,?_⟩
  obtain ⟨v1,a1⟩:=at_int (hs:=hs) o0 (by omega)
  obtain ⟨v2,a2⟩:=at_int (hs:=hs) t0 (by omega)
  have hs3:=X3 _ _ hsA
  have es3:=esA.ext X3
  obtain ⟨as,ea1,ea2⟩:=id esA
  have la:as.length=es.length:=ea2.length
  have inn:InSp sp ((b' % sp),(b' / sp % sp)):=⟨⟨o0,o1⟩,t0,t1⟩
  refine ⟨_,rfl,_,rfl,hp,_,_,_,rfl,rfl,SqL.of hs3,a1,_,rfl,_,rfl,hp,_,_,_,rfl,rfl,SqL.of hs3,a2,rfl,_,rfl,?_⟩
  refine qFl (fun c=>?_) (fun c=>?_)
  ·refine ⟨_,rfl,fo,_,rfl,.inl (SqL.of (X3 _ _ ea1)),_,rfl,_,_,rfl,rfl,_,_,rfl,rfl,_,rfl,?_⟩
   refine qFl (fun c2=>?_) (fun c2=>?_)
   ·refine ⟨_,rfl,.inl ⟨rfl,_,SqL.of (X3 _ _ ea1)⟩,_,rfl,_,rfl,(by show 2<=sizeLine;decide),fun T2 hT2=>?_⟩
    have X4:=X3.trans (Ext.new hT2 (.tup (enV ((b' % sp),(b' / sp % sp)))))
    refine ⟨fo,_,_,rfl,rfl,X4 _ _ ea1,by rw [hA1];exact qAh (by omega),?_⟩
    refine ⟨_,_,hp,fo,hs,es++[((b' % sp),(b' / sp % sp))],⟨_,_,_,_,rfl⟩,(ext.trans X4).over fo0 _,fo0,ne,by rw [qAe ne];exact X4 _ _ hsA,hsl,qDu.snoc ea1 ea2 X4 upd_same,by rw [hAc];exact Nat.succ_le_succ esl,fun e he=>?_⟩
    rcases hAf.mp he with z | z
    ·exact esi e z
    ·rw [hA7] at z;subst z;exact inn
   ·refine ⟨_,rfl,_,rfl,hp,_,_,_,rfl,rfl,SqL.of hs3,a1,_,rfl,_,rfl,hp,_,_,_,rfl,rfl,SqL.of hs3,a2,rfl,_,rfl,?_⟩
    refine qFl (fun c3=>?_) (fun c3=>?_)
    ·have e1:v1=v2:=by simpa using c
     have e2:¬v1=v2:=by simpa using c3
     exact absurd e1 e2
    ·refine iteF ?_
     exact ⟨_,_,hp,fo,hs,es,⟨_,_,_,_,rfl⟩,ext.trans X3,fo0,ne,hs3,hsl,es3,by omega,esi⟩
  ·refine iteF ?_
   refine ⟨_,rfl,_,rfl,hp,_,_,_,rfl,rfl,SqL.of hs3,a1,_,rfl,_,rfl,hp,_,_,_,rfl,rfl,SqL.of hs3,a2,rfl,_,rfl,?_⟩
   refine qFl (fun c3=>?_) (fun c3=>?_)
   ·refine ⟨_,rfl,_,_,rfl,rfl,_,rfl,?_⟩
    refine qFl (fun c2=>?_) (fun c2=>?_)
    ·refine ⟨_,rfl,.inl ⟨rfl,_,SqL.of (X3 _ _ ea1)⟩,_,rfl,_,rfl,(by show 2<=sizeLine;decide),fun T2 hT2=>?_⟩
     have X4:=X3.trans (Ext.new hT2 (.tup (enV ((b' % sp),(b' / sp % sp)))))
     refine ⟨fo,_,_,rfl,rfl,X4 _ _ ea1,by rw [hA1];exact qAh (by omega),?_⟩
     have hs4:upd (upd (upd H' T (.tup [V.int (b' % sp),V.int (b' / sp % sp)])) T2 (.tup (enV ((b' % sp),(b' / sp % sp))))) fo (.lst (as.map V.ref++[V.ref T2])) hp=some (.lst (hs.map V.int)):=by rw [qAe ne];exact X4 _ _ hsA
     have en4:=qDu.snoc (t:=((b' % sp),(b' / sp % sp))) ea1 ea2 X4 upd_same
     have X5:=(ext.trans X4).over fo0 (.lst (as.map V.ref++[V.ref T2]))
     refine ⟨_,rfl,_,_,rfl,rfl,?_⟩
     refine ⟨_,rfl,_,rfl,hp,_,_,_,rfl,rfl,SqL.of hs4,a2,?_⟩
     refine ⟨_,rfl,hp,rfl,⟨_,SqL.of hs4⟩,?_⟩
     refine turns_pure (fun v=>some (if v = .int v2 then .int v1 else v)) (SqL.of hs4) (by rw [hA1];exact hBh (qAh (by omega))) (fun x hx C hC=>?_) (fun r hr'=>?_)
     ·obtain ⟨y,_,rfl⟩:=hAb.mp hx
      refine ⟨Sle.set _ (Sle.refl _) (fun u z=>by cases z),iteT (B:=False) ?_⟩
      refine ⟨_,rfl,_,rfl,rfl,_,rfl,?_⟩
      refine qFl (fun c5=>?_) (fun c5=>?_)
      ·have e5:y=v2:=by simpa using c5
       subst e5
       refine ⟨_,rfl,_,rfl,hp,_,_,_,rfl,rfl,SqL.of hs4,a1,?_⟩
       rw [if_pos rfl] at hC
       exact hC
      ·have e5:¬y=v2:=by simpa using c5
       rw [if_neg (fun z=>e5 (V.int.inj z))] at hC
       exact ⟨_,rfl,hC⟩
     ·have rf:r≠fo:=fun e=>by rw [e,upd_same] at hr';cases hr'
      have em:(hs.map V.int).filterMap (fun v=>some (if v = .int v2 then .int v1 else v))=(hs.map fun y=>if y=v2 then v1 else y).map V.int:=by
       rw [List.filterMap_eq_map',hB4,hB4]
       refine hBy fun y _=>?_
       show (if V.int y=V.int v2 then V.int v1 else V.int y)=V.int (if y=v2 then v1 else y)
       by_cases z:y=v2
       ·subst z;rw [if_pos rfl,if_pos rfl]
       ·rw [if_neg (fun e=>z (V.int.inj e)),if_neg z]
      rw [em]
      refine ⟨_,_,r,fo,_,es++[((b' % sp),(b' / sp % sp))],⟨_,_,_,_,rfl⟩,X5.trans (Ext.new hr' _),fo0,rf,upd_same,by rw [hA1];exact hsl,en4.ext (Ext.new hr' _),by rw [hAc];exact Nat.succ_le_succ esl,fun e he=>?_⟩
      rcases hAf.mp he with z | z
      ·exact esi e z
      ·rw [hA7] at z;subst z;exact inn
    ·exact ⟨_,_,hp,fo,hs,es,⟨_,_,_,_,rfl⟩,ext.trans X3,fo0,ne,hs3,hsl,es3,by omega,esi⟩
   ·refine iteF ?_
    exact ⟨_,_,hp,fo,hs,es,⟨_,_,_,_,rfl⟩,ext.trans X3,fo0,ne,hs3,hsl,es3,by omega,esi⟩
 ·rintro σ H' ⟨b',h,hp,fo,hs,es,⟨x6,x7,x8,x9,rfl⟩,ext,fo0,ne,hsA,hsl,esA,esl,esi⟩
  exact ⟨_,rfl,q fo es H' ext fo0 esA esl esi⟩
end
end My
namespace L2
open PySem PySem.Spec PyProof.Rows
theorem for_pairs {n:Nat} {Ls:Hp->Prop} {xv:Nat->List V} {g:TG} {tb:TS} {D:Ends} {σ:St} {H:Hp} (Pv:Nat->St->Hp->Prop) (h0:Pv 0 σ H) (hl:∀ i σ H,i<=n->Pv i σ H->Ls H)
  (hs:∀ i σ H T,i<n->Pv i σ H->H T=none->g (.ref T) σ (upd H T (.tup (xv i))) fun σ2 H2=>tb { D with nx:=Pv (i+1),ct:=Pv (i+1),bk:=D.nx } σ2 H2) (hd:∀ σ H,Pv n σ H->D.nx σ H) :
  ∃ W:Nat->Nat->St->Hp->Prop,(∃ m,W 0 m σ H)/\∀ i m σ H,W i m σ H ->
   ((Itp n Ls xv).stop i H/\D.nx σ H)\/((Itp n Ls xv).go i H/\∃ N:St->Hp->Prop,(∀ σ' H',N σ' H'->∃ m',m'<m/\W (i+1) m' σ' H')/\∀ x H',(Itp n Ls xv).yld i H x H'->g x σ H' fun σ2 H2=>tb { D with nx:=N,ct:=N,bk:=D.nx } σ2 H2):=by
 refine ⟨fun i m σ H=>m=n - i/\i<=n/\Pv i σ H,⟨n,by simp,hAt _,h0⟩,?_⟩
 rintro i m σ H ⟨rfl,hi,p⟩
 have q:=hl i σ H hi p
 by_cases hlt:i<n
 ·refine .inr ⟨⟨q,hlt⟩,Pv (i+1),fun σ' H' p'=>⟨n - (i+1),by omega,rfl,hlt,p'⟩,fun x H' y=>?_⟩
  obtain ⟨T,e1,e2,e3⟩:=y
  subst e2 e3
  exact hs i σ H T hlt p e1
 ·have e:i=n:=by omega
  subst e
  exact .inl ⟨⟨q,rfl⟩,hd σ H p⟩
end L2
namespace My
open PySem L2
theorem at_intM {hs:List Int} {i:Int} (h0:0<=i) (h1:i<(hs.length:Int)):∃ v∈hs,atI (hs.map V.int) i=some (.int v):=by
 have hk:i.toNat<hs.length:=by omega
 have hv:atI (hs.map V.int) ((i.toNat:Nat):Int)=some (.int hs[i.toNat]):=atI_nat (by rw [hAj,hA3 hk] <;> rfl)
 rw [hD8 h0] at hv
 exact ⟨_,hBf hk,hv⟩
theorem at_strM {hs:List Str} {i:Int} (h0:0<=i) (h1:i<(hs.length:Int)):∃ v∈hs,atI (hs.map V.str) i=some (.str v):=by
 have hk:i.toNat<hs.length:=by omega
 have hv:atI (hs.map V.str) ((i.toNat:Nat):Int)=some (.str hs[i.toNat]):=atI_nat (by rw [hAj,hA3 hk] <;> rfl)
 rw [hD8 h0] at hv
 exact ⟨_,hBf hk,hv⟩
theorem paired_mem {α β:Type} {R:α->β->Prop}:∀ {as:List α} {bs:List β},Paired R as bs->∀ a∈as,∃ b∈bs,R a b
 | _,_,.nil,a,h=>by cases h
 | _,_,.cons h t,a,ha=>by
  rcases hA9.mp ha with rfl | z
  ·exact ⟨_,hA2,h⟩
  ·obtain ⟨b,hb,hr⟩:=paired_mem t a z
   exact ⟨b,hA4 _ hb,hr⟩
theorem qGa {α β γ:Type} {R:α->β->Prop} {S:α->γ->Prop} (g:β->γ) (h:∀ a b,R a b->S a (g b)):∀ {as:List α} {bs:List β},Paired R as bs->Paired S as (bs.map g)
 | _,_,.nil=>.nil
 | _,_,.cons x t=>.cons (h _ _ x) (qGa g h t)
theorem qBb.snoc {H H':Hp} {k a:Addr} {as:List Addr} {net:List Tr} {t:Tr} (hk:H k=some (.lst (as.map V.ref))) (pr:Paired (fun a t=>H a=some (.tup (trV t))) as net) (e:Ext H H') (ha:H' a=some (.tup (trV t))):qBb (upd H' k (.lst (as.map V.ref++[V.ref a]))) k (net++[t]):=by
 have hk':=e _ _ hk
 have ne:∀ {b:Addr} {xs:List V},H' b=some (.tup xs)->b≠k:=fun h z=>by rw [z,hk'] at h;cases h
 refine ⟨as++[a],by rw [upd_same,hAa];rfl,?_⟩
 refine Paired.snoc (Paired.mapP pr fun b u z=>?_) ?_
 ·have z':=e _ _ z
  rw [qAe (ne z')];exact z'
 ·rw [qAe (ne ha)];exact ha
def rowT (t:Tr):List Str:=[t.1,t.2.1,t.2.2]
def t0:Tr:=("","","")
theorem rowT_at:∀ {net:List Tr} {i:Nat},i<net.length->rowT (net.getD i t0)=(net.map rowT).getD i []
 | [],_,h=>absurd h (hC6 _)
 | t :: r,0,_=>rfl
 | t :: r,i+1,h=>by simpa using rowT_at (net:=r) (i:=i) (by simpa using h)
theorem net_pick {H:Hp}:∀ {as:List Addr} {net:List Tr} {i:Nat},Paired (fun a t=>H a=some (.tup (trV t))) as net->i<as.length->H (as.getD i 0)=some (.tup (trV (net.getD i t0)))
 | _,_,i,.nil,hi=>absurd hi (hC6 _)
 | _,_,0,.cons h _,_=>h
 | _,_,i+1,.cons _ t,hi=>by simpa using net_pick (i:=i) t (by simpa using hi)
theorem net_picks {H:Hp} {as:List Addr} {net:List Tr} (pr:Paired (fun a t=>H a=some (.tup (trV t))) as net):∀ {l:List Nat},(∀ i∈l,i<as.length)->Paired (fun a t=>H a=some (.tup (trV t))) (l.map fun i=>as.getD i 0) (l.map fun i=>net.getD i t0)
 | [],_=>.nil
 | i :: l,h=>.cons (net_pick pr (h i hA2)) (net_picks pr fun j hj=>h j (hA4 _ hj))
theorem qF7 {net:List Tr}:∀ {l:List Nat},(∀ i∈l,i<net.length)->(l.map fun i=>net.getD i t0).map rowT=l.map fun i=>(net.map rowT).getD i []
 | [],_=>rfl
 | i :: l,h=>by
  rw [hAl,hAl,hAl,qF7 fun j hj=>h j (hA4 _ hj),rowT_at (h i hA2)]
theorem rowT_inj {t u:Tr} (e:rowT t=rowT u):t=u:=by
 obtain ⟨a,b,c⟩:=t
 obtain ⟨a',b',c'⟩:=u
 unfold rowT at e
 simp at e
 obtain ⟨e1,e2,e3⟩:=e
 subst e1 e2 e3;rfl
theorem map_names (net:List Tr):(net.map rowT).map (fun r=>r.getD 0 "")=net.map (·.1):=by
 rw [hB4];rfl
theorem rise_srt:∀ {net:List Tr},Srt (net.map rowT)->(net.map (·.1)).Nodup->qFz (net.map (·.1))
 | [],_,_=>List.Pairwise.nil
 | t :: r,h,nd=>by
  rw [hAl] at h nd
  obtain ⟨h1,h2⟩:=hBm.mp h
  obtain ⟨n1,n2⟩:=hB0.mp nd
  rw [hAl]
  refine hBm.mpr ⟨fun x hx=>?_,rise_srt h2 n2⟩
  obtain ⟨u,hu,rfl⟩:=hAb.mp hx
  have q:=h1 (rowT u) (hB6 hu)
  have ne:¬u.1=t.1:=fun z=>n1 (z▸hB6 hu)
  unfold rowT ltL at q
  rw [if_neg ne] at q
  rcases sLtB_tri t.1 u.1 with z | z | z
  ·exact z
  ·exact absurd z.symm ne
  ·rw [z] at q;cases q
def TxT (t:Tr):Prop:=Sm t.1/\Sm t.2.1/\Sm t.2.2
def TxN (net:List Tr):Prop:=∀ t∈net,TxT t
def spNet (K:PySem.W.Frag):Sp:=fun vs H Q _=>∃ (a:Addr) (ns:List Int),vs=[.ref a,.int 1]/\SqL K H a (ns.map V.int)/\∀ r net H',Ext H H'->H r=none->qBb H' r net->net.length<=12->TxN net->qFz (net.map (·.1))->Q (.ref r) H'
section
variable {P:Program} {w:World} {K:PySem.W.Frag} {mg:Str->Option Value} {base:Heap} {f f1 f2 f3:Addr} {fd fd1 fd2 fd3:FuncData}
abbrev neN:List Str:=["_law_script","_law_at","_law_head","_law_ends_here","_law_ties","_law_knots","_law_net_here","_law_tie","_law_two"]
theorem scNet:FnScope neN ["_law_script","_law_at"] (qAb sNet):=⟨rfl,rfl,rfl,by decide +kernel,rfl,by decide +kernel,by decide +kernel⟩
abbrev spr:List Int:=[4,5,3,6,5,9,2,10]
theorem ok_net (F:Fun K "_law_net" "_law_net" sNet f fd)
  (G1:FnOk P w K mg base CX0 2 f1 fd1 ["_law_script","_law_k"] (spBig K)) (bG1:qA7 K fd1 ["_law_script","_law_k"] []) (kG1:PySem.W.keepIn K (.ref f1)=true) (mG1:mg "_law_big" = some (.ref f1))
  (G2:FnOk P w K mg base CX0 1 f2 fd2 ["_law_big_here","_law_many","_law_spread"] spEnds) (bG2:qA7 K fd2 ["_law_big_here","_law_many","_law_spread"] []) (kG2:PySem.W.keepIn K (.ref f2)=true) (mG2:mg "_law_ends" = some (.ref f2))
  (G3:FnOk P w K mg base CX0 1 f3 fd3 ["_law_big_here","_law_many"] spNames) (bG3:qA7 K fd3 ["_law_big_here","_law_many"] []) (kG3:PySem.W.keepIn K (.ref f3)=true) (mG3:mg "_law_names" = some (.ref f3))
  (ml:mg "len" = none) (mz:mg "zip" = none) (mtu:mg "tuple" = none) (mso:mg "sorted" = none):FnOk P w K mg base CX0 3 f fd ["_law_script","_law_at"] (spNet K):=by
 refine F.ok scNet (fun vs H Q E h=>?_) (fun cdv A outer s H vs Q E hr h=>?_)
 ·obtain ⟨a,ns,rfl,_⟩:=h
  rfl
 obtain ⟨a,ns,rfl,hS,q⟩:=h
 have hr1:=hr.mono (j:=1) (by decide)
 refine ⟨_,pss_cons (qAp (i:=2) scNet.nd rfl (Or.inl rfl) (qAl G1 hr rfl mG1 kG1 bG1 .nil qA5 (qAa (pv 0) (qAa (pv 1) qAc))))
  (pss_cons (qAp (i:=3) scNet.nd rfl (Or.inl rfl) (qAl G2 hr1 rfl mG2 kG2 bG2 .nil qA5 (qAa (qAl G1 hr rfl mG1 kG1 bG1 .nil qA5 (qAa (pv 0) (qAa (qAo qBv (pv 1) qAg) qAc))) (qAa (qAo qB8 (qAo qCd (pv 2) qAg) qAg) (qAa
    (pe_ix ix_list (qCh (qAa qAg (qAa qAg (qAa qAg (qAa qAg (qAa qAg (qAa qAg (qAa qAg (qAa qAg qAc))))))))) (qAo qB8 (pv 2) qAg) (fun _ _=>rfl)) qAc)))))
  (pss_cons (qAp (i:=4) scNet.nd rfl (Or.inl rfl) (qAl G3 hr1 rfl mG3 kG3 bG3 .nil qA5 (qAa (qAo qCd (pv 2) qAg) (qAa (qAn qAw rfl ml hBz (qAa (pv 3) qAc)) qAc))))
  (pss_cons (qAp (i:=5) scNet.nd rfl (Or.inl rfl) (qAl G3 hr1 rfl mG3 kG3 bG3 .nil qA5 (qAa (qAl G1 hr rfl mG1 kG1 bG1 .nil qA5 (qAa (pv 0) (qAa (qAo qBv (pv 1) qAg) qAc))) (qAa qAg qAc))))
  (pss_cons (qAp (i:=6) scNet.nd rfl (Or.inl rfl) (qCh qAc))
  (pss_cons (qBs PassesOwn.never rfl (pi_zip rfl mz (qAa (pv 4) (qAa (pv 3) qAc))) (qBt rfl (qAk (qAf (i:=7) scNet.nd rfl (Or.inl rfl)) (qAk (qAf (i:=8) scNet.nd rfl (Or.inl rfl)) qBe)))
   (qAi (qCs (pe_bm hBo hBv hBw qB4 (pv 6) (qAa
    (qAo op_catT (qBu (qAa (pv 7) qAc)) (qBk call_tuple_of rfl mtu qFs (qAa (qAn qEi rfl mso qBj (qAa
     (qCh (qAa (pe_ix ix_list (pv 5) (pe_ix qBw (pv 8) qAg (fun _ _=>rfl)) (fun _ _=>rfl)) (qAa (pe_ix ix_list (pv 5) (pe_ix qBw (pv 8) qAg (fun _ _=>rfl)) (fun _ _=>rfl)) qAc))) qAc)) qAc))) qAc)))))
  (qAi (qAv (qAn call_sortedTO rfl mso qBj (qAa (pv 6) qAc))))))))),?_⟩
 refine ⟨_,rfl,_,rfl,a,ns,1,rfl,hS,by decide,by decide,fun hd=>?_⟩
 have d1:=hCc (hd / 8) (show (13:Int)≠0 by decide)
 have d2:=hBu (hd / 8) (show (0:Int)<13 by decide)
 have d3:=hCc hd (show (8:Int)≠0 by decide)
 have d4:=hBu hd (show (0:Int)<8 by decide)
 refine ⟨_,rfl,_,rfl,_,_,rfl,rfl,a,ns,_,rfl,hS,by decide,by decide,fun v1=>?_⟩
 refine ⟨_,rfl,_,_,rfl,rfl,⟨by decide,by decide⟩,_,_,rfl,rfl,(by show (0:Int)<_;decide),(by show 8<=sizeLine;decide),fun L hL=>?_⟩
 have X1:=Ext.new hL (.lst (spr.map V.int))
 obtain ⟨sp,spm,spa⟩:=at_intM (hs:=spr) d3 (by show hd % 8<8;exact d4)
 have spb:0<sp/\sp<=10:=by
  have:∀ z∈spr,0<z/\z<=10:=by decide
  exact this sp spm
 refine ⟨_,rfl,_,_,rfl,rfl,(by show (0:Int)<_;decide),L,spr.map V.int,_,_,rfl,rfl,SqL.of upd_same,spa,?_⟩
 refine ⟨_,_,sp,rfl,d1,by omega,spb.1,spb.2,fun en es H2 e2 en0 hen esl esi=>?_⟩
 have E2:=X1.trans e2
 obtain ⟨bs,hb1,hb2⟩:=id hen
 have lb:bs.length=es.length:=hb2.length
 have esl':es.length<=12:=by omega
 refine ⟨_,rfl,_,_,rfl,rfl,⟨by decide,by decide⟩,_,rfl,en,_,rfl,.inl (SqL.of hb1),?_⟩
 refine ⟨_,_,rfl,by omega,by rw [hA1];omega,fun tl ts H3 e3 tl0 htl tsl tsx tnd=>?_⟩
 have E3:=E2.trans e3
 refine ⟨_,rfl,_,rfl,_,_,rfl,rfl,a,ns,_,rfl,E3.sqL hS,by decide,by decide,fun v2=>?_⟩
 refine ⟨_,10,rfl,by decide,by decide,fun kl kn H4 e4 kl0 hkl knl knx _=>?_⟩
 have E4:=E3.trans e4
 refine ⟨hAt _,fun nl hnl=>?_⟩
 have nl0:=E4.none hnl
 have E5:=E4.trans (Ext.new hnl (.lst []))
 have tsl':ts.length=es.length:=by rw [tsl,hA1,lb];omega
 have mn:min (ts.map V.str).length (bs.map V.ref).length=es.length:=by rw [hA1,hA1,lb,tsl'];exact Nat.min_self _
 have htl5:=(Ext.new hnl (.lst [])) _ _ (e4 _ _ htl)
 have hen5:=(Ext.new hnl (.lst [])) _ _ (e4 _ _ (e3 _ _ hb1))
 refine ⟨_,rfl,_,rfl,tl,en,_,_,rfl,SqL.of htl5,SqL.of hen5,?_⟩
 refine for_pairs (fun i σ H6=>∃ (x7 x8:Option V) (net:List Tr),σ=[some (.ref a),some (.int 1),some (.int hd),some (.ref en),some (.ref tl),some (.ref kl),some (.ref nl),x7,x8]/\Ext H4 H6/\qBb H6 nl net/\net.length=i/\TxN net/\net.map (·.1)=ts.take i)
  ⟨none,none,[],rfl,Ext.new hnl _,⟨[],upd_same,.nil⟩,rfl,(fun t ht=>by cases ht),rfl⟩ ?_ ?_ ?_
 ·rintro i σ H6 _ ⟨x7,x8,net,_,e6,_⟩
  exact ⟨SqL.of (e6 _ _ (e4 _ _ htl)),SqL.of (e6 _ _ (e4 _ _ (e3 _ _ hb1)))⟩
 ·rintro i σ H6 T hi ⟨x7,x8,net,rfl,e6,nt,nl',tx,nm⟩ hT
  rw [mn] at hi
  have hit:i<ts.length:=by omega
  have hib:i<bs.length:=by omega
  have g1:(ts.map V.str).getD i .non = .str ts[i]:=by rw [hAe,hAj,hA3 hit];rfl
  have g2:(bs.map V.ref).getD i .non = .ref bs[i]:=by rw [hAe,hAj,hA3 hib];rfl
  obtain ⟨e,he,hbe⟩:=qA9 hb2 (hA3 hib)
  obtain ⟨⟨i0,i1⟩,j0,j1⟩:=esi e (hAr he)
  obtain ⟨k1,k1m,k1a⟩:=at_strM (hs:=kn) i0 (by rw [knl];show e.1<10;omega)
  obtain ⟨k2,k2m,k2a⟩:=at_strM (hs:=kn) j0 (by rw [knl];show e.2<10;omega)
  obtain ⟨as,ea1,ea2⟩:=id nt
  have la:as.length=net.length:=ea2.length
  dsimp only
  rw [g1,g2]
  have Y1:=Ext.new hT (.tup [V.str ts[i],V.ref bs[i]])
  refine ⟨T,_,rfl,SqT.of upd_same,rfl,_,_,rfl,_,_,rfl,rfl,?_⟩
  refine ⟨_,rfl,.inl ⟨rfl,_,SqL.of (Y1 _ _ ea1)⟩,_,rfl,(by show 1<=sizeLine;decide),fun T1 hT1=>?_⟩
  have Y2:=Y1.trans (Ext.new hT1 (.tup [V.str ts[i]]))
  have hb6:=Y2 _ _ (e6 _ _ (e4 _ _ (e3 _ _ hbe)))
  have hk6:=Y2 _ _ (e6 _ _ hkl)
  refine ⟨_,rfl,_,rfl,bs[i],_,_,_,rfl,rfl,SqT.of hb6,(by exact atI_nat (j:=0) rfl),kl,_,_,_,rfl,rfl,SqL.of hk6,k1a,?_⟩
  refine ⟨_,rfl,_,rfl,bs[i],_,_,_,rfl,rfl,SqT.of hb6,(by exact atI_nat (j:=1) rfl),kl,_,_,_,rfl,rfl,SqL.of hk6,k2a,?_⟩
  refine ⟨(by show 2<=sizeLine;decide),fun L2 hL2=>⟨L2,[k1,k2],rfl,SqL.of upd_same,(by show 2<64;decide),fun S ss hS' perm srt=>?_⟩⟩
  have Y3:=Y2.trans (Ext.new hL2 (.lst [V.str k1,V.str k2]))
  have Y4:=Y3.trans (Ext.new hS' (.lst (ss.map V.str)))
  refine ⟨S,_,rfl,.inl ⟨SqL.of upd_same,fun T2 hT2=>?_⟩⟩
  have lss:ss.length=2:=perm.length_eq
  obtain ⟨x,y,rfl⟩:∃ x y,ss=[x,y]:=by
   match ss,lss with
   | [x,y],_=>exact ⟨x,y,rfl⟩
  have sx:Sm x:=by
   have:x∈[k1,k2]:=perm.mem_iff.mp (by simp)
   simp at this
   rcases this with rfl | rfl
   ·exact knx _ k1m
   ·exact knx _ k2m
  have sy:Sm y:=by
   have:y∈[k1,k2]:=perm.mem_iff.mp (by simp)
   simp at this
   rcases this with rfl | rfl
   ·exact knx _ k1m
   ·exact knx _ k2m
  have Y5:=Y4.trans (Ext.new hT2 (.tup ([x,y].map V.str)))
  have t1:upd (upd H6 T (.tup [V.str ts[i],V.ref bs[i]])) T1 (.tup [V.str ts[i]]) T1=some (.tup [V.str ts[i]]):=upd_same
  have t15:=Ext.new hT2 (.tup ([x,y].map V.str)) _ _ (Ext.new hS' (.lst ([x,y].map V.str)) _ _ (Ext.new hL2 (.lst [V.str k1,V.str k2]) _ _ t1))
  refine ⟨T1,T2,_,_,rfl,rfl,SqT.of t15,SqT.of upd_same,(by simp),(by show 3<=sizeLine;decide),(fun z=>by cases z),fun _ T3 hT3=>?_⟩
  have Y6:=Y5.trans (Ext.new hT3 (.tup (trV (ts[i],x,y))))
  refine ⟨nl,_,_,rfl,rfl,Y6 _ _ ea1,?_,?_⟩
  ·rw [hA1];exact qAh (by omega)
  ·refine ⟨_,_,net++[(ts[i],x,y)],rfl,(e6.trans Y6).over hnl _,qBb.snoc ea1 ea2 Y6 upd_same,by rw [hAc,nl'];rfl,(fun t ht=>?_),by rw [hAa,nm,qAj (hA3 hit)];rfl⟩
   rcases hAf.mp ht with z | z
   ·exact tx t z
   ·rw [hA7] at z
    subst z
    exact ⟨tsx _ (hBf hit),sx,sy⟩
 ·rintro σ H6 ⟨x7,x8,net,rfl,e6,nt,nl',tx,nm⟩
  rw [mn] at nl' nm
  obtain ⟨as,ea1,ea2⟩:=id nt
  have la:as.length=net.length:=ea2.length
  refine ⟨_,rfl,nl,as,net.map rowT,rfl,SqL.of ea1,qGa _ (fun a t z=>⟨SqT.of z,by simp [rowT]⟩) ea2,by omega,fun r o hr' g sp=>?_⟩
  have E6:=E4.trans e6
  have gm:∀ i∈o.toList,i<as.length:=fun i hi=>gd_mem g hi
  have gm':∀ i∈o.toList,i<net.length:=fun i hi=>by have:=gm i hi;omega
  have gl:=gd_len g
  have lt:as.length=(net.map rowT).length:=by rw [hA1];exact la
  rw [lt] at g sp
  obtain ⟨s1,s2⟩:=qGc g sp
  rw [<-qF7 gm'] at s1 s2
  have nd:((o.toList.map fun i=>net.getD i t0).map (·.1)).Nodup:=by
   rw [<-map_names]
   refine (s2.map _).nodup_iff.mpr ?_
   rw [map_names,nm,<-tsl',hA8 (hA5 _)]
   refine tnd ?_
   rw [hA1];omega
  refine q r (o.toList.map fun i=>net.getD i t0) _ (E6.trans (Ext.new hr' _)) (E6.none hr') ⟨_,upd_same,Paired.mapP (net_picks ea2 gm) fun a' t z=>Ext.new hr' _ _ _ z⟩ ?_ (fun t ht=>?_) (rise_srt s1 nd)
  ·rw [hA1,gl];omega
  ·have m:rowT t∈net.map rowT:=s2.mem_iff.mp (hB6 ht)
   obtain ⟨u,hu,e⟩:=hAb.mp m
   rw [<-rowT_inj e]
   exact tx u hu
end
end My
namespace My
open PySem L2
section
variable {K:PySem.W.Frag}
theorem turns_net {as:List Addr} {net:List Tr} {Q:List V->Hp->Prop} {H1:Hp} {σ0:St} {g:TG} {tt:TT} {te:TE} {p:Addr} (h:Tr->Str) (hp:H1 p=some (.lst (as.map V.ref))) (pr:Paired (fun a t=>H1 a=some (.tup (trV t))) as net) (ln:net.length<=12)
  (hs:∀ a t,H1 a=some (.tup (trV t))->∀ (C:V->Hp->Prop) (B:Hp->Prop),C (.str (h t)) H1->g (.ref a) σ0 H1 fun σ2 H2=>Sle σ0 σ2/\tt σ2 H2 fun b H3=>if b=true then te σ2 H3 C else B H3)
  (hd:Q ((net.map h).map V.str) H1):qEj (Itl K p) σ0 g tt te Q H1:=by
 have lA:as.length=net.length:=pr.length
 refine qAr (xs:=as.map V.ref) (fun j ys H2=>H2=H1/\ys=((net.take j).map h).map V.str) ⟨rfl,rfl⟩ (fun j ys H2 _ h=>by rw [h.1];exact SqL.of hp) ?_ ?_
 ·rintro j x ys H2 hx ⟨rfl,rfl⟩
  obtain ⟨a,t,rfl,ht,ha⟩:=qCk pr hx
  have hi:=qAx ht
  have sz:(((net.take j).map h).map V.str).length<sizeLine:=by
   rw [hA1,hA1,hAh]
   exact qAh (by omega)
  exact hs a t ha _ _ ⟨sz,nxt (qAx hx) ⟨rfl,by rw [qAj ht,hAa,hAa];rfl⟩⟩
 ·rintro ys H2 ⟨rfl,rfl⟩
  rw [hA1,lA,hA8 (hA5 _)]
  exact hd
end
end My
namespace My
theorem qDh {x i:Nat} (h:x<2^i) {j:Nat} (hj:i<=j):x.testBit j=false :=
 hDc (hAi h (hCo (by decide) hj))
theorem tb_ge {x i:Nat} (h:x.testBit i=true):2^i<=x:=by
 rcases hD5 x (2^i) with z | z
 ·rw [hDc z] at h;cases h
 ·exact z
theorem log2_of {x i:Nat} (h1:x.testBit i=true) (h2:x<2^(i+1)):x.log2=i:=by
 have g:=tb_ge h1
 have nz:x≠0:=fun z=>by subst z;simp at h1
 have a:=(Nat.log2_lt nz).mpr h2
 have b:=(Nat.le_log2 nz).mpr g
 omega
theorem tb_le {x i:Nat} (h:x.testBit i=true):i<=x.log2:=by
 have nz:x≠0:=fun z=>by subst z;simp at h
 exact (Nat.le_log2 nz).mpr (tb_ge h)
theorem tb_above {x i:Nat} (h:x.log2<i):x.testBit i=false:=qDh hDo h
theorem qEd {n:Nat} (h:n % 2=0):n^^^1=n+1:=by
 have d:(n^^^1) / 2=n / 2:=by rw [Nat.xor_div_two];simp
 have b:(n^^^1).testBit 0=true:=by rw [hAq,hB5,hB5];simp [h]
 rw [hB5] at b
 have b':=of_decide_eq_true b
 omega
theorem xor_one_odd {n:Nat} (h:n % 2=1):n^^^1=n - 1:=by
 have d:(n^^^1) / 2=n / 2:=by rw [Nat.xor_div_two];simp
 have b:(n^^^1).testBit 0=false:=by rw [hAq,hB5,hB5];simp [h]
 rw [hB5] at b
 have b':=of_decide_eq_false b
 omega
theorem shr_log2 {s:Nat} (hs:s≠0):s >>> s.log2=1:=by
 rw [hD0]
 have a:=Nat.log2_self_le hs
 have b:s<2^(s.log2+1):=hDo
 rw [Nat.pow_succ] at b
 have p:0<2^s.log2:=Nat.pow_pos (by decide)
 exact Nat.div_eq_of_lt_le (by omega) (by omega)
theorem qF1 (x:Nat) {s:Nat} (hs:s≠0):x^^^s<x↔x.testBit s.log2=true:=by
 have e:(x^^^s) >>> s.log2=(x >>> s.log2)^^^1:=by rw [Nat.shiftRight_xor_distrib,shr_log2 hs]
 have tb:x.testBit s.log2=decide ((x >>> s.log2) % 2=1):=by rw [Nat.testBit_eq_decide_div_mod_eq,hD0]
 rw [tb]
 have lt:∀ {a b:Nat},a >>> s.log2<b >>> s.log2->a<b:=fun {a b} h=>by
  rw [hD0,hD0] at h
  rcases hD5 a b with z | z
  ·exact z
  ·have:=Nat.div_le_div_right (c:=2^s.log2) z
   omega
 rcases hBe (x >>> s.log2) with h | h
 ·rw [qEd h] at e
  have:x<x^^^s:=lt (by omega)
  constructor
  ·intro z;omega
  ·intro z;rw [h] at z;simp at z
 ·rw [xor_one_odd h] at e
  have:x^^^s<x:=lt (by rw [e];exact Nat.sub_one_lt fun z=>by rw [z] at h;cases h)
  exact ⟨fun _=>by simp [h],fun _=>this⟩
def rd1 (x s:Nat):Nat:=if x.testBit s.log2=true then x^^^s else x
theorem min_rd1 (x:Nat) {s:Nat} (hs:s≠0):(if x^^^s<x then x^^^s else x)=rd1 x s:=by
 unfold rd1
 by_cases h:x.testBit s.log2=true
 ·rw [if_pos h,if_pos ((qF1 x hs).mpr h)]
 ·rw [if_neg h,if_neg (fun z=>h ((qF1 x hs).mp z))]
theorem qCc (x s i:Nat):(rd1 x s).testBit i=(x.testBit i ^^ (x.testBit s.log2 && s.testBit i)):=by
 unfold rd1
 by_cases h:x.testBit s.log2=true
 ·rw [if_pos h,hAq,h,hCy]
 ·rw [if_neg h]
  have:x.testBit s.log2=false:=by simpa using h
  rw [this];simp
theorem rd1_zero (s:Nat):rd1 0 s=0:=by unfold rd1;simp
theorem rd1_lin (x y s:Nat):rd1 (x^^^y) s=rd1 x s^^^rd1 y s:=by
 refine hB3 fun i=>?_
 rw [qCc,hAq,hAq,hAq,qCc,qCc]
 cases x.testBit i <;> cases y.testBit i <;> cases x.testBit s.log2 <;> cases y.testBit s.log2 <;> cases s.testBit i <;> rfl
def red1 (k:List Nat) (x:Nat):Nat:=k.foldl rd1 x
theorem qFc:∀ k:List Nat,red1 k 0=0
 | []=>rfl
 | s :: k=>by show red1 k (rd1 0 s)=0;rw [rd1_zero];exact qFc k
theorem red1_lin:∀ (k:List Nat) (x y:Nat),red1 k (x^^^y)=red1 k x^^^red1 k y
 | [],_,_=>rfl
 | s :: k,x,y=>by show red1 k (rd1 (x^^^y) s)=red1 k (rd1 x s)^^^red1 k (rd1 y s);rw [rd1_lin];exact red1_lin k _ _
structure RR (k:List Nat):Prop where
 nz:∀ s∈k,s≠0
 ap:k.Pairwise fun s t=>t.testBit s.log2=false/\s.testBit t.log2=false
theorem RR.nil:RR []:=⟨fun s h=>(by cases h),.nil⟩
theorem RR.tl {s:Nat} {k:List Nat} (h:RR (s :: k)):RR k:=⟨fun t ht=>h.nz t (hA4 _ ht),(hBm.mp h.ap).2⟩
theorem RR.hd {s:Nat} {k:List Nat} (h:RR (s :: k)):∀ t∈k,t.testBit s.log2=false/\s.testBit t.log2=false:=(hBm.mp h.ap).1
theorem RR.ne:∀ {k:List Nat},RR k->∀ {s t:Nat},s∈k->t∈k->s≠t->s.testBit t.log2=false
 | [],_,_,_,hs,_,_=>by cases hs
 | a :: k,h,s,t,hs,ht,e=>by
  rcases hA9.mp hs with rfl | zs
  ·rcases hA9.mp ht with rfl | zt
   ·exact absurd rfl e
   ·exact (h.hd t zt).2
  ·rcases hA9.mp ht with rfl | zt
   ·exact (h.hd s zs).1
   ·exact RR.ne h.tl zs zt e
theorem RR.self {k:List Nat} (h:RR k) {s:Nat} (hs:s∈k):s.testBit s.log2=true:=Nat.testBit_log2 (h.nz s hs)
theorem RR.nd {k:List Nat} (h:RR k):k.Nodup:=by
 have:∀ {k:List Nat},RR k->k.Nodup:=fun {k} h=>by
  induction k with
  | nil=>exact hC9
  | cons s k ih =>
   refine hB0.mpr ⟨fun z=>?_,ih h.tl⟩
   have:=(h.hd s z).1
   rw [h.self hA2] at this;cases this
 exact this h
theorem qDk:∀ {k:List Nat} {x i:Nat},RR k->(∀ s∈k,x.testBit s.log2=true->s.testBit i=false)->(red1 k x).testBit i=x.testBit i
 | [],_,_,_,_=>rfl
 | s :: k,x,i,h,hx=>by
  show (red1 k (rd1 x s)).testBit i=_
  have b1:(rd1 x s).testBit i=x.testBit i:=by
   rw [qCc]
   cases q:x.testBit s.log2 with
   | false=>simp
   | true=>rw [hx s hA2 q];simp
  rw [qDk h.tl fun t ht hb=>?_,b1]
  refine hx t (hA4 _ ht) ?_
  rw [qCc,(h.hd t ht).2] at hb
  simpa using hb
theorem qFd:∀ {k:List Nat} {x:Nat},RR k->∀ s∈k,(red1 k x).testBit s.log2=false
 | [],_,_,_,hs=>by cases hs
 | a :: k,x,h,s,hs=>by
  show (red1 k (rd1 x a)).testBit s.log2=false
  rcases hA9.mp hs with rfl | z
  ·rw [qDk h.tl fun t ht _=>(h.hd t ht).1,qCc,h.self hA2]
   cases x.testBit s.log2 <;> rfl
  ·exact qFd h.tl s z
theorem red1_mem:∀ {k:List Nat},RR k->∀ s∈k,red1 k s=0
 | [],_,_,hs=>by cases hs
 | a :: k,h,s,hs=>by
  show red1 k (rd1 s a)=0
  rcases hA9.mp hs with rfl | z
  ·have:rd1 s s=0:=by unfold rd1;rw [if_pos (h.self hA2),hD6]
   rw [this];exact qFc k
  ·have:rd1 s a=s:=by unfold rd1;rw [if_neg (by rw [(h.hd s z).1];decide)]
   rw [this];exact red1_mem h.tl s z
theorem red1_none {k:List Nat} (h:RR k) {x:Nat} (hx:∀ s∈k,x.testBit s.log2=false):red1 k x=x :=
 hB3 fun i=>qDk h fun s hs z=>by rw [hx s hs] at z;cases z
inductive Spn (l:List Nat):Nat->Prop
 | zero:Spn l 0
 | add {x y:Nat}:x∈l->Spn l y->Spn l (x^^^y)
theorem Spn.mem {l:List Nat} {x:Nat} (h:x∈l):Spn l x:=by
 have:=Spn.add h Spn.zero
 rwa [Nat.xor_zero] at this
theorem Spn.xor {l:List Nat} {x y:Nat} (h:Spn l x) (h':Spn l y):Spn l (x^^^y):=by
 induction h with
 | zero=>rwa [hD7]
 | add m _ ih=>rw [hC1];exact .add m ih
theorem Spn.mono {l l':List Nat} (h:∀ x∈l,Spn l' x) {y:Nat} (hy:Spn l y):Spn l' y:=by
 induction hy with
 | zero=>exact .zero
 | add m _ ih=>exact (h _ m).xor ih
theorem Spn.lt {l:List Nat} {m:Nat} (h:∀ x∈l,x<2^m) {y:Nat} (hy:Spn l y):y<2^m:=by
 induction hy with
 | zero=>exact Nat.pow_pos (by decide)
 | add hm _ ih=>exact hCl (h _ hm) ih
theorem qA0 (x y:Nat):(x^^^y)^^^y=x:=by rw [hC1,hD6,Nat.xor_zero]
theorem rd1_spn {k:List Nat} {x s:Nat} (hs:s∈k):Spn k (rd1 x s^^^x):=by
 unfold rd1
 split
 ·rw [hDg x s,qA0];exact .mem hs
 ·rw [hD6];exact .zero
theorem red1_spn (k:List Nat):∀ (k':List Nat),(∀ s∈k',s∈k)->∀ x,Spn k (red1 k' x^^^x)
 | [],_,x=>by show Spn k (x^^^x);rw [hD6];exact .zero
 | s :: k',h,x=>by
  have a:=red1_spn k k' (fun t ht=>h t (hA4 _ ht)) (rd1 x s)
  have b:=rd1_spn (x:=x) (h s hA2)
  have c:=a.xor b
  rw [<-hC1,qA0] at c
  exact c
theorem spn_red1 {k:List Nat} (h:RR k) {y:Nat} (hy:Spn k y):red1 k y=0:=by
 induction hy with
 | zero=>exact qFc k
 | add m _ ih=>rw [red1_lin,red1_mem h _ m,ih];rfl
theorem spn_zero {k:List Nat} (h:RR k) {y:Nat} (hy:Spn k y) (hx:∀ s∈k,y.testBit s.log2=false):y=0:=(red1_none h hx).symm.trans (spn_red1 h hy)
theorem spn_lead {k:List Nat} (h:RR k) {y:Nat} (hy:Spn k y) (nz:y≠0):∃ s∈k,s.log2=y.log2:=by
 refine hBs fun no=>?_
 have e:(red1 k y).testBit y.log2=y.testBit y.log2:=qDk h fun s hs hb=>by
  have le:=tb_le hb
  have ne:s.log2≠y.log2:=fun z=>no ⟨s,hs,z⟩
  exact tb_above (by omega)
 rw [spn_red1 h hy,Nat.testBit_log2 nz] at e
 simp at e
theorem rr_uniq {a b:List Nat} (ha:RR a) (hb:RR b) (h:∀ y,Spn a y↔Spn b y):∀ s∈a,s∈b:=fun s hs=>by
 obtain ⟨t,ht,e⟩:=spn_lead hb ((h s).mp (.mem hs)) (ha.nz s hs)
 have d:s^^^t=0:=by
  refine spn_zero ha ((Spn.mem hs).xor ((h t).mpr (.mem ht))) fun u hu=>?_
  rw [hAq]
  by_cases z:u=s
  ·subst z
   have h2:=hb.self ht
   rw [e] at h2
   rw [ha.self hs,h2];rfl
  ·have s1:=ha.ne hs hu (fun w=>z w.symm)
   obtain ⟨v,hv,ev⟩:=spn_lead hb ((h u).mp (.mem hu)) (ha.nz u hu)
   have us:=ha.ne hu hs z
   have vt:t≠v:=fun w=>by
    have h3:=ha.self hu
    rw [<-ev,<-w,e] at h3
    rw [h3] at us;cases us
   have t1:=hb.ne ht hv vt
   rw [ev] at t1
   rw [s1,t1];rfl
 have:s=t:=by
  have q:=qA0 s t
  rw [d,hD7] at q
  exact q.symm
 rw [this];exact ht
def redS (k:List Nat) (x:Nat):List Nat:=if red1 k x=0 then k else k.map (fun s=>rd1 s (red1 k x))++[red1 k x]
def red (xs:List Nat):List Nat:=xs.foldl redS []
theorem qC1 (xs:List Nat) (x:Nat):red (xs++[x])=redS (red xs) x:=by unfold red;rw [hCg];rfl
theorem rd1_log2 {s f:Nat} (hs:s≠0) (hf:f≠0) (h:f.testBit s.log2=false):(rd1 s f).log2=s.log2/\rd1 s f≠0:=by
 have ss:=Nat.testBit_log2 hs
 have bit:(rd1 s f).testBit s.log2=true:=by rw [qCc,ss,h];simp
 refine ⟨log2_of bit ?_,fun z=>by rw [z] at bit;simp at bit⟩
 unfold rd1
 split
 ·rename_i q
  have le:=tb_le q
  exact hCl hDo (hAi hDo (hCo (by decide) (by omega)))
 ·exact hDo
theorem RR.step {k:List Nat} (h:RR k) (x:Nat):RR (redS k x):=by
 unfold redS
 by_cases z:red1 k x=0
 ·rw [if_pos z];exact h
 rw [if_neg z]
 have ld:=fun s hs=>qFd (x:=x) h s hs
 generalize red1 k x=f at z ld
 have l2:∀ s∈k,(rd1 s f).log2=s.log2/\rd1 s f≠0:=fun s hs=>rd1_log2 (h.nz s hs) z (ld s hs)
 have ff:=Nat.testBit_log2 z
 refine ⟨fun s hs=>?_,?_⟩
 ·rcases hAf.mp hs with w | w
  ·obtain ⟨u,hu,rfl⟩:=hAb.mp w
   exact (l2 u hu).2
  ·rw [hA7] at w;rw [w];exact z
 ·rw [hAz]
  refine ⟨?_,hCp _ _,fun a ha b hb=>?_⟩
  ·rw [hBt]
   refine List.Pairwise.imp_of_mem (fun {a b} ha hb r=>?_) h.ap
   rw [(l2 a ha).1,(l2 b hb).1,qCc,qCc,r.1,r.2,ld a ha,ld b hb]
   simp
  ·rw [hA7] at hb
   obtain ⟨u,hu,rfl⟩:=hAb.mp ha
   subst hb
   refine ⟨by rw [(l2 u hu).1];exact ld u hu,?_⟩
   rw [qCc,ff]
   cases u.testBit b.log2 <;> rfl
theorem redS_spn {k:List Nat} (x y:Nat):Spn (redS k x) y↔Spn (k++[x]) y:=by
 have rx:=red1_spn k k (fun _ h=>h) x
 unfold redS
 have inl:∀ {z},Spn k z->Spn (k++[x]) z:=fun {z} hz=>hz.mono fun u hu=>.mem (hAm _ hu)
 have xm:Spn (k++[x]) x:=.mem (by simp)
 by_cases z:red1 k x=0
 ·rw [if_pos z]
  rw [z,hD7] at rx
  refine ⟨inl,fun h=>h.mono fun u hu=>?_⟩
  rcases hAf.mp hu with w | w
  ·exact .mem w
  ·rw [hA7] at w;rw [w];exact rx
 rw [if_neg z]
 have fm:Spn (k++[x]) (red1 k x):=by
  have:=(inl rx).xor xm
  rwa [qA0] at this
 revert rx fm
 generalize red1 k x=f
 intro rx fm
 have ff:Spn (k.map (fun s=>rd1 s f)++[f]) f:=.mem (by simp)
 have sk:∀ s∈k,Spn (k.map (fun s=>rd1 s f)++[f]) s:=fun s hs=>by
  have a:Spn (k.map (fun s=>rd1 s f)++[f]) (rd1 s f):=.mem (hAm _ (hB6 (f:=fun s=>rd1 s f) hs))
  by_cases q:s.testBit f.log2=true
  ·have b:=a.xor ff
   rw [show rd1 s f=s^^^f from if_pos q,qA0] at b
   exact b
  ·rw [show rd1 s f=s from if_neg q] at a
   exact a
 constructor
 ·intro h
  refine h.mono fun u hu=>?_
  rcases hAf.mp hu with w | w
  ·obtain ⟨s,hs,rfl⟩:=hAb.mp w
   unfold rd1
   split
   ·exact (inl (.mem hs)).xor fm
   ·exact inl (.mem hs)
  ·rw [hA7] at w;rw [w];exact fm
 ·intro h
  refine h.mono fun u hu=>?_
  rcases hAf.mp hu with w | w
  ·exact sk u w
  ·rw [hA7] at w
   subst w
   have b:=ff.xor (rx.mono sk)
   rw [<-hC1,hD6,hD7] at b
   exact b
theorem qFw {P:List Nat->Prop} (h0:P []) (hs:∀ l t,P l->P (l++[t])) (l:List Nat):P l:=by
 have:∀ r:List Nat,P r.reverse:=fun r=>by
  induction r with
  | nil=>exact h0
  | cons a r ih=>rw [List.reverse_cons];exact hs _ _ ih
 have q:=this l.reverse
 rwa [List.reverse_reverse] at q
theorem qC8 (xs:List Nat):RR (red xs):=qFw (P:=fun xs=>RR (red xs)) RR.nil (fun l t ih=>by rw [qC1];exact ih.step t) xs
theorem qDc (xs:List Nat):∀ y,Spn (red xs) y↔Spn xs y:=by
 refine qFw (P:=fun xs=>∀ y,Spn (red xs) y↔Spn xs y) (fun y=>Iff.rfl) (fun l t ih y=>?_) xs
 rw [qC1,redS_spn]
 constructor
 ·exact fun h=>h.mono fun u hu=>by
   rcases hAf.mp hu with w | w
   ·exact ((ih u).mp (.mem w)).mono fun v hv=>.mem (hAm _ hv)
   ·exact .mem (hA6 _ w)
 ·exact fun h=>h.mono fun u hu=>by
   rcases hAf.mp hu with w | w
   ·exact ((ih u).mpr (.mem w)).mono fun v hv=>.mem (hAm _ hv)
   ·exact .mem (hA6 _ w)
theorem red_lt {xs:List Nat} {m:Nat} (h:∀ x∈xs,x<2^m):∀ s∈red xs,s<2^m:=fun s hs=>Spn.lt h ((qDc xs s).mp (.mem hs))
def Fsh (xs:List Nat):Prop:=∀ i x,xs[i]?=some x->∃ j,x.testBit j=true/\∀ y∈xs.take i,y.testBit j=false
theorem spn_bit {l:List Nat} {j:Nat} (h:∀ x∈l,x.testBit j=false) {y:Nat} (hy:Spn l y):y.testBit j=false:=by
 induction hy with
 | zero=>simp
 | add m _ ih=>rw [hAq,h _ m,ih];rfl
theorem red_len (xs:List Nat):Fsh xs->(red xs).length=xs.length:=by
 refine qFw (P:=fun xs=>Fsh xs->(red xs).length=xs.length) (fun _=>rfl) (fun l t ih h=>?_) xs
 have ih':=ih fun i x hx=>by
  have hi:i<l.length:=(hAp.mp hx).1
  obtain ⟨j,h1,h2⟩:=h i x (by rw [hBp hi];exact hx)
  exact ⟨j,h1,fun y hy=>h2 y (by rw [hCn (by omega)];exact hy)⟩
 obtain ⟨j,h1,h2⟩:=h l.length t (by simp)
 rw [hCn (hA5 _),hA8 (hA5 _)] at h2
 rw [qC1]
 unfold redS
 have nz:red1 (red l) t≠0:=fun z=>by
  have rx:=red1_spn (red l) (red l) (fun _ h=>h) t
  rw [z,hD7] at rx
  have:=spn_bit h2 ((qDc l t).mp rx)
  rw [this] at h1;cases h1
 rw [if_neg nz,hAc,hA1,hAc,ih']
 rfl
end My
namespace My
def xsum:Nat->(Nat->Bool)->Bool
 | 0,_=>false
 | m+1,f=>xsum m f ^^ f m
theorem qAy {f g:Nat->Bool}:∀ {m:Nat},(∀ j,j<m->f j=g j)->xsum m f=xsum m g
 | 0,_=>rfl
 | m+1,h=>by unfold xsum;rw [qAy fun j hj=>h j (by omega),h m (by omega)]
theorem qEp (f g:Nat->Bool):∀ m:Nat,xsum m (fun j=>f j ^^ g j)=(xsum m f ^^ xsum m g)
 | 0=>rfl
 | m+1=>by
  unfold xsum
  rw [qEp f g m]
  show ((xsum m f ^^ xsum m g) ^^ (f m ^^ g m))=_
  cases xsum m f <;> cases xsum m g <;> cases f m <;> cases g m <;> rfl
theorem qB1:∀ m:Nat,xsum m (fun _=>false)=false
 | 0=>rfl
 | m+1=>by unfold xsum;rw [qB1 m];rfl
theorem qDe {f:Nat->Bool} {l:Nat}:∀ {m:Nat},(∀ j,j<m->j≠l->f j=false)->xsum m f=(decide (l<m) && f l)
 | 0,_=>by simp [xsum]
 | m+1,h=>by
  unfold xsum
  rw [qDe (m:=m) fun j hj=>h j (by omega)]
  by_cases e:l=m
  ·subst e;simp
  ·have n:=h m (by omega) (fun z=>e z.symm)
   rw [n]
   have:decide (l<m)=decide (l<m+1):=by
    by_cases q:l<m
    ·rw [decide_eq_true q,decide_eq_true (by omega)]
    ·rw [decide_eq_false q,decide_eq_false (by omega)]
   rw [this];simp
theorem xsum_head (f:Nat->Bool):∀ m:Nat,xsum (m+1) f=(f 0 ^^ xsum m fun j=>f (j+1))
 | 0=>by simp [xsum]
 | m+1=>by
  rw [xsum,xsum_head f m,xsum]
  cases f 0 <;> cases xsum m (fun j=>f (j+1)) <;> cases f (m+1) <;> rfl
theorem xsum_rev (f:Nat->Bool):∀ m:Nat,xsum m (fun j=>f (m - 1 - j))=xsum m f
 | 0=>rfl
 | m+1=>by
  rw [xsum_head]
  have:xsum m (fun j=>f (m+1 - 1 - (j+1)))=xsum m fun j=>f (m - 1 - j):=qAy fun j hj=>by
   rw [show m+1 - 1 - (j+1)=m - 1 - j by omega]
  rw [this,xsum_rev f m]
  show (f m ^^ xsum m f)=(xsum m f ^^ f m)
  cases f m <;> cases xsum m f <;> rfl
def dot (m x y:Nat):Bool:=xsum m fun j=>x.testBit j && y.testBit j
theorem dot_left (m x x' y:Nat):dot m (x^^^x') y=(dot m x y ^^ dot m x' y):=by
 unfold dot
 rw [<-qEp]
 refine qAy fun j _=>?_
 rw [hAq]
 cases x.testBit j <;> cases x'.testBit j <;> cases y.testBit j <;> rfl
theorem dot_right (m x y y':Nat):dot m x (y^^^y')=(dot m x y ^^ dot m x y'):=by
 unfold dot
 rw [<-qEp]
 refine qAy fun j _=>?_
 rw [hAq]
 cases x.testBit j <;> cases y.testBit j <;> cases y'.testBit j <;> rfl
theorem dot_zero (m y:Nat):dot m 0 y=false:=by
 unfold dot
 rw [qAy (g:=fun _=>false) fun j _=>by simp,qB1]
theorem dot_zero' (m y:Nat):dot m y 0=false:=by
 unfold dot
 rw [qAy (g:=fun _=>false) fun j _=>by simp,qB1]
theorem dot_pow {m p y:Nat} (hp:p<m):dot m (2^p) y=y.testBit p:=by
 unfold dot
 rw [qDe (l:=p) fun j _ ne=>by rw [hB7,decide_eq_false (fun z=>ne z.symm)];rfl]
 rw [hB7]
 simp [hp]
theorem dot_only {m x s l:Nat} (hl:l<m) (hs:s.testBit l=true) (h:∀ j,j<m->j≠l->(x.testBit j && s.testBit j)=false):dot m x s=x.testBit l:=by
 unfold dot
 rw [qDe (l:=l) h,decide_eq_true hl,hs]
 simp
theorem spn_dot {l:List Nat} {m y:Nat} (h:∀ s∈l,dot m y s=false) {z:Nat} (hz:Spn l z):dot m y z=false:=by
 induction hz with
 | zero=>exact dot_zero' m y
 | add hm _ ih=>rw [dot_right,h _ hm,ih];rfl
theorem spn_dotL {l:List Nat} {m s:Nat} (h:∀ x∈l,dot m x s=false) {z:Nat} (hz:Spn l z):dot m z s=false:=by
 induction hz with
 | zero=>exact dot_zero m s
 | add hm _ ih=>rw [dot_left,h _ hm,ih];rfl
theorem add_pow:∀ (l x:Nat),x.testBit l=false->2^l+x=2^l^^^x
 | 0,x,h=>by
  have e:x % 2=0:=by
   rw [hB5] at h
   have:=of_decide_eq_false h
   omega
  show 1+x=1^^^x
  rw [hDg,qEd e,Nat.add_comm]
 | l+1,x,h=>by
  rw [Nat.testBit_succ] at h
  have ih:=add_pow l (x / 2) h
  have d:(2^(l+1)^^^x) / 2=2^l+x / 2:=by
   rw [Nat.xor_div_two,ih,Nat.pow_succ,Nat.mul_div_cancel _ (by decide)]
  have b:(2^(l+1)^^^x).testBit 0=x.testBit 0:=by rw [hAq,hB7];simp
  rw [hB5,hB5] at b
  have b':(2^(l+1)^^^x) % 2=1↔x % 2=1:=by simpa using b
  have p:=Nat.pow_succ (n:=2) (m:=l)
  rcases hBe x with q | q
  ·have:¬(2^(l+1)^^^x) % 2=1:=fun z=>by have:=b'.mp z;omega
   omega
  ·have:=b'.mpr q
   omega
theorem sum_pow:∀ (L:List Nat),L.Nodup->∀ j,((L.map fun l=>2^l).sum).testBit j=decide (j∈L)
 | [],_,j=>by simp
 | l :: L,nd,j=>by
  obtain ⟨n1,n2⟩:=hB0.mp nd
  have ih:=sum_pow L n2
  rw [hAl,hCj,add_pow l _ (by rw [ih l,decide_eq_false n1]),hAq,ih j,hB7]
  by_cases e:l=j
  ·subst e;simp [n1]
  ·have e':¬j=l:=fun z=>e z.symm
   simp [e,e']
def crM (S:List Nat) (p:Nat):Nat:=2^p+((S.filter fun s:Nat=>s.testBit p).map fun s:Nat=>2^s.log2).sum
def isLd (S:List Nat) (p:Nat):Prop:=∃ s∈S,s.log2=p
instance (S:List Nat):DecidablePred (isLd S):=fun p=>inferInstanceAs (Decidable (∃ s∈S,s.log2=p))
theorem ld_nd:∀ {S:List Nat},RR S->(S.map Nat.log2).Nodup
 | [],_=>hC9
 | s :: S,h=>by
  rw [hAl]
  refine hB0.mpr ⟨fun z=>?_,ld_nd h.tl⟩
  obtain ⟨t,ht,e⟩:=hAb.mp z
  have a:=(h.hd t ht).1
  rw [<-e,h.self (hA4 _ ht)] at a
  cases a
theorem qDq {S:List Nat} (h:RR S) (p j:Nat):(((S.filter fun s:Nat=>s.testBit p).map fun s:Nat=>2^s.log2).sum).testBit j=decide (∃ s∈S,s.testBit p=true/\s.log2=j):=by
 have e:((S.filter fun s:Nat=>s.testBit p).map fun s:Nat=>2^s.log2)=((S.filter fun s:Nat=>s.testBit p).map Nat.log2).map fun l=>2^l:=by rw [hB4];rfl
 rw [e,sum_pow _ ((ld_nd h).sublist (hBk.map _))]
 refine decide_eq_decide.mpr ?_
 rw [hAb]
 constructor
 ·rintro ⟨s,hs,rfl⟩
  exact ⟨s,(hAg.mp hs).1,(hAg.mp hs).2,rfl⟩
 ·rintro ⟨s,hs,h1,rfl⟩
  exact ⟨s,hAg.mpr ⟨hs,h1⟩,rfl⟩
theorem leads_bit {S:List Nat} (h:RR S) (j:Nat):((S.map fun s:Nat=>2^s.log2).sum).testBit j=decide (isLd S j):=by
 have e:(S.map fun s:Nat=>2^s.log2)=(S.map Nat.log2).map fun l=>2^l:=by rw [hB4];rfl
 rw [e,sum_pow _ (ld_nd h)]
 refine decide_eq_decide.mpr ?_
 rw [hAb]
 exact Iff.rfl
theorem crM_bit {S:List Nat} (h:RR S) {p:Nat} (np:¬isLd S p) (j:Nat):(crM S p).testBit j=(decide (p=j) ^^ decide (∃ s∈S,s.testBit p=true/\s.log2=j)):=by
 unfold crM
 rw [add_pow _ _ (by rw [qDq h];exact decide_eq_false fun ⟨s,hs,_,e⟩=>np ⟨s,hs,e⟩),hAq,hB7,qDq h]
theorem crM_lt {S:List Nat} {m:Nat} (h:RR S) (hm:∀ s∈S,s<2^m) {p:Nat} (hp:p<m) (np:¬isLd S p):crM S p<2^m:=by
 refine hC7 _ fun i hi=>?_
 rw [crM_bit h np,decide_eq_false (by omega:¬p=i),decide_eq_false]
 ·rfl
 ·rintro ⟨s,hs,_,e⟩
  have:=h.self hs
  rw [e,qDh (hm s hs) hi] at this
  cases this
theorem crM_dot {S:List Nat} {m:Nat} (h:RR S) (hm:∀ s∈S,s<2^m) {p:Nat} (hp:p<m) (np:¬isLd S p):∀ s∈S,dot m (crM S p) s=false:=fun s hs=>by
 have e:crM S p=2^p^^^((S.filter fun s:Nat=>s.testBit p).map fun s:Nat=>2^s.log2).sum:=by
  unfold crM
  exact add_pow _ _ (by rw [qDq h];exact decide_eq_false fun ⟨s,hs,_,e⟩=>np ⟨s,hs,e⟩)
 have ls:s.log2<m:=by
  have:=h.self hs
  rcases hD5 s.log2 m with z | z
  ·exact z
  ·rw [qDh (hm s hs) z] at this;cases this
 rw [e,dot_left,dot_pow hp,dot_only (l:=s.log2) ls (h.self hs) fun j hj ne=>?_,qDq h]
 ·have:decide (∃ t∈S,t.testBit p=true/\t.log2=s.log2)=s.testBit p:=by
   cases q:s.testBit p with
   | true=>exact decide_eq_true ⟨s,hs,q,rfl⟩
   | false =>
    refine decide_eq_false ?_
    rintro ⟨t,ht,h1,h2⟩
    by_cases z:t=s
    ·subst z;rw [q] at h1;cases h1
    ·have a:=h.ne hs ht (fun w=>z w.symm)
     rw [h2,h.self hs] at a;cases a
  rw [this]
  cases s.testBit p <;> rfl
 ·rw [qDq h]
  by_cases q:∃ t∈S,t.testBit p=true/\t.log2=j
  ·obtain ⟨t,ht,h1,h2⟩:=q
   have z:s≠t:=fun w=>ne (by rw [w,h2])
   have a:=h.ne hs ht z
   rw [h2] at a
   rw [a];simp
  ·rw [decide_eq_false q];rfl
def qCx (S:List Nat) (m:Nat):List Nat:=((List.range m).filter fun p=>!decide (isLd S p)).map (crM S)
def xl (L:List Nat):Nat:=L.foldr (·^^^·) 0
theorem xl_spn {l L:List Nat} (h:∀ x∈L,x∈l):Spn l (xl L):=by
 induction L with
 | nil=>exact .zero
 | cons a L ih=>exact .add (h a hA2) (ih fun x hx=>h x (hA4 _ hx))
theorem xl_cr {S:List Nat} (h:RR S):∀ (L:List Nat),L.Nodup->(∀ p∈L,¬isLd S p)->∀ j,¬isLd S j->(xl (L.map (crM S))).testBit j=decide (j∈L)
 | [],_,_,j,_=>by simp [xl]
 | p :: L,nd,np,j,nj=>by
  obtain ⟨n1,n2⟩:=hB0.mp nd
  show (crM S p^^^xl (L.map (crM S))).testBit j=_
  rw [hAq,xl_cr h L n2 (fun q hq=>np q (hA4 _ hq)) j nj,crM_bit h (np p hA2),decide_eq_false (p:=∃ s∈S,s.testBit p=true/\s.log2=j) fun ⟨s,hs,_,e⟩=>nj ⟨s,hs,e⟩]
  by_cases e:p=j
  ·subst e;simp [n1]
  ·have e':¬j=p:=fun z=>e z.symm
   simp [e,e']
theorem cr_spn {S:List Nat} {m:Nat} (h:RR S) (hm:∀ s∈S,s<2^m) (y:Nat):Spn (qCx S m) y↔y<2^m/\∀ s∈S,dot m y s=false:=by
 have mem:∀ x,x∈qCx S m↔∃ p,p<m/\¬isLd S p/\crM S p=x:=fun x=>by
  unfold qCx
  rw [hAb]
  constructor
  ·rintro ⟨p,hp,rfl⟩
   obtain ⟨h1,h2⟩:=hAg.mp hp
   exact ⟨p,hBj.mp h1,by simpa using h2,rfl⟩
  ·rintro ⟨p,h1,h2,rfl⟩
   exact ⟨p,hAg.mpr ⟨hBj.mpr h1,by simpa using h2⟩,rfl⟩
 constructor
 ·intro hy
  refine ⟨Spn.lt (fun x hx=>?_) hy,fun s hs=>spn_dotL (fun x hx=>?_) hy⟩
  ·obtain ⟨p,h1,h2,rfl⟩:=(mem x).mp hx
   exact crM_lt h hm h1 h2
  ·obtain ⟨p,h1,h2,rfl⟩:=(mem x).mp hx
   exact crM_dot h hm h1 h2 s hs
 ·rintro ⟨hy,hd⟩
  have hL:∀ p∈(List.range m).filter (fun p=>!decide (isLd S p) && y.testBit p),p<m/\¬isLd S p/\y.testBit p=true:=fun p hp=>by
   obtain ⟨h1,h2⟩:=hAg.mp hp
   rw [hBa] at h2
   exact ⟨hBj.mp h1,by simpa using h2.1,h2.2⟩
  have nd:((List.range m).filter (fun p=>!decide (isLd S p) && y.testBit p)).Nodup:=List.nodup_range.sublist hBk
  have cov:∀ j,j<m->¬isLd S j->(j∈(List.range m).filter (fun p=>!decide (isLd S p) && y.testBit p)↔y.testBit j=true):=fun j hj nj=>by
   rw [hAg,hBj]
   simp [hj,nj]
  generalize (List.range m).filter (fun p=>!decide (isLd S p) && y.testBit p)=L at hL nd cov
  have sp:Spn (qCx S m) (xl (L.map (crM S))):=xl_spn fun x hx=>by
   obtain ⟨p,hp,rfl⟩:=hAb.mp hx
   exact (mem _).mpr ⟨p,(hL p hp).1,(hL p hp).2.1,rfl⟩
  have lt1:xl (L.map (crM S))<2^m:=Spn.lt (fun x hx=>by
   obtain ⟨p,h1,h2,rfl⟩:=(mem x).mp hx
   exact crM_lt h hm h1 h2) sp
  have dz:∀ s∈S,dot m (y^^^xl (L.map (crM S))) s=false:=fun s hs=>by
   rw [dot_left,hd s hs,spn_dotL (fun x hx=>?_) sp]
   ·rfl
   ·obtain ⟨p,h1,h2,rfl⟩:=(mem x).mp hx
    exact crM_dot h hm h1 h2 s hs
  have non:∀ j,¬isLd S j->(y^^^xl (L.map (crM S))).testBit j=false:=fun j nj=>by
   rw [hAq,xl_cr h L nd (fun p hp=>(hL p hp).2.1) j nj]
   by_cases hj:j<m
   ·cases q:y.testBit j with
    | true=>rw [decide_eq_true ((cov j hj nj).mpr q)];rfl
    | false=>rw [decide_eq_false fun z=>by rw [(cov j hj nj).mp z] at q;cases q];rfl
   ·rw [qDh hy (by omega),decide_eq_false fun z=>hj (hL j z).1];rfl
  have z0:y^^^xl (L.map (crM S))=0:=by
   refine hB3 fun j=>?_
   rw [Nat.zero_testBit]
   by_cases q:isLd S j
   ·obtain ⟨s,hs,rfl⟩:=q
    have ls:s.log2<m:=by
     have:=h.self hs
     rcases hD5 s.log2 m with z | z
     ·exact z
     ·rw [qDh (hm s hs) z] at this;cases this
    rw [<-dot_only (m:=m) (s:=s) ls (h.self hs) fun j hj ne=>?_]
    ·exact dz s hs
    ·by_cases q:isLd S j
     ·obtain ⟨t,ht,rfl⟩:=q
      rw [h.ne hs ht (fun w=>ne (by rw [w]))];simp
     ·rw [non j q];rfl
   ·exact non j q
  have:y=xl (L.map (crM S)):=by
   have q:=qA0 y (xl (L.map (crM S)))
   rw [z0,hD7] at q
   exact q.symm
  rw [this];exact sp
end My
namespace My
open PySem
theorem add_xor:∀ (n a b:Nat),a<n->a+b=(a^^^b)+2*(a&&&b)
 | 0,_,_,h=>absurd h (hC6 _)
 | n+1,a,b,h=>by
  by_cases a0:a=0
  ·subst a0;simp
  have ih:=add_xor n (a / 2) (b / 2) (by omega)
  have d1:(a^^^b) / 2=a / 2^^^b / 2:=Nat.xor_div_two
  have d2:(a&&&b) / 2=a / 2&&&b / 2:=Nat.and_div_two
  have b1:(a^^^b).testBit 0=(a.testBit 0 ^^ b.testBit 0):=hAq ..
  have b2:(a&&&b).testBit 0=(a.testBit 0 && b.testBit 0):=hDh ..
  rw [hB5,hB5,hB5] at b1 b2
  rw [<-d1,<-d2] at ih
  generalize a^^^b=X at b1 ih ⊢
  generalize a&&&b=Y at b2 ih ⊢
  rcases hBe a with p | p <;> rcases hBe b with q | q <;> rw [p,q] at b1 b2 <;> simp at b1 b2 <;> omega
theorem qCn (a b:Nat):Builtin.bitAnd (a:Int) (b:Int)=((a&&&b:Nat):Int):=by
 unfold Builtin.bitAnd
 rw [decide_eq_true (Int.natCast_nonneg a),decide_eq_true (Int.natCast_nonneg b)]
 simp
theorem bxor_nat (a b:Nat):Builtin.bitXor (a:Int) (b:Int)=((a^^^b:Nat):Int):=by
 have e:=add_xor (a+1) a b (hBl a)
 have h:Builtin.bitXor (a:Int) (b:Int)=(a:Int)+b - 2*Builtin.bitAnd a b:=by
  have x:∀ x y:Int,Builtin.bitNot (Builtin.bitNot x)=x:=fun x y=>by unfold Builtin.bitNot;omega
  unfold Builtin.bitXor Builtin.bitOr
  have na:¬(0:Int)<=Builtin.bitNot (a:Int):=by unfold Builtin.bitNot;omega
  have nb:¬(0:Int)<=Builtin.bitNot (b:Int):=by unfold Builtin.bitNot;omega
  have o:Builtin.bitAnd (Builtin.bitNot (a:Int)) (Builtin.bitNot (b:Int))=Builtin.bitNot ((a ||| b:Nat):Int):=by
   unfold Builtin.bitAnd
   rw [decide_eq_false na,decide_eq_false nb]
   show Builtin.bitNot _=_
   rw [x a 0,x b 0];simp
  rw [o,x _ 0,qCn]
  have e2:(a ||| b)+(a&&&b)=a+b:=by
   have:=add_or (a+1) a b (hBl a)
   omega
  omega
 rw [h,qCn]
 omega
where
 add_or:∀ (n a b:Nat),a<n->(a ||| b)+(a&&&b)=a+b
 | 0,_,_,h=>absurd h (hC6 _)
 | n+1,a,b,h=>by
  by_cases a0:a=0
  ·subst a0;simp
  have ih:=add_or n (a / 2) (b / 2) (by omega)
  have d1:(a ||| b) / 2=a / 2 ||| b / 2:=Nat.or_div_two
  have d2:(a&&&b) / 2=a / 2&&&b / 2:=Nat.and_div_two
  have b1:(a ||| b).testBit 0=(a.testBit 0 || b.testBit 0):=Nat.testBit_or ..
  have b2:(a&&&b).testBit 0=(a.testBit 0 && b.testBit 0):=hDh ..
  rw [hB5,hB5,hB5] at b1 b2
  rw [<-d1,<-d2] at ih
  generalize a ||| b=X at b1 ih ⊢
  generalize a&&&b=Y at b2 ih ⊢
  rcases hBe a with p | p <;> rcases hBe b with q | q <;> rw [p,q] at b1 b2 <;> simp at b1 b2 <;> omega
theorem low_ex:∀ (n f:Nat),f<n->f≠0->∃ i,f.testBit i=true/\∀ j,j<i->f.testBit j=false
 | 0,_,h,_=>absurd h (hC6 _)
 | n+1,f,h,nz=>by
  rcases hBe f with p | p
  ·obtain ⟨i,h1,h2⟩:=low_ex n (f / 2) (by omega) (by omega)
   refine ⟨i+1,by rw [Nat.testBit_succ];exact h1,fun j hj=>?_⟩
   cases j with
   | zero=>rw [hB5,p];rfl
   | succ j=>rw [Nat.testBit_succ];exact h2 j (by omega)
  ·exact ⟨0,by rw [hB5,p];rfl,fun j hj=>absurd hj (hC6 _)⟩
noncomputable def lo (f:Nat):Nat:=Classical.epsilon fun i=>f.testBit i=true/\∀ j,j<i->f.testBit j=false
theorem lo_spec {f:Nat} (h:f≠0):f.testBit (lo f)=true/\∀ j,j<lo f->f.testBit j=false :=
 Classical.epsilon_spec (low_ex (f+1) f (hBl _) h)
theorem and_pow (x p:Nat):x&&&2^p≠0↔x.testBit p=true:=by
 constructor
 ·intro ne
  cases q:x.testBit p with
  | true=>rfl
  | false =>
   refine absurd (hB3 fun j=>?_) ne
   rw [hDh,hB7,Nat.zero_testBit]
   by_cases e:p=j
   ·subst e;rw [q];rfl
   ·simp [e]
 ·intro q z
  have:=congrArg (fun x:Nat=>x.testBit p) z
  simp [hDh,q] at this
def rv (m x:Nat):Nat:=((((List.range m).filter fun i=>x.testBit i).map fun i=>m - 1 - i).map fun l=>2^l).sum
theorem qCo (m x j:Nat):(rv m x).testBit j=(decide (j<m) && x.testBit (m - 1 - j)):=by
 have nd:(((List.range m).filter fun i=>x.testBit i).map fun i=>m - 1 - i).Nodup:=by
  have h:((List.range m).filter fun i=>x.testBit i).Pairwise fun a b=>m - 1 - a≠m - 1 - b:=by
   have:(List.range m).Pairwise fun a b=>a≠b:=List.nodup_range
   refine List.Pairwise.imp_of_mem (fun {a b} ha hb ne=>?_) (this.sublist hBk)
   have a1:=hBj.mp (hAg.mp ha).1
   have b1:=hBj.mp (hAg.mp hb).1
   omega
  rw [List.Nodup,hBt]
  exact h
 unfold rv
 rw [sum_pow _ nd]
 by_cases hj:j<m
 ·rw [decide_eq_true hj,hCy]
  cases q:x.testBit (m - 1 - j) with
  | true=>exact decide_eq_true (hAb.mpr ⟨m - 1 - j,hAg.mpr ⟨hBj.mpr (by omega),q⟩,by omega⟩)
  | false =>
   refine decide_eq_false fun z=>?_
   obtain ⟨i,hi,e⟩:=hAb.mp z
   obtain ⟨h1,h2⟩:=hAg.mp hi
   have:=hBj.mp h1
   rw [show m - 1 - j=i by omega,h2] at q;cases q
 ·rw [decide_eq_false hj,Bool.false_and]
  refine decide_eq_false fun z=>?_
  obtain ⟨i,hi,e⟩:=hAb.mp z
  have:=hBj.mp (hAg.mp hi).1
  omega
theorem rv_lt (m x:Nat):rv m x<2^m:=hC7 _ fun i hi=>by rw [qCo,decide_eq_false (by omega)];rfl
theorem rv_xor (m x y:Nat):rv m (x^^^y)=rv m x^^^rv m y:=hB3 fun j=>by
 rw [hAq,qCo,qCo,qCo,hAq]
 cases decide (j<m) <;> simp
theorem rv_rv {m x:Nat} (h:x<2^m):rv m (rv m x)=x:=hB3 fun j=>by
 rw [qCo,qCo]
 by_cases hj:j<m
 ·rw [decide_eq_true hj,decide_eq_true (by omega),show m - 1 - (m - 1 - j)=j by omega];rfl
 ·rw [decide_eq_false hj,qDh h (Nat.le_of_not_lt hj)];rfl
theorem qE9 (m:Nat):rv m 0=0:=hB3 fun j=>by rw [qCo];simp
theorem rv_ne {m x:Nat} (h:x<2^m) (nz:x≠0):rv m x≠0:=fun z=>nz (by rw [<-rv_rv h,z,qE9])
theorem lo_lt {m x:Nat} (h:x<2^m) (nz:x≠0):lo x<m:=by
 rcases hD5 (lo x) m with z | z
 ·exact z
 ·have:=(lo_spec nz).1
  rw [qDh h z] at this;cases this
theorem rv_log2 {m x:Nat} (h:x<2^m) (nz:x≠0):(rv m x).log2=m - 1 - lo x:=by
 obtain ⟨h1,h2⟩:=lo_spec nz
 have l:=lo_lt h nz
 refine log2_of ?_ (hC7 _ fun i hi=>?_)
 ·rw [qCo,decide_eq_true (by omega),show m - 1 - (m - 1 - lo x)=lo x by omega,h1];rfl
 ·rw [qCo]
  by_cases q:i<m
  ·rw [h2 (m - 1 - i) (by omega)];simp
  ·rw [decide_eq_false q];rfl
noncomputable def rdL (x s:Nat):Nat:=if x.testBit (lo s)=true then x^^^s else x
theorem rv_rdL {m x s:Nat} (hs:s<2^m) (nz:s≠0):rv m (rdL x s)=rd1 (rv m x) (rv m s):=by
 have l:=lo_lt hs nz
 unfold rdL rd1
 have b:(rv m x).testBit (rv m s).log2=x.testBit (lo s):=by
  rw [rv_log2 hs nz,qCo,decide_eq_true (by omega),show m - 1 - (m - 1 - lo s)=lo s by omega];rfl
 rw [b]
 split
 ·exact rv_xor m x s
 ·rfl
theorem rdL_lt {m x s:Nat} (hx:x<2^m) (hs:s<2^m):rdL x s<2^m:=by
 unfold rdL
 split
 ·exact hCl hx hs
 ·exact hx
noncomputable def redL1 (k:List Nat) (x:Nat):Nat:=k.foldl rdL x
def Gm (m:Nat) (k:List Nat):Prop:=∀ s∈k,s<2^m/\s≠0
theorem redL1_rv {m:Nat}:∀ {k:List Nat} {x:Nat},Gm m k->x<2^m->redL1 k x<2^m/\rv m (redL1 k x)=red1 (k.map (rv m)) (rv m x)
 | [],x,_,hx=>⟨hx,rfl⟩
 | s :: k,x,h,hx=>by
  obtain ⟨h1,h2⟩:=h s hA2
  have ih:=redL1_rv (x:=rdL x s) (fun t ht=>h t (hA4 _ ht)) (rdL_lt hx h1)
  refine ⟨ih.1,?_⟩
  show rv m (redL1 k (rdL x s))=red1 (k.map (rv m)) (rd1 (rv m x) (rv m s))
  rw [ih.2,rv_rdL h1 h2]
noncomputable def redLS (k:List Nat) (x:Nat):List Nat:=if redL1 k x=0 then k else k.map (fun s=>rdL s (redL1 k x))++[redL1 k x]
noncomputable def redL (xs:List Nat):List Nat:=xs.foldl redLS []
theorem redL_snoc (xs:List Nat) (x:Nat):redL (xs++[x])=redLS (redL xs) x:=by unfold redL;rw [hCg];rfl
theorem redL_rv {m:Nat} (xs:List Nat):(∀ x∈xs,x<2^m)->Gm m (redL xs)/\(redL xs).map (rv m)=red (xs.map (rv m)):=by
 refine qFw (P:=fun xs=>(∀ x∈xs,x<2^m)->Gm m (redL xs)/\(redL xs).map (rv m)=red (xs.map (rv m))) (fun _=>⟨fun s hs=>(by cases hs),rfl⟩) (fun l t ih h=>?_) xs
 obtain ⟨g,e⟩:=ih fun x hx=>h x (hAm _ hx)
 have ht:=h t (by simp)
 obtain ⟨l1,l2⟩:=redL1_rv g ht
 have sp:∀ s∈redL l,rv m s≠0:=fun s hs=>rv_ne (g s hs).1 (g s hs).2
 rw [hAa,List.map_singleton,qC1,redL_snoc,<-e]
 unfold redLS redS
 rw [<-l2]
 by_cases z:redL1 (redL l) t=0
 ·rw [if_pos z,z,qE9,if_pos rfl]
  exact ⟨g,rfl⟩
 ·have z':=rv_ne l1 z
  rw [if_neg z,if_neg z']
  have rr:=qC8 (l.map (rv m))
  rw [<-e] at rr
  refine ⟨fun s hs=>?_,?_⟩
  ·rcases hAf.mp hs with w | w
   ·obtain ⟨u,hu,rfl⟩:=hAb.mp w
    refine ⟨rdL_lt (g u hu).1 l1,fun q=>?_⟩
    have q2:=rv_rdL (x:=u) l1 z
    rw [q,qE9] at q2
    have ld:=qFd (x:=rv m t) rr (rv m u) (hB6 hu)
    rw [<-l2] at ld
    exact (rd1_log2 (sp u hu) z' ld).2 q2.symm
   ·rw [hA7] at w;rw [w];exact ⟨l1,z⟩
  ·rw [hAa,List.map_singleton,hB4,hB4]
   congr 1
   refine hBy fun s hs=>?_
   exact rv_rdL l1 z
end My
namespace My
open PySem
def bd (V:Nat->Nat):Nat->Nat->Nat
 | 0,_=>0
 | m+1,y=>bd V m y^^^(if y.testBit m=true then V m else 0)
theorem qCj (V:Nat->Nat):∀ (m x y:Nat),bd V m (x^^^y)=bd V m x^^^bd V m y
 | 0,_,_=>by simp [bd]
 | m+1,x,y=>by
  show bd V m (x^^^y)^^^_=(bd V m x^^^_)^^^(bd V m y^^^_)
  rw [qCj V m x y,hAq]
  refine hB3 fun j=>?_
  simp only [hAq]
  cases x.testBit m <;> cases y.testBit m <;> simp [hAq] <;> cases (bd V m x).testBit j <;> cases (bd V m y).testBit j <;> cases (V m).testBit j <;> rfl
theorem qD9 (V:Nat->Nat):∀ m:Nat,bd V m 0=0
 | 0=>rfl
 | m+1=>by show bd V m 0^^^_=0;rw [qD9 V m];simp
theorem bd_bit (V:Nat->Nat) (q:Nat):∀ m y:Nat,(bd V m y).testBit q=xsum m fun i=>y.testBit i && (V i).testBit q
 | 0,_=>by simp [bd,xsum]
 | m+1,y=>by
  show (bd V m y^^^_).testBit q=(xsum m _ ^^ (y.testBit m && (V m).testBit q))
  rw [hAq,bd_bit V q m y]
  cases y.testBit m <;> simp
theorem bd_pow {V:Nat->Nat} {m p:Nat} (hp:p<m):bd V m (2^p)=V p:=by
 refine hB3 fun q=>?_
 rw [bd_bit,qDe (l:=p) fun j _ ne=>by rw [hB7,decide_eq_false (fun z=>ne z.symm)];rfl,hB7]
 simp [hp]
noncomputable def el1 (v f:Nat×Nat):Nat×Nat:=if v.1.testBit (lo f.1)=true then (v.1^^^f.1,v.2^^^f.2) else v
noncomputable def el (k:List (Nat×Nat)) (v:Nat×Nat):Nat×Nat:=k.foldl el1 v
abbrev Ech (k:List (Nat×Nat)):Prop:=k.Pairwise fun a b=>b.1.testBit (lo a.1)=false
theorem el_keep:∀ {k:List (Nat×Nat)} {v:Nat×Nat} {i:Nat},(∀ f∈k,f.1.testBit i=false)->(el k v).1.testBit i=v.1.testBit i
 | [],_,_,_=>rfl
 | f :: k,v,i,h=>by
  show (el k (el1 v f)).1.testBit i=_
  rw [el_keep fun g hg=>h g (hA4 _ hg)]
  unfold el1
  split
  ·show (v.1^^^f.1).testBit i=_
   rw [hAq,h f hA2];simp
  ·rfl
theorem el_low:∀ {k:List (Nat×Nat)} {v:Nat×Nat},Ech k->(∀ f∈k,f.1≠0)->∀ f∈k,(el k v).1.testBit (lo f.1)=false
 | [],_,_,_,_,h=>by cases h
 | g :: k,v,e,nz,f,hf=>by
  obtain ⟨e1,e2⟩:=hBm.mp e
  show (el k (el1 v g)).1.testBit (lo f.1)=false
  rcases hA9.mp hf with rfl | z
  ·rw [el_keep fun h hh=>e1 h hh]
   unfold el1
   cases q:v.1.testBit (lo f.1) with
   | true =>
    rw [if_pos rfl]
    show (v.1^^^f.1).testBit _=false
    rw [hAq,q,(lo_spec (nz f hA2)).1];rfl
   | false=>rw [if_neg (by decide)];exact q
  ·exact el_low e2 (fun h hh=>nz h (hA4 _ hh)) f z
theorem el_spn (V:Nat->Nat) (m:Nat) (K:List (Nat×Nat)):∀ {k:List (Nat×Nat)} {v:Nat×Nat},(∀ f∈k,f∈K/\f.1=bd V m f.2)->v.1=bd V m v.2->(el k v).1=bd V m (el k v).2/\Spn (K.map (·.2)) ((el k v).2^^^v.2)
 | [],v,_,hv=>⟨hv,by show Spn _ (v.2^^^v.2);rw [hD6];exact .zero⟩
 | f :: k,v,h,hv=>by
  have h1:(el1 v f).1=bd V m (el1 v f).2:=by
   unfold el1
   split
   ·show v.1^^^f.1=bd V m (v.2^^^f.2)
    rw [qCj,<-hv,<-(h f hA2).2]
   ·exact hv
  have h2:Spn (K.map (·.2)) ((el1 v f).2^^^v.2):=by
   unfold el1
   split
   ·show Spn _ ((v.2^^^f.2)^^^v.2)
    rw [hDg v.2 f.2,qA0]
    exact .mem (hB6 (h f hA2).1)
   ·rw [hD6];exact .zero
  obtain ⟨a,b⟩:=el_spn V m K (k:=k) (fun g hg=>h g (hA4 _ hg)) h1
  refine ⟨a,?_⟩
  have c:=b.xor h2
  rw [<-hC1,qA0] at c
  exact c
theorem spn_cons {a:Nat} {l:List Nat} {y:Nat} (h:Spn (a :: l) y):Spn l y\/Spn l (a^^^y):=by
 induction h with
 | zero=>exact .inl .zero
 | add m _ ih =>
  rename_i x y _
  rcases hA9.mp m with rfl | z
  ·rcases ih with ih | ih
   ·refine .inr ?_
    rw [<-hC1,hD6,hD7];exact ih
   ·exact .inl ih
  ·rcases ih with ih | ih
   ·exact .inl (.add z ih)
   ·refine .inr ?_
    have:=Spn.add z ih
    rw [<-hC1,hDg x a,hC1] at this
    exact this
theorem qF4 {l l':List Nat} {y:Nat} (h:Spn (l++l') y):∃ a b,Spn l a/\Spn l' b/\y=a^^^b:=by
 induction h with
 | zero=>exact ⟨0,0,.zero,.zero,rfl⟩
 | add m _ ih =>
  obtain ⟨a,b,ha,hb,rfl⟩:=ih
  rename_i x _
  rcases hAf.mp m with z | z
  ·exact ⟨x^^^a,b,.add z ha,hb,by rw [hC1]⟩
  ·exact ⟨a,x^^^b,ha,.add z hb,by rw [<-hC1,<-hC1,hDg x a]⟩
theorem spn_bd (V:Nat->Nat) (m:Nat) {k:List (Nat×Nat)} (h:∀ f∈k,f.1=bd V m f.2) {y:Nat} (hy:Spn (k.map (·.2)) y):Spn (k.map (·.1)) (bd V m y):=by
 induction hy with
 | zero=>rw [qD9];exact .zero
 | add hm _ ih =>
  obtain ⟨f,hf,rfl⟩:=hAb.mp hm
  rw [qCj,<-h f hf]
  exact .add (hB6 hf) ih
theorem ech_zero (V:Nat->Nat) (m:Nat):∀ {k:List (Nat×Nat)},Ech k->(∀ f∈k,f.1≠0/\f.1=bd V m f.2)->∀ {y:Nat},Spn (k.map (·.2)) y->(∀ f∈k,(bd V m y).testBit (lo f.1)=false)->y=0
 | [],_,_,y,hy,_=>by
  cases hy with
  | zero=>rfl
  | add m _=>cases m
 | f :: k,e,h,y,hy,hb=>by
  obtain ⟨e1,e2⟩:=hBm.mp e
  obtain ⟨f1,f2⟩:=h f hA2
  have hk:=fun g hg=>h g (hA4 _ hg)
  rw [hAl] at hy
  rcases spn_cons hy with z | z
  ·exact ech_zero V m e2 hk z fun g hg=>hb g (hA4 _ hg)
  ·have b:=spn_bit (j:=lo f.1) (fun x hx=>by
    obtain ⟨g,hg,rfl⟩:=hAb.mp hx
    exact e1 g hg) (spn_bd V m (fun g hg=>(hk g hg).2) z)
   rw [qCj,<-f2,hAq,(lo_spec f1).1,hb f hA2] at b
   cases b
structure EIv (V:Nat->Nat) (m j:Nat) (K:List (Nat×Nat)) (F:List Nat):Prop where
 k1:∀ f∈K,f.1≠0/\f.1=bd V m f.2
 kl:∀ f∈K,f.2<2^j
 k2:Ech K
 f1:∀ y∈F,y<2^j/\bd V m y=0
 cov:∀ y,y<2^j->Spn (F++K.map (·.2)) y
 len:F.length+K.length=j
 fsh:Fsh F
theorem EIv.start (V:Nat->Nat) (m:Nat):EIv V m 0 [] []:=⟨fun f h=>(by cases h),fun f h=>(by cases h),.nil,fun y h=>(by cases h),fun y hy=>by
 have:y=0:=by omega
 subst this;exact .zero,rfl,fun i x h=>(by cases h)⟩
theorem EIv.run {V:Nat->Nat} {m j:Nat} {K:List (Nat×Nat)} {F:List Nat} (h:EIv V m j K F) (hj:j<m) :
  (el K (V j,2^j)).1=bd V m (el K (V j,2^j)).2/\Spn (K.map (·.2)) ((el K (V j,2^j)).2^^^2^j)/\(el K (V j,2^j)).2<2^(j+1)/\(el K (V j,2^j)).2.testBit j=true/\∀ f∈K,(el K (V j,2^j)).1.testBit (lo f.1)=false:=by
 obtain ⟨a,b⟩:=el_spn V m K (k:=K) (v:=(V j,2^j)) (fun f hf=>⟨hf,(h.k1 f hf).2⟩) (by show V j=bd V m (2^j);rw [bd_pow hj])
 have c:(el K (V j,2^j)).2^^^2^j<2^j:=Spn.lt (fun x hx=>by
  obtain ⟨f,hf,rfl⟩:=hAb.mp hx
  exact h.kl f hf) b
 have d:((el K (V j,2^j)).2^^^2^j)^^^2^j=(el K (V j,2^j)).2:=qA0 _ _
 have p:2^j<2^(j+1):=Nat.pow_lt_pow_right (by decide) (by omega)
 refine ⟨a,b,?_,?_,el_low h.k2 (fun f hf=>(h.k1 f hf).1)⟩
 ·rw [<-d];exact hCl (by omega) p
 ·rw [<-d,hAq,hDc c,hB7];simp
theorem Fsh.snoc {F:List Nat} {x j:Nat} (h:Fsh F) (hx:x.testBit j=true) (hF:∀ y∈F,y<2^j):Fsh (F++[x]):=fun i z hz=>by
 by_cases hi:i<F.length
 ·rw [hBp hi] at hz
  obtain ⟨l,h1,h2⟩:=h i z hz
  exact ⟨l,h1,fun y hy=>h2 y (by rwa [hCn (by omega)] at hy)⟩
 ·have hl:i<(F++[x]).length:=(hAp.mp hz).1
  rw [hAc] at hl
  have e:i=F.length:=by
   have:i<F.length+1:=hl
   omega
  subst e
  have ez:x=z:=by simpa using hz
  subst ez
  refine ⟨j,hx,fun y hy=>?_⟩
  rw [hCn (hA5 _),hA8 (hA5 _)] at hy
  exact hDc (hF y hy)
theorem EIv.next {V:Nat->Nat} {m j:Nat} {K:List (Nat×Nat)} {F:List Nat} (h:EIv V m j K F) (hj:j<m) :
  if (el K (V j,2^j)).1=0 then EIv V m (j+1) K (F++[(el K (V j,2^j)).2]) else EIv V m (j+1) (K++[el K (V j,2^j)]) F:=by
 obtain ⟨a,b,c,d,e⟩:=h.run hj
 have mono:∀ {x:Nat},x<2^j->x<2^(j+1):=fun hx=>Nat.lt_trans hx (Nat.pow_lt_pow_right (by decide) (by omega))
 generalize el K (V j,2^j)=r at a b c d e
 have big:∀ {l:List Nat},(∀ x∈F++K.map (·.2),Spn l x)->Spn l r.2->∀ y,y<2^(j+1)->Spn l y:=fun {l} hl hr y hy=>by
  by_cases q:y.testBit j=true
  ·have lt:y^^^r.2<2^j:=by
    refine hC7 _ fun i hi=>?_
    rw [hAq]
    by_cases e2:i=j
    ·subst e2;rw [q,d];rfl
    ·rw [qDh hy (by omega),qDh c (by omega)];rfl
   have:=((h.cov _ lt).mono hl).xor hr
   rwa [qA0] at this
  ·have lt:y<2^j:=by
    refine hC7 _ fun i hi=>?_
    by_cases e2:i=j
    ·subst e2;simpa using q
    ·exact qDh hy (by omega)
   exact (h.cov _ lt).mono hl
 split
 ·rename_i z
  refine ⟨h.k1,fun f hf=>mono (h.kl f hf),h.k2,fun y hy=>?_,big (fun x hx=>?_) ?_,?_,h.fsh.snoc d fun y hy=>(h.f1 y hy).1⟩
  ·rcases hAf.mp hy with w | w
   ·exact ⟨mono (h.f1 y w).1,(h.f1 y w).2⟩
   ·rw [hA7] at w;rw [w];exact ⟨c,by rw [<-a,z]⟩
  ·refine .mem ?_
   rcases hAf.mp hx with w | w
   ·exact hAm _ (hAm _ w)
   ·exact hA6 _ w
  ·exact .mem (hAm _ (by simp))
  ·rw [hAc]
   have:=h.len
   show F.length+1+K.length=j+1
   omega
 ·rename_i z
  refine ⟨fun f hf=>?_,fun f hf=>?_,?_,fun y hy=>⟨mono (h.f1 y hy).1,(h.f1 y hy).2⟩,big (fun x hx=>?_) ?_,?_,h.fsh⟩
  ·rcases hAf.mp hf with w | w
   ·exact h.k1 f w
   ·rw [hA7] at w;rw [w];exact ⟨z,a⟩
  ·rcases hAf.mp hf with w | w
   ·exact mono (h.kl f w)
   ·rw [hA7] at w;rw [w];exact c
  ·rw [Ech,hAz]
   refine ⟨h.k2,hCp _ _,fun x hx y hy=>?_⟩
   rw [hA7] at hy;rw [hy];exact e x hx
  ·refine .mem ?_
   rw [hAa]
   rcases hAf.mp hx with w | w
   ·exact hAm _ w
   ·exact hA6 _ (hAm _ w)
  ·refine .mem (hA6 _ ?_)
   rw [hAa];simp
  ·rw [hAc]
   have:=h.len
   show F.length+(K.length+1)=j+1
   omega
theorem EIv.done {V:Nat->Nat} {m:Nat} {K:List (Nat×Nat)} {F:List Nat} (h:EIv V m m K F) (y:Nat):Spn F y↔y<2^m/\bd V m y=0:=by
 have bF:∀ {a},Spn F a->bd V m a=0:=fun {a} ha=>by
  induction ha with
  | zero=>exact qD9 V m
  | add hm _ ih=>rw [qCj,(h.f1 _ hm).2,ih];rfl
 constructor
 ·intro hy
  exact ⟨Spn.lt (fun x hx=>(h.f1 x hx).1) hy,bF hy⟩
 ·rintro ⟨h1,h2⟩
  obtain ⟨a,b,ha,hb,rfl⟩:=qF4 (h.cov y h1)
  rw [qCj,bF ha,hD7] at h2
  have:b=0:=ech_zero V m h.k2 h.k1 hb fun f hf=>by rw [h2];simp
  rw [this,Nat.xor_zero];exact ha
theorem EIv.none {V:Nat->Nat} {m j:Nat} {K:List (Nat×Nat)} {F:List Nat} (h:EIv V m j K F) (hj:j<m) {y:Nat} (hy:y<2^j) (e:bd V m y=V j):(el K (V j,2^j)).1=0:=by
 obtain ⟨a,b,_,_,d⟩:=h.run hj
 have bF:∀ {a},Spn F a->bd V m a=0:=fun {a} ha=>by
  induction ha with
  | zero=>exact qD9 V m
  | add hm _ ih=>rw [qCj,(h.f1 _ hm).2,ih];rfl
 have c:(el K (V j,2^j)).2^^^2^j<2^j:=Spn.lt (fun x hx=>by
  obtain ⟨f,hf,rfl⟩:=hAb.mp hx
  exact h.kl f hf) b
 have z:bd V m (((el K (V j,2^j)).2^^^2^j)^^^y)=(el K (V j,2^j)).1:=by
  rw [qCj,qCj,bd_pow hj,e,<-a,qA0]
 obtain ⟨u,v,hu,hv,ez⟩:=qF4 (h.cov _ (hCl c hy))
 rw [ez,qCj,bF hu,hD7] at z
 have:v=0:=ech_zero V m h.k2 h.k1 hv fun f hf=>by rw [z];exact d f hf
 rw [<-z,this,qD9]
end My
namespace L2
open PySem PySem.Spec PyProof.Rows
section
variable {X:Cx}
theorem ints_of {ns:List Int}:∀ {us:List Value},qA6 (ns.map V.int) us->∃ xs:List (Int×Tok),us=xs.map (fun p=>Value.int p.1 p.2)/\xs.map (·.1)=ns:=by
 induction ns with
 | nil=>intro us r;cases r;exact ⟨[],rfl,rfl⟩
 | cons a l ih =>
  intro us r
  cases r with
  | cons r rr =>
   obtain ⟨t,rfl⟩:=r
   obtain ⟨xs,rfl,rfl⟩:=ih rr
   exact ⟨(a,t) :: xs,rfl,rfl⟩
theorem call_sumI (hc:X.calm=true):qBq X (.builtin "sum") (fun xs H Q=>∃ (p:Addr) (ns:List Int),xs=[.ref p]/\SqL X.K H p (ns.map V.int)/\Q (.int ns.sum) H):=by
 intro pins s σ H xs us Q I r h
 obtain ⟨p,ns,rfl,hq,q⟩:=h
 obtain ⟨u,rfl,rx⟩:=qCa r
 cases rx
 obtain ⟨its,rv,pl,hz⟩:=I.list hq
 obtain ⟨ys,rfl,rfl⟩:=ints_of rv
 have e:(ys.map (fun p=>Value.int p.1 p.2)).toArray=intItems ys.toArray:=by unfold intItems;simp
 have pl':=pl.isList
 rw [e] at pl'
 refine sum_intListG (I.ok.hd hc) pl' fun h' tk t' hk=>⟨.int _,H,I.kept (t':=tk) hk,⟨t',rfl⟩,?_⟩
 rw [preSum_eq,hA8 (by simp)]
 exact q
theorem qFn {ns:List Int}:∀ {us:List Value},qA6 (ns.map V.int) us->IntsAre us ns:=by
 induction ns with
 | nil=>intro us r;cases r;exact .nil
 | cons a l ih =>
  intro us r
  cases r with
  | cons r rr =>
   obtain ⟨t,rfl⟩:=r
   exact .cons a t (ih rr)
theorem of_intsAre {ns:List Int}:∀ {us:List Value},IntsAre us ns->qA6 (ns.map V.int) us:=by
 induction ns with
 | nil=>intro us r;cases r;exact .nil
 | cons a l ih =>
  intro us r
  cases r with
  | cons _ _ r=>exact .cons ⟨_,rfl⟩ (ih r)
def tSortRev (K:PySem.W.Frag) (t:TA):TE:=fun σ H Q=>t σ H fun vs H1=>∃ (p:Addr) (ns:List Int),vs=[.ref p]/\SqL K H1 p (ns.map V.int)/\ns.length<64/\∀ (r:Addr) (ns':List Int),H1 r=none->ns'.Perm ns->Ordered true ns'->Q (.ref r) (upd H1 r (.lst (ns'.map V.int)))
theorem pe_sortRev {e:Expr} {t:TA} {p pos kp cp:Pos} {j:Nat} (hg:Gl X "sorted") (hm:X.mg "sorted" = none) (ha:PA X [e] t)
  (he:backTo pos (starEach [e] X.env)=(false,eval e X.env) :: backTo pos (starEach [] X.env):=by rfl)
  (hplain:(backTo pos (starEach [e] X.env)).any (·.1)=false:=by rfl):PE X (.Call (.Name "sorted" p) [e] [⟨some "reverse",.Constant (.bool true) j cp,kp⟩] pos) (tSortRev X.K t):=by
 intro pins s σ H Q I h
 refine wpAny_Call_Name_kw (qEh I hg hm (by decide +kernel:bootBuiltins "sorted" = some (.builtin "sorted")) ?_ (by decide) (by decide))
 refine PyProof.Rows.callWith_kw (thn (ha pos pins s σ H _ I h) fun us s1 ⟨vs,H1,I1,r1,q1⟩=>?_) he hplain
 obtain ⟨a,ns,rfl,hq,h64,q⟩:=q1
 obtain ⟨u,rfl,rx⟩:=qCa r1
 cases rx
 refine PyProof.Rows.kws_cons (Constant_bool (PyProof.Rows.kws_nil ?_))
 obtain ⟨its,rv,pl,hz⟩:=I1.list hq
 have hl:=rv.length
 rw [hA1] at hl
 refine sorted_ints_rev (b:=true) pl.isList (qFn rv) (by omega) fun out ns' h1 h2 h3=>?_
 obtain ⟨e,he⟩:=sortedAll_at s1.heap its out
 have nz:H1 (s1.heap.objs.size+1)=none:=I1.hok.fresh (hAx _)
 refine ⟨.ref (s1.heap.objs.size+1),_,I1.laid (t':=s1.toks) (a:=s1.heap.objs.size+1) (o:=.lst (ns'.map V.int)) (fun b o eb=>sortedAll_old eb) (hAx _) ?_,rfl,q _ ns' nz h2 h3⟩
 refine ⟨?_,out.toList,e,of_intsAre h1,by simpa using he⟩
 rw [hA1,h2.length_eq]
 exact hBh (qAh (by omega))
def rBits:V->List V->Hp->VK->Prop:=fun x vs H Q=>∃ i:Int,x = .int i/\vs=[]/\Q (.int (Builtin.Int.intBits i:Nat)) H
theorem mt_bits:MtR X "int.bit_length" rBits:=by
 intro pins s σ H x vs v us Q I rx rv h
 obtain ⟨i,rfl,rfl,q⟩:=h
 obtain ⟨t,rfl⟩:=rx
 have hus:=rv.zero
 subst hus
 exact call_int_bit_length ⟨.int _,H,I.tok _,⟨_,rfl⟩,q⟩
end
end L2
namespace L2
open PySem PySem.Spec PyProof.Rows
section
variable {X:Cx}
def iEnum (K:PySem.W.Frag) (ta:TA):TI:=fun σ H R=>ta σ H fun vs H1=>∃ (a:Addr) (xs:List V),vs=[.ref a]/\SqL K H1 a xs/\R (Itp xs.length (fun H=>SqL K H a xs) (fun i=>[.int (i:Nat),xs.getD i .non])) H1
theorem boot_enum:bootBuiltins "enumerate" = some (.type "enumerate"):=by decide +kernel
theorem pi_enum {a:Expr} {ta:TA} {p pos tpos:Pos} {elts:List Expr} {ct:Nat} (hg:Gl X "enumerate") (hm:X.mg "enumerate" = none) (ha:PA X [a] ta) (hs:starEach [a] X.env=[(false,eval a X.env)]:=by rfl) :
  PI X (.Tuple elts ct tpos) (.Call (.Name "enumerate" p) [a] [] pos) (iEnum X.K ta):=by
 intro pins s σ H R I h
 refine Call_ (qEh I hg hm boot_enum (hCu (thn (ha pos pins s σ H _ I h) fun us s1 ⟨vs,H1,I1,r1,q1⟩=>?_) (by rw [hs];rfl) (by rfl)))
 obtain ⟨l,xs,e,hx,q⟩:=q1
 subst e
 obtain ⟨u,rfl,rx⟩:=qCa r1
 cases rx
 obtain ⟨it1,rv1,pl1,hz1⟩:=I1.list hx
 have b1:l<s1.heap.objs.size:=by obtain ⟨o,n,e,_⟩:=pl1;exact Heap.lt_size e
 refine call_enumerate_list pl1.isList fun h1 z1 z2 z3 z7=>?_
 refine wpAny_pyIter_enum z1 ?_
 have hfp:∀ b∈[s1.heap.objs.size+1,s1.heap.objs.size],s1.heap.objs.size<=b:=fun b hb=>by
  simp only [hA9,hCf,or_false] at hb
  rcases hb with rfl | rfl
  ·exact hDa _ _
  ·exact hA5 _
 refine ⟨s1.heap.objs.size+1,[s1.heap.objs.size+1,s1.heap.objs.size],
  fun i h=>(∃ old,IsEnum h (s1.heap.objs.size+1) s1.heap.objs.size i old)/\h.IsListIter s1.heap.objs.size l i,
  _,H1,rfl,I1.kept (t':=s1.toks) z7,
  qF2 (s1.heap.objs.size+1) _ [s1.heap.objs.size+1,s1.heap.objs.size,l] [s1.heap.objs.size+1,s1.heap.objs.size] _ _ _ _ (by simp) (fun b hb=>hb) (fun i h st b hb=>?_) (fun i h h' st k=>?_) (fun i=>by show 2<=sizeLine;decide) ?_ (fun A i s' Q E st hQ=>by
   obtain ⟨⟨old,he⟩,_⟩:=st
   exact wpAny_pyIter_enum he hQ),
  ⟨⟨_,z1⟩,z2⟩,fun b hb=>I1.fpOk (hfp b hb) (I1.hok.fresh (hfp b hb)),q⟩
 ·obtain ⟨⟨old,a1⟩,⟨o4,a4,c4,d4⟩⟩:=st
  simp only [hA9,hCf,or_false] at hb
  rcases hb with rfl | rfl
  ·exact ⟨_,a1,fun v z=>by cases z⟩
  ·exact ⟨_,a4,fun v z=>by rw [d4] at z;cases z⟩
 ·obtain ⟨⟨old,a1⟩,a4⟩:=st
  exact ⟨⟨old,k _ (by simp) _ a1⟩,a4.at fun o e=>k _ (by simp) o e⟩
 ·intro X' hP hw hK hc pins' s' σ' H' I' hL
  rw [<-hK] at hL
  obtain ⟨jt1,sv1,ql1,_⟩:=I'.list hL
  have m1:=sv1.length
  have ne1:l≠s1.heap.objs.size:=hAk b1
  have Wz:=WalksT.enumerateD (A:=X'.A) (Draws.list (prog:=X.prog) (w:=X.w) (A:=X'.A.in1) (I'.ok.hd hc) s1.heap.objs.size l ne1 jt1.toArray) (s1.heap.objs.size+1) (Nat.succ_ne_self _) (fun z=>by
   simp only [hA9,hCf,or_false] at z
   rcases z with z | z
   ·exact Nat.succ_ne_self _ z
   ·exact absurd b1 (by rw [<-z];exact Nat.not_lt_of_le (hAx _))) (by simp)
  rw [show jt1.toArray.size=xs.length by show jt1.length=_;rw [m1]] at Wz
  refine ⟨_,_,_,Wz,fun i st=>?_,fun i h st=>?_,fun i vals pv=>?_⟩
  ·exact ⟨st.1,st.2,ql1.isList⟩
  ·exact ⟨st.1,st.2.1⟩
  ·obtain ⟨t,x,e1,rfl⟩:=pv
   have e1:jt1[i]?=some x:=by simpa using e1
   have c1:i<xs.length:=by rw [m1];exact (hAp.mp e1).1
   obtain ⟨u,d1,d2⟩:=sv1.get (hA3 c1)
   rw [e1] at d1
   cases d1
   show qA6 [.int (i:Nat),xs.getD i .non] [.int i t,x]
   rw [hAe,hA3 c1]
   exact .cons ⟨t,rfl⟩ (.cons d2 .nil)
end
end L2
namespace My
open PySem L2
abbrev iV (n:Nat):V:=.int (n:Int)
def LsN (H:Hp) (a:Addr) (ms:List Nat):Prop:=H a=some (.lst (ms.map iV))
theorem boot_min':bootBuiltins "min" = some (.builtin "min"):=by decide +kernel
theorem boot_sum':bootBuiltins "sum" = some (.builtin "sum"):=by decide +kernel
theorem str_get {as:List Str} {i:Nat} {x:V} (e:(as.map V.str)[i]?=some x):∃ a,x = .str a/\as[i]?=some a:=by
 rw [hAj] at e
 cases ha:as[i]? with
 | none=>rw [ha] at e;cases e
 | some a=>rw [ha] at e;exact ⟨a,(hAs e).symm,rfl⟩
theorem qFb {as:List Addr} {i:Nat} {x:V} (e:(as.map V.ref)[i]?=some x):∃ a,x = .ref a/\as[i]?=some a:=by
 rw [hAj] at e
 cases ha:as[i]? with
 | none=>rw [ha] at e;cases e
 | some a=>rw [ha] at e;exact ⟨a,(hAs e).symm,rfl⟩
theorem qCv {ms:List Nat} {i:Nat} {x:V} (e:(ms.map iV)[i]?=some x):∃ n,x=iV n/\ms[i]?=some n:=by
 rw [hAj] at e
 cases ha:ms[i]? with
 | none=>rw [ha] at e;cases e
 | some a=>rw [ha] at e;exact ⟨a,(hAs e).symm,rfl⟩
theorem qD6 (ms:List Nat):ms.map iV=(ms.map fun n:Nat=>(n:Int)).map V.int:=by rw [hB4];rfl
def maskF (names row:List Str):Nat:=names.foldl (fun m n=>2*m+(if n∈row then 1 else 0)) 0
theorem qD5 (names row:List Str) (n:Str):maskF (names++[n]) row=2*maskF names row+(if n∈row then 1 else 0):=by unfold maskF;rw [hCg];rfl
theorem qB5 (row:List Str) (names:List Str):∀ j,(maskF names row).testBit j=(decide (j<names.length) && decide (∃ n,names[names.length - 1 - j]?=some n/\n∈row)):=by
 refine qBo (P:=fun names=>∀ j,(maskF names row).testBit j=(decide (j<names.length) && decide (∃ n,names[names.length - 1 - j]?=some n/\n∈row))) (fun j=>by simp [maskF]) (fun l n ih j=>?_) names
 rw [qD5,hAc]
 show _=(decide (j<l.length+1) && decide (∃ m,(l++[n])[l.length+1 - 1 - j]?=some m/\m∈row))
 cases j with
 | zero =>
  rw [hB5,decide_eq_true (by omega:0<l.length+1),hCy]
  refine decide_eq_decide.mpr ?_
  rw [show l.length+1 - 1 - 0=l.length by omega,hC2 (hA5 _)]
  simp
  by_cases h:n∈row
  ·simp [h]
  ·simp [h]
 | succ j =>
  rw [Nat.testBit_succ,show (2*maskF l row+(if n∈row then 1 else 0)) / 2=maskF l row by split <;> omega,ih j]
  by_cases hj:j<l.length
  ·rw [decide_eq_true hj,decide_eq_true (by omega:j+1<l.length+1),show l.length+1 - 1 - (j+1)=l.length - 1 - j by omega,hBp (by omega)]
  ·rw [decide_eq_false hj,decide_eq_false (by omega:¬j+1<l.length+1)];rfl
theorem qDo (names row:List Str):maskF names row<2^names.length:=hC7 _ fun i hi=>by rw [qB5,decide_eq_false (by omega)];rfl
def spMask:Sp:=fun vs H Q _=>∃ (pn pr:Addr) (names row:List Str),vs=[.ref pn,.ref pr]/\LsS H pn names/\LsS H pr row/\Q (iV (maskF names row)) H
def rowM (names:List Str) (x:Nat):List Str:=(List.range names.length).filterMap fun i=>if x.testBit (names.length - 1 - i)=true then names[i]? else none
def spRowOf:Sp:=fun vs H Q _=>∃ (pn:Addr) (names:List Str) (x:Nat),vs=[.ref pn,iV x]/\LsS H pn names/\names.length<=12/\∀ r H',Ext H H'->H r=none->LsS H' r (rowM names x)->Q (.ref r) H'
theorem shr_one (x k:Nat):Builtin.bitAnd ((x:Int) / 2^k) 1=if x.testBit k=true then 1 else 0:=by
 have e:(x:Int) / 2^k=((x / 2^k:Nat):Int):=by rw [Int.natCast_ediv,Int.natCast_pow];rfl
 have e1:(1:Int)=((1:Nat):Int):=rfl
 rw [e]
 show Builtin.bitAnd _ ((1:Nat):Int)=_
 rw [qCn,Nat.and_one_is_mod,Nat.testBit_eq_decide_div_mod_eq]
 rcases hBe (x / 2^k) with h | h <;> rw [h] <;> rfl
def spLess:Sp:=fun vs H Q _=>∃ (x:Nat) (p:Addr) (k:List Nat),vs=[iV x,.ref p]/\LsN H p k/\(∀ s∈k,s≠0)/\Q (iV (red1 k x)) H
theorem min_int (x:Nat) {s:Nat} (hs:s≠0):(if Builtin.bitXor (x:Int) (s:Int)<(x:Int) then Builtin.bitXor (x:Int) (s:Int) else (x:Int))=((rd1 x s:Nat):Int):=by
 rw [bxor_nat,<-min_rd1 x hs]
 by_cases h:x^^^s<x
 ·rw [if_pos h,if_pos (by omega)]
 ·rw [if_neg h,if_neg (by omega)]
def spRedu:Sp:=fun vs H Q _=>∃ (p:Addr) (ms:List Nat),vs=[.ref p]/\LsN H p ms/\ms.length<=24/\∀ (r:Addr) (M:List Nat) (H':Hp),Ext H H'->H r=none->LsN H' r M->M.Perm (red ms)->M.Pairwise (fun a b=>b<=a)->Q (.ref r) H'
def spLead:Sp:=fun vs H Q _=>∃ x:Nat,vs=[iV x]/\x≠0/\x<2^24/\Q (iV (2^x.log2)) H
theorem redS_len (k:List Nat) (x:Nat):(redS k x).length<=k.length+1:=by
 unfold redS
 split
 ·omega
 ·rw [hAc,hA1];exact hA5 _
theorem red_le (xs:List Nat):(red xs).length<=xs.length:=by
 refine qFw (P:=fun xs=>(red xs).length<=xs.length) (hA5 _) (fun l t ih=>?_) xs
 rw [qC1,hAc]
 have:=redS_len (red l) t
 show _<=l.length+1
 omega
section
variable {P:Program} {w:World} {K:PySem.W.Frag} {mg:Str->Option Value} {base:Heap} {f f1 f2:Addr} {fd fd1 fd2:FuncData}
abbrev maN:List Str:=["names","row","mask","name"]
theorem scMask:FnScope maN ["names","row"] (qAb sMask):=⟨rfl,rfl,rfl,by decide +kernel,rfl,by decide +kernel,by decide +kernel⟩
theorem ok_mask (F:Fun K "mask_of" "mask_of" sMask f fd):FnOk P w K mg base CX0 1 f fd ["names","row"] spMask:=by
 refine F.ok scMask (fun vs H Q E h=>?_) (fun cdv A outer s H vs Q E hr h=>?_)
 ·obtain ⟨pn,pr,names,row,rfl,_⟩:=h
  rfl
 obtain ⟨pn,pr,names,row,rfl,hn,hw,q⟩:=h
 refine ⟨_,pss_cons (qAp (i:=2) scMask.nd rfl (Or.inl rfl) qAg)
  (pss_cons (qBs PassesOwn.never rfl (qAs (pv 0)) (qAf (i:=3) scMask.nd rfl (Or.inl rfl))
   (qAi (qAp (i:=2) scMask.nd rfl (Or.inl rfl) (qAo qBv (qAo qDl qAg (pv 2)) (qEt (qAu qFh (pv 3) (pv 1) (by with_unfolding_all rfl)) qAg qAg)))))
  (qAi (qAv (pv 2)))),?_⟩
 refine ⟨_,rfl,pn,rfl,⟨_,SqL.of hn⟩,?_⟩
 refine qBz (xs:=names.map V.str) (fun i σ H'=>H'=H/\∃ x3:Option V,σ=[some (.ref pn),some (.ref pr),some (iV (maskF (names.take i) row)),x3]) ⟨rfl,none,rfl⟩ (fun i σ H' _ h=>by rw [h.1];exact SqL.of hn) ?_ ?_
 ·rintro i x σ H' hx ⟨rfl,x3,rfl⟩
  obtain ⟨y,rfl,hy⟩:=str_get hx
  refine ⟨_,rfl,_,_,rfl,rfl,.inl ⟨by decide,by decide⟩,_,rfl,_,rfl,pr,_,rfl,.inl (SqL.of hw),rfl,qFp _,_,rfl,?_⟩
  rw [if_neg (by decide),inV_str]
  refine qFl (fun c=>?_) (fun c=>?_)
  ·have c':y∈row:=by simpa using c
   refine ⟨_,_,rfl,rfl,rfl,some (.str y),?_⟩
   rw [show iV (maskF (names.take (i+1)) row)=V.int (2*((maskF (names.take i) row:Nat):Int)+1) by rw [qAj hy,qD5,if_pos c'];rfl]
   rfl
  ·have c':¬y∈row:=by simpa using c
   refine ⟨_,_,rfl,rfl,rfl,some (.str y),?_⟩
   rw [show iV (maskF (names.take (i+1)) row)=V.int (2*((maskF (names.take i) row:Nat):Int)+0) by rw [qAj hy,qD5,if_neg c'];rfl]
   rfl
 ·rintro σ H' ⟨rfl,x3,rfl⟩
  rw [hA1,hA8 (hA5 _)]
  exact ⟨_,rfl,q⟩
theorem scRowOf:FnScope ["names","mask","last"] ["names","mask"] (qAb qE7):=⟨rfl,rfl,rfl,by decide +kernel,rfl,by decide +kernel,by decide +kernel⟩
abbrev roN:List Str:=["at","name","mask","last"]
theorem ok_rowOf (F:Fun K "row_of" "row_of" qE7 f fd) (ml:mg "len" = none) (me:mg "enumerate" = none):FnOk P w K mg base CX0 1 f fd ["names","mask"] spRowOf:=by
 refine F.ok scRowOf (fun vs H Q E h=>?_) (fun cdv A outer s H vs Q E hr h=>?_)
 ·obtain ⟨pn,names,x,rfl,_⟩:=h
  rfl
 obtain ⟨pn,names,x,rfl,hn,ln,q⟩:=h
 refine ⟨_,pss_cons (qAp (i:=2) scRowOf.nd rfl (Or.inr rfl) (qAo op_sub (qAn qAw rfl ml hBz (qAa (pv 0) qAc)) qAg))
  (qAi (qAv (pe_lc (N:=["names","mask","last"]) (sc:=qAb qE7) (N':=roN) (sub:=[none,none,some 1,some 2]) rfl rfl (CmpOk.of (by decide +kernel)) rfl (pi_enum rfl me (qAa (pv 0) qAc))
   (fun C s H fp=>⟨(show PG _ _ (gTup K 2 _) from qBt rfl (qAk (qAf (i:=0) (by show roN.Nodup;decide) rfl (Or.inl rfl)) (qAk (qAf (i:=1) (by show roN.Nodup;decide) rfl (Or.inl rfl)) qBe))),
    qDd (qAu qDm (qAo op_and (qAo op_shr (pv 2) (qAo op_sub (pv 3) (pv 0))) qAg) qAg (qA1 _)),pv 1⟩)))),?_⟩
 refine ⟨_,rfl,pn,_,rfl,.inl (SqL.of hn),_,_,rfl,rfl,?_⟩
 refine ⟨_,rfl,pn,_,rfl,SqL.of hn,?_⟩
 rw [hA1]
 refine turns_tup (fun i ys H'=>Ext H H'/\ys=((List.range i).filterMap fun i=>if x.testBit (names.length - 1 - i)=true then names[i]? else none).map V.str) ⟨Ext.refl _,rfl⟩ (fun i ys H' _ p=>SqL.of (p.1 _ _ hn)) ?_ ?_
 ·rintro i ys H' T hi ⟨e,rfl⟩ hT
  have gd:(names.map V.str).getD i .non = .str names[i]:=by rw [hAe,hAj,hA3 hi];rfl
  have e2:=e.trans (Ext.new hT (.tup [V.int (i:Nat),(names.map V.str).getD i .non]))
  refine ⟨T,_,rfl,SqT.of upd_same,rfl,_,_,rfl,_,_,rfl,rfl,?_⟩
  refine ⟨Sle.set _ (Sle.set _ (Sle.refl _) (fun u z=>by cases z)) (fun u z=>by cases z),?_⟩
  have k:(((names.length:Nat):Int) - 1 - (i:Nat))=((names.length - 1 - i:Nat):Int):=by omega
  refine ⟨_,rfl,_,rfl,_,rfl,_,_,rfl,rfl,_,_,rfl,rfl,(by show (0:Int)<=_;omega),_,_,rfl,rfl,rfl,_,rfl,?_⟩
  have fm:((List.range (i+1)).filterMap fun i=>if x.testBit (names.length - 1 - i)=true then names[i]? else none)=((List.range i).filterMap fun i=>if x.testBit (names.length - 1 - i)=true then names[i]? else none)++(if x.testBit (names.length - 1 - i)=true then [names[i]] else []):=by
   rw [List.range_succ,List.filterMap_append]
   congr 1
   by_cases b:x.testBit (names.length - 1 - i)=true
   ·simp [b,hA3 hi]
   ·simp [b]
  have sz:=List.length_filterMap_le (fun i=>if x.testBit (names.length - 1 - i)=true then names[i]? else none) (List.range i)
  rw [hCr] at sz
  have key:(decide (V.int (Builtin.bitAnd ((x:Int) / 2^(((names.length:Nat):Int) - 1 - (i:Nat)).toNat) 1)=V.int 1)=true)↔x.testBit (names.length - 1 - i)=true:=by
   rw [decide_eq_true_iff,V.int.injEq,k,hCq,shr_one]
   by_cases b:x.testBit (names.length - 1 - i)=true
   ·simp [b]
   ·simp [b]
  refine qFl (fun c=>?_) (fun c=>?_)
  ·have b:=key.mp c
   refine ⟨_,rfl,by rw [hA1];exact qAh (by omega),nxt hi ⟨e2,?_⟩⟩
   rw [fm,if_pos b,hAa,gd];rfl
  ·have b:¬x.testBit (names.length - 1 - i)=true:=fun z=>c (key.mpr z)
   refine nxt hi ⟨e2,?_⟩
   rw [fm,if_neg b,hC5]
 ·rintro ys H' ⟨e,rfl⟩ r hr'
  exact q r _ (e.trans (Ext.new hr' _)) (e.none hr') upd_same
theorem scLess:FnScope ["mask","kept","step"] ["mask","kept"] (qAb sLess):=⟨rfl,rfl,rfl,by decide +kernel,rfl,by decide +kernel,by decide +kernel⟩
theorem ok_less (F:Fun K "lessened" "lessened" sLess f fd) (mmi:mg "min" = none):FnOk P w K mg base CX0 1 f fd ["mask","kept"] spLess:=by
 refine F.ok scLess (fun vs H Q E h=>?_) (fun cdv A outer s H vs Q E hr h=>?_)
 ·obtain ⟨x,p,k,rfl,_⟩:=h
  rfl
 obtain ⟨x,p,k,rfl,hk,nz,q⟩:=h
 refine ⟨_,pss_cons (qBs PassesOwn.never rfl (qAs (pv 1)) (qAf (i:=2) scLess.nd rfl (Or.inl rfl))
   (qAi (qAp (i:=0) scLess.nd rfl (Or.inl rfl) (qAn (call_min2 rfl) rfl mmi boot_min' (qAa (pv 0) (qAa (qAo op_xor (pv 0) (pv 2)) qAc))))))
  (qAi (qAv (pv 0))),?_⟩
 refine ⟨_,rfl,p,rfl,⟨_,SqL.of hk⟩,?_⟩
 refine qBz (xs:=k.map iV) (fun i σ H'=>H'=H/\∃ x2:Option V,σ=[some (iV (red1 (k.take i) x)),some (.ref p),x2]) ⟨rfl,none,rfl⟩ (fun i σ H' _ h=>by rw [h.1];exact SqL.of hk) ?_ ?_
 ·rintro i v σ H' hx ⟨rfl,x2,rfl⟩
  obtain ⟨s,rfl,hs⟩:=qCv hx
  refine ⟨_,rfl,_,rfl,_,rfl,_,_,rfl,rfl,_,_,rfl,rfl,some (iV s),?_⟩
  rw [min_int _ (nz s (hAr hs)),show red1 (k.take (i+1)) x=rd1 (red1 (k.take i) x) s by rw [qAj hs];unfold red1;rw [hCg];rfl]
  rfl
 ·rintro σ H' ⟨rfl,x2,rfl⟩
  rw [hA1,hA8 (hA5 _)]
  exact ⟨_,rfl,q⟩
theorem scRedu:FnScope ["masks","kept","mask","fresh"] ["masks"] (qAb sRedu):=⟨rfl,rfl,rfl,by decide +kernel,rfl,by decide +kernel,by decide +kernel⟩
theorem ok_redu (F:Fun K "reduced" "reduced" sRedu f fd) (G:FnOk P w K mg base CX0 1 f1 fd1 ["mask","kept"] spLess) (bG:qA7 K fd1 ["mask","kept"] []) (kG:PySem.W.keepIn K (.ref f1)=true) (mG:mg "lessened" = some (.ref f1)) (mmi:mg "min" = none) (mso:mg "sorted" = none):FnOk P w K mg base CX0 2 f fd ["masks"] spRedu:=by
 refine F.ok scRedu (fun vs H Q E h=>?_) (fun cdv A outer s H vs Q E hr h=>?_)
 ·obtain ⟨p,ms,rfl,_⟩:=h
  rfl
 obtain ⟨p,ms,rfl,hp,lm,q⟩:=h
 refine ⟨_,pss_cons (qAp (i:=1) scRedu.nd rfl (Or.inl rfl) (qCh qAc))
  (pss_cons (qBs PassesOwn.never rfl (qAs (pv 0)) (qAf (i:=2) scRedu.nd rfl (Or.inl rfl))
   (pss_cons (qAp (i:=3) scRedu.nd rfl (Or.inr rfl) (qAl G hr rfl mG kG bG .nil qA5 (qAa (pv 2) (qAa (pv 1) qAc))))
   (qAi (qD1 (qAu op_ne (pv 3) qAg (qA1 _))
    (qAi (qAp (i:=1) scRedu.nd rfl (Or.inl rfl) (qAo op_cat (pe_lc (N:=["masks","kept","mask","fresh"]) (sc:=qAb sRedu) (N':=["step","fresh"]) (sub:=[none,some 3]) rfl rfl (CmpOk.of (by decide +kernel)) rfl (qAs (pv 1))
     (fun C s H fp=>⟨qAf (i:=0) (by show (["step","fresh"]:List Str).Nodup;decide) rfl (Or.inl rfl),qA4,qAn (call_min2 rfl) rfl mmi boot_min' (qAa (pv 0) (qAa (qAo op_xor (pv 0) (pv 1)) qAc))⟩)) (qCh (qAa (pv 3) qAc)))))
    qBr))))
  (qAi (qAv (pe_sortRev rfl mso (qAa (pv 1) qAc))))),?_⟩
 refine ⟨hAt _,fun ke ke0=>?_⟩
 have X0:=Ext.new ke0 (.lst [])
 refine ⟨_,rfl,p,rfl,⟨_,SqL.of (X0 _ _ hp)⟩,?_⟩
 refine qBz (xs:=ms.map iV) (fun i σ H'=>∃ (ke:Addr) (x2 x3:Option V),σ=[some (.ref p),some (.ref ke),x2,x3]/\Ext H H'/\LsN H' ke (red (ms.take i))) ⟨ke,none,none,rfl,X0,upd_same⟩ (fun i σ H' _ h=>by obtain ⟨_,_,_,_,e,_⟩:=h;exact SqL.of (e _ _ hp)) ?_ ?_
 ·rintro i v σ H' hx ⟨ke,x2,x3,rfl,e,hk⟩
  obtain ⟨m,rfl,hm⟩:=qCv hx
  have hi:i<ms.length:=qAx hm
  have rr:=qC8 (ms.take i)
  have lr:=red_le (ms.take i)
  rw [hAh] at lr
  refine ⟨_,rfl,_,rfl,m,ke,_,rfl,hk,rr.nz,?_⟩
  have sn:red (ms.take (i+1))=redS (red (ms.take i)) m:=by rw [qAj hm,qC1]
  refine ⟨_,rfl,rfl,_,rfl,?_⟩
  refine qFl (fun c=>?_) (fun c=>?_)
  ·have c':red1 (red (ms.take i)) m≠0:=fun z=>by rw [z] at c;simp at c
   refine ⟨_,rfl,ke,rfl,⟨_,SqL.of hk⟩,?_⟩
   refine qAr (xs:=(red (ms.take i)).map iV) (fun j ys H2=>H2=H'/\ys=(((red (ms.take i)).take j).map fun s=>rd1 s (red1 (red (ms.take i)) m)).map iV) ⟨rfl,rfl⟩ (fun j ys H2 _ h=>by rw [h.1];exact SqL.of hk) ?_ ?_
   ·rintro j x ys H2 hx2 ⟨rfl,rfl⟩
    obtain ⟨s,rfl,hs⟩:=qCv hx2
    have hj:=qAx hs
    refine ⟨Sle.set _ (Sle.refl _) (fun u z=>by cases z),iteT (B:=False) ⟨_,rfl,_,rfl,_,rfl,_,_,rfl,rfl,_,_,rfl,?_,nxt (qAx hx2) ⟨rfl,?_⟩⟩⟩
    ·rw [hA1,hA1,hAh];exact qAh (by omega)
    ·rw [min_int _ c',qAj hs,hAa,hAa];rfl
   ·rintro ys H2 ⟨rfl,rfl⟩ l hl
    rw [hA1,hA8 (hA5 _)]
    have n1:=Ext.new hl (.lst (((red (ms.take i)).map fun s=>rd1 s (red1 (red (ms.take i)) m)).map iV))
    refine ⟨_,rfl,(by show 1<=sizeLine;decide),fun l2 hl2=>?_⟩
    have n2:=Ext.new hl2 (.lst [iV (red1 (red (ms.take i)) m)])
    refine ⟨l,l2,_,_,rfl,rfl,n2 _ _ upd_same,upd_same,?_,fun l3 hl3=>?_⟩
    ·rw [hA1,hA1]
     show _+1<=sizeLine
     exact hBh (qAh (by omega))
    ·refine ⟨l3,_,_,rfl,((e.trans n1).trans n2).trans (Ext.new hl3 _),?_⟩
     rw [sn]
     unfold redS LsN
     rw [if_neg c',upd_same,hAa]
     rfl
  ·have c':red1 (red (ms.take i)) m=0:=by
    have:(red1 (red (ms.take i)) m:Int)=0:=by simpa using c
    omega
   refine ⟨ke,_,_,rfl,e,?_⟩
   rw [sn]
   unfold redS
   rw [if_pos c']
   exact hk
 ·rintro σ H' ⟨ke,x2,x3,rfl,e,hk⟩
  rw [hA1,hA8 (hA5 _)] at hk
  have lr:=red_le ms
  refine ⟨_,rfl,ke,(red ms).map (fun n:Nat=>(n:Int)),rfl,by rw [<-qD6];exact SqL.of hk,by rw [hA1];omega,fun r ns hr' pm od=>?_⟩
  have od':ns.Pairwise fun a b=>a >= b:=od
  obtain ⟨M,rfl⟩:∃ M:List Nat,ns=M.map (fun n:Nat=>(n:Int)):=by
   refine ⟨ns.map Int.toNat,?_⟩
   rw [hB4]
   refine (List.map_id _).symm.trans (hBy fun a ha=>?_)
   obtain ⟨n,_,rfl⟩:=hAb.mp (pm.mem_iff.mp ha)
   simp
  have pm':M.Perm (red ms):=by
   have:=pm.map Int.toNat
   rw [hB4,hB4] at this
   have idn:(Int.toNat∘fun n:Nat=>(n:Int))=id:=by funext n;simp
   rw [idn,List.map_id,List.map_id] at this
   exact this
  refine q r M _ (e.trans (Ext.new hr' _)) (e.none hr') (by unfold LsN;rw [upd_same,qD6]) pm' ?_
  rw [hBt] at od'
  exact List.Pairwise.imp (fun {a b} h=>by omega) od'
theorem scLead:FnScope ["mask"] ["mask"] (qAb sLead):=⟨rfl,rfl,rfl,by decide +kernel,rfl,by decide +kernel,by decide +kernel⟩
theorem ok_lead (F:Fun K "lead_of" "lead_of" sLead f fd):FnOk P w K mg base CX0 1 f fd ["mask"] spLead:=by
 refine F.ok scLead (fun vs H Q E h=>?_) (fun cdv A outer s H vs Q E hr h=>?_)
 ·obtain ⟨x,rfl,_⟩:=h
  rfl
 obtain ⟨x,rfl,nz,lt,q⟩:=h
 refine ⟨_,qAi (qAv (qAo op_shl qAg (qAo op_sub (pe_bm0 PySem.F.plainAttrs_int PySem.F.slot_int_bit_length PySem.F.type_int_bit_length mt_bits (pv 0)) qAg))),?_⟩
 have l24:x.log2<24:=(Nat.log2_lt nz).mpr lt
 have ib:Builtin.Int.intBits (x:Int)=x.log2+1:=by
  unfold Builtin.Int.intBits
  rw [if_neg (by simpa using nz)]
  simp
 refine ⟨_,rfl,rfl,x,rfl,rfl,_,_,rfl,rfl,_,_,rfl,rfl,?_⟩
 rw [ib]
 have e:((x.log2+1:Nat):Int) - 1=(x.log2:Nat):=by omega
 rw [e]
 refine ⟨⟨by omega,by omega,by decide⟩,?_⟩
 dsimp only
 rw [hCq,Int.one_mul]
 have p2:((2:Int)^x.log2)=((2^x.log2:Nat):Int):=by rw [Int.natCast_pow];rfl
 rw [p2]
 exact q
end
end My
namespace My
open PySem L2
theorem RR.perm {a b:List Nat} (h:RR a) (p:b.Perm a):RR b:=⟨fun s hs=>h.nz s (p.mem_iff.mp hs),(p.pairwise_iff (fun {x y} z=>⟨z.2,z.1⟩)).mpr h.ap⟩
theorem sum_cast:∀ l:List Nat,(l.map fun n:Nat=>(n:Int)).sum=((l.sum:Nat):Int)
 | []=>rfl
 | a :: l=>by rw [hAl,hCj,hCj,sum_cast l];omega
theorem shl_nat (p:Nat):(1:Int)*2^((p:Int)).toNat=((2^p:Nat):Int):=by
 rw [hCq,Int.one_mul,Int.natCast_pow];rfl
def spCrM:Sp:=fun vs H Q _=>∃ (p:Addr) (S:List Nat) (m:Nat),vs=[.ref p,iV m]/\LsN H p S/\RR S/\(∀ s∈S,s<2^m)/\m<=12/\S.length<=24/\∀ r H',Ext H H'->H r=none->LsN H' r (qCx S m)->Q (.ref r) H'
def TabIn (H:Hp) (T:Addr) (names:List Str) (rows:List (List Str)):Prop:=∃ a b,H T=some (.tup [.ref a,.ref b])/\LsS H a names/\RowsAt H b rows
def TabF (H0 H:Hp) (T:Addr) (names:List Str) (rows:List (List Str)):Prop:=∃ a b,H T=some (.tup [.ref a,.ref b])/\LsS H a names/\H0 a=none/\RowsY H0 H b rows/\H0 b=none
theorem TabF.tin {H0 H:Hp} {T:Addr} {names:List Str} {rows:List (List Str)} (h:TabF H0 H T names rows):TabIn H T names rows:=by
 obtain ⟨a,b,h1,h2,h3,h4,h5⟩:=h
 exact ⟨a,b,h1,h2,h4.rows⟩
theorem TabF.down {H0 H1 H:Hp} {T:Addr} {names:List Str} {rows:List (List Str)} (h:TabF H1 H T names rows) (e:Ext H0 H1):TabF H0 H T names rows:=by
 obtain ⟨a,b,h1,h2,h3,⟨as,h4,h6⟩,h5⟩:=h
 exact ⟨a,b,h1,h2,e.none h3,⟨as,h4,Paired.mapP h6 fun a r z=>⟨z.1,e.none z.2.1,z.2.2⟩⟩,e.none h5⟩
def spTabF:Sp:=fun vs H Q _=>∃ (pn pm:Addr) (names:List Str) (ms:List Nat),vs=[.ref pn,.ref pm]/\LsS H pn names/\names.length<=12/\LsN H pm ms/\ms.length<=24/\∀ (T:Addr) (M:List Nat) (H':Hp),Ext H H'->H T=none->TabF H H' T names (M.map (rowM names))->M.Perm (red ms)->M.Pairwise (fun a b=>b<=a)->Q (.ref T) H'
def spStepM:Sp:=fun vs H Q _=>∃ (T:Addr) (names:List Str) (rows:List (List Str)),vs=[.ref T]/\TabIn H T names rows/\rows.length<=24/\∀ (r:Addr) (M:List Nat) (H':Hp),Ext H H'->H r=none->LsN H' r M->M.Perm (red (rows.map (maskF names)))->M.Pairwise (fun a b=>b<=a)->Q (.ref r) H'
def spCross:Sp:=fun vs H Q _=>∃ (T:Addr) (names:List Str) (rows:List (List Str)),vs=[.ref T]/\TabIn H T names rows/\names.length<=12/\rows.length<=24/\∀ (T':Addr) (S M:List Nat) (H':Hp),Ext H H'->H T'=none->TabF H H' T' names (M.map (rowM names))->S.Perm (red (rows.map (maskF names)))->M.Perm (red (qCx S names.length))->M.Pairwise (fun a b=>b<=a)->Q (.ref T') H'
def spTies:Sp:=fun vs H Q _=>∃ (p:Addr) (net:List Tr),vs=[.ref p]/\qBb H p net/\net.length<=12/\∀ r H',Ext H H'->H r=none->LsS H' r (net.map (·.1))->Q (.ref r) H'
def metF (net:List Tr) (x:Str):List Str:=(net.filter fun t=>decide (t.2.1=x) != decide (t.2.2=x)).map (·.1)
def spMet:Sp:=fun vs H Q _=>∃ (p:Addr) (net:List Tr) (x:Str),vs=[.ref p,.str x]/\qBb H p net/\net.length<=12/\∀ r H',Ext H H'->H r=none->LsS H' r (metF net x)->Q (.ref r) H'
def spTable:Sp:=fun vs H Q _=>∃ (p:Addr) (net:List Tr),vs=[.ref p]/\qBb H p net/\net.length<=12/\∀ (T:Addr) (ps:List Str) (S M:List Nat) (H':Hp),Ext H H'->H T=none->TabF H H' T (net.map (·.1)) (M.map (rowM (net.map (·.1))))->qEa net ps->qFz ps->S.Perm (red (ps.map fun x=>maskF (net.map (·.1)) (metF net x)))->M.Perm (red (qCx S net.length))->M.Pairwise (fun a b=>b<=a)->Q (.ref T) H'
section
variable {P:Program} {w:World} {K:PySem.W.Frag} {mg:Str->Option Value} {base:Heap} {f f1 f2 f3 f4:Addr} {fd fd1 fd2 fd3 fd4:FuncData}
abbrev crN:List Str:=["steps","width","leads","told","place","bit"]
theorem scCrM:FnScope crN ["steps","width"] (qAb sCrM):=⟨rfl,rfl,rfl,by decide +kernel,rfl,by decide +kernel,by decide +kernel⟩
theorem ok_crM (F:Fun K "crossed_masks" "crossed_masks" sCrM f fd) (G:FnOk P w K mg base CX0 1 f1 fd1 ["mask"] spLead) (bG:qA7 K fd1 ["mask"] []) (kG:PySem.W.keepIn K (.ref f1)=true) (mG:mg "lead_of" = some (.ref f1)) (msu:mg "sum" = none) (mr:mg "range" = none):FnOk P w K mg base CX0 2 f fd ["steps","width"] spCrM:=by
 refine F.ok scCrM (fun vs H Q E h=>?_) (fun cdv A outer s H vs Q E hr h=>?_)
 ·obtain ⟨p,S,m,rfl,_⟩:=h
  rfl
 obtain ⟨p,S,m,rfl,hp,rr,lt,m12,lS,q⟩:=h
 refine ⟨_,pss_cons (qAp (i:=2) scCrM.nd rfl (Or.inl rfl) (qAn (call_sumI rfl) rfl msu boot_sum' (qAa (pe_lc (N:=crN) (sc:=qAb sCrM) (N':=["step"]) (sub:=[none]) rfl rfl (CmpOk.of (by decide +kernel)) rfl (qAs (pv 0))
   (fun C s H fp=>⟨qAf (i:=0) (by show (["step"]:List Str).Nodup;decide) rfl (Or.inl rfl),qA4,qAl G hr rfl mG kG bG .nil qA5 (qAa (pv 0) qAc)⟩)) qAc)))
  (pss_cons (qAp (i:=3) scCrM.nd rfl (Or.inl rfl) (qCh qAc))
  (pss_cons (qBs PassesOwn.never rfl (qCg rfl mr (qAa (pv 1) qAc)) (qAf (i:=4) scCrM.nd rfl (Or.inl rfl))
   (pss_cons (qAp (i:=5) scCrM.nd rfl (Or.inr rfl) (qAo op_shl qAg (pv 4)))
   (qAi (qD1 (qAu qDm (qAo op_and (pv 2) (pv 5)) qAg (qA1 _))
    (qAi (qCs (pe_bm hBo hBv hBw qB4 (pv 3) (qAa
     (qAo qBv (pv 5) (qAn (call_sumI rfl) rfl msu boot_sum' (qAa (pe_lc (N:=crN) (sc:=qAb sCrM) (N':=["step","bit"]) (sub:=[none,some 5]) rfl rfl (CmpOk.of (by decide +kernel)) rfl (qAs (pv 0))
      (fun C s H fp=>⟨qAf (i:=0) (by show (["step","bit"]:List Str).Nodup;decide) rfl (Or.inl rfl),qDd (qAu op_ne (qAo op_and (pv 0) (pv 1)) qAg (qA1 _)),qAl G hr rfl mG kG bG .nil qA5 (qAa (pv 0) qAc)⟩)) qAc))) qAc))))
    qBr))))
  (qAi (qAv (pv 3))))),?_⟩
 have l24:∀ s∈S,s<2^24:=fun s hs=>hAi (lt s hs) (hCo (by decide) (by omega))
 refine ⟨_,rfl,p,rfl,⟨_,SqL.of hp⟩,?_⟩
 refine qAr (xs:=S.map iV) (fun j ys H2=>H2=H/\ys=((S.take j).map fun s:Nat=>2^s.log2).map iV) ⟨rfl,rfl⟩ (fun j ys H2 _ h=>by rw [h.1];exact SqL.of hp) ?_ ?_
 ·rintro j v ys H2 hx ⟨rfl,rfl⟩
  obtain ⟨s,rfl,hs⟩:=qCv hx
  have hj:=qAx hs
  have sm:=hAr hs
  refine ⟨Sle.set _ (Sle.refl _) (fun u z=>by cases z),iteT (B:=False) ⟨_,rfl,s,rfl,rr.nz s sm,l24 s sm,?_,nxt (qAx hx) ⟨rfl,?_⟩⟩⟩
  ·rw [hA1,hA1,hAh];exact qAh (by omega)
  ·rw [qAj hs,hAa,hAa];rfl
 rintro ys H2 ⟨rfl,rfl⟩ l1 hl1
 rw [hA1,hA8 (hA5 _)]
 have n1:=Ext.new hl1 (.lst ((S.map fun s:Nat=>2^s.log2).map iV))
 refine ⟨l1,(S.map fun s:Nat=>2^s.log2).map (fun n:Nat=>(n:Int)),rfl,SqL.of (by rw [upd_same,qD6]),?_⟩
 rw [sum_cast]
 refine ⟨hAt _,fun to to1=>?_⟩
 have to0:=n1.none to1
 have n2:=n1.trans (Ext.new to1 (.lst []))
 refine ⟨_,rfl,(m:Int),rfl,by omega,by omega,?_⟩
 refine qCw (lo:=0) (n:=((m:Int)).toNat) (fun i σ H'=>∃ (x4 x5:Option V),σ=[some (.ref p),some (iV m),some (iV (S.map fun s:Nat=>2^s.log2).sum),some (.ref to),x4,x5]/\Ext H2 H'/\LsN H' to (((List.range i).filter fun p=>!decide (isLd S p)).map (crM S))) ⟨none,none,rfl,n2,upd_same⟩ ?_ ?_
 ·rintro i σ H' hi ⟨x4,x5,rfl,e,ht⟩
  have hi':i<m:=by omega
  refine ⟨_,rfl,_,_,rfl,rfl,⟨by omega,by omega,by decide⟩,?_⟩
  have bv:(fun i j:Int=>V.int (i*2^j.toNat)) 1 (0+(i:Int))=iV (2^i):=by
   show V.int (1*2^(0+(i:Int)).toNat)=_
   rw [show (0+(i:Int))=(i:Nat) by omega,shl_nat]
  rw [bv]
  have sn:((List.range (i+1)).filter fun p=>!decide (isLd S p)).map (crM S)=((List.range i).filter fun p=>!decide (isLd S p)).map (crM S)++(if isLd S i then [] else [crM S i]):=by
   rw [List.range_succ,hC3,hAa]
   congr 1
   by_cases b:isLd S i
   ·simp [b]
   ·simp [b]
  have lb:=leads_bit rr i
  refine ⟨_,rfl,_,rfl,_,_,rfl,rfl,rfl,_,rfl,?_⟩
  refine qFl (fun c=>?_) (fun c=>?_)
  ·have nl:¬isLd S i:=fun z=>by
    rw [decide_eq_true z] at lb
    have ne:=(and_pow _ i).mpr lb
    have:Builtin.bitAnd (((S.map fun s:Nat=>2^s.log2).sum:Nat):Int) ((2^i:Nat):Int)=0:=by simpa using c
    rw [qCn] at this
    omega
   refine ⟨_,rfl,.inl ⟨rfl,_,SqL.of ht⟩,_,rfl,?_⟩
   refine ⟨_,rfl,p,rfl,⟨_,SqL.of (e _ _ hp)⟩,?_⟩
   refine qAr (xs:=S.map iV) (fun j ys H3=>H3=H'/\ys=(((S.take j).filter fun s:Nat=>s.testBit i).map fun s:Nat=>2^s.log2).map iV) ⟨rfl,rfl⟩ (fun j ys H3 _ h=>by rw [h.1];exact SqL.of (e _ _ hp)) ?_ ?_
   ·rintro j v ys H3 hx ⟨rfl,rfl⟩
    obtain ⟨s,rfl,hs⟩:=qCv hx
    have hj:=qAx hs
    have sm:=hAr hs
    refine ⟨Sle.set _ (Sle.refl _) (fun u z=>by cases z),_,rfl,_,rfl,_,_,rfl,rfl,rfl,_,rfl,?_⟩
    have key:((!decide (V.int (Builtin.bitAnd (s:Int) ((2^i:Nat):Int))=V.int 0))=true)↔s.testBit i=true:=by
     rw [<-and_pow s i,qCn]
     simp
    refine qFl (fun c3=>?_) (fun c3=>?_)
    ·have b:=key.mp c3
     refine ⟨_,rfl,s,rfl,rr.nz s sm,l24 s sm,?_,nxt (qAx hx) ⟨rfl,?_⟩⟩
     ·have:=hAw (fun s:Nat=>s.testBit i) (S.take j)
      rw [hAh] at this
      rw [hA1,hA1];exact qAh (by omega)
     ·rw [qAj hs,hC3,hAa,hAa]
      simp [b]
    ·have b:¬s.testBit i=true:=fun z=>c3 (key.mpr z)
     refine nxt (qAx hx) ⟨rfl,?_⟩
     rw [qAj hs,hC3]
     simp [b]
   ·rintro ys H3 ⟨rfl,rfl⟩ l2 hl2
    rw [hA1,hA8 (hA5 _)]
    have n3:=Ext.new hl2 (.lst (((S.filter fun s:Nat=>s.testBit i).map fun s:Nat=>2^s.log2).map iV))
    refine ⟨l2,((S.filter fun s:Nat=>s.testBit i).map fun s:Nat=>2^s.log2).map (fun n:Nat=>(n:Int)),rfl,SqL.of (by rw [upd_same,qD6]),?_⟩
    rw [sum_cast]
    refine ⟨_,_,rfl,rfl,to,_,_,rfl,rfl,n3 _ _ ht,?_,?_⟩
    ·have:=hAw (fun p=>!decide (isLd S p)) (List.range i)
     rw [hCr] at this
     rw [hA1,hA1];exact qAh (by omega)
    ·refine ⟨_,_,rfl,(e.trans n3).over to0 _,?_⟩
     rw [sn,if_neg nl]
     unfold LsN
     rw [upd_same,hAa]
     rfl
  ·have il:isLd S i:=hBs fun z=>by
    rw [decide_eq_false z] at lb
    refine c ?_
    have:(S.map fun s:Nat=>2^s.log2).sum&&&2^i=0:=hBs fun y=>by
     have:=(and_pow _ i).mp y
     rw [lb] at this;cases this
    show decide (V.int (Builtin.bitAnd (((S.map fun s:Nat=>2^s.log2).sum:Nat):Int) ((2^i:Nat):Int))=V.int 0)=true
    rw [qCn,this];rfl
   refine ⟨_,_,rfl,e,?_⟩
   rw [sn,if_pos il,hC5]
   exact ht
 ·rintro σ H' ⟨x4,x5,rfl,e,ht⟩
  rw [hCq] at ht
  exact ⟨_,rfl,q to _ e to0 ht⟩
theorem scTabF:FnScope ["names","masks"] ["names","masks"] (qAb sTabF):=⟨rfl,rfl,rfl,by decide +kernel,rfl,by decide +kernel,by decide +kernel⟩
theorem ok_tabF (F:Fun K "table_from" "table_from" sTabF f fd) (G1:FnOk P w K mg base CX0 1 f1 fd1 ["names","mask"] spRowOf) (bG1:qA7 K fd1 ["names","mask"] []) (kG1:PySem.W.keepIn K (.ref f1)=true) (mG1:mg "row_of" = some (.ref f1))
  (G2:FnOk P w K mg base CX0 2 f2 fd2 ["masks"] spRedu) (bG2:qA7 K fd2 ["masks"] []) (kG2:PySem.W.keepIn K (.ref f2)=true) (mG2:mg "reduced" = some (.ref f2)) (mL:mg "list" = none):FnOk P w K mg base CX0 3 f fd ["names","masks"] spTabF:=by
 refine F.ok scTabF (fun vs H Q E h=>?_) (fun cdv A outer s H vs Q E hr h=>?_)
 ·obtain ⟨pn,pm,names,ms,rfl,_⟩:=h
  rfl
 obtain ⟨pn,pm,names,ms,rfl,hn,ln,hm,lm,q⟩:=h
 have hr1:=hr.mono (j:=1) (by decide)
 refine ⟨_,qAi (qAv (qBu (qAa (qBk qB9 rfl mL qBn (qAa (pv 0) qAc)) (qAa
  (pe_lc (N:=["names","masks"]) (sc:=qAb sTabF) (N':=["mask","names"]) (sub:=[none,some 0]) rfl rfl (CmpOk.of (by decide +kernel)) rfl (qAs (qAl G2 hr rfl mG2 kG2 bG2 .nil qA5 (qAa (pv 1) qAc)))
   (fun C s H fp=>⟨qAf (i:=0) (by show (["mask","names"]:List Str).Nodup;decide) rfl (Or.inl rfl),qA4,qAl G1 hr1 rfl mG1 kG1 bG1 .nil qA5 (qAa (pv 1) (qAa (pv 0) qAc))⟩)) qAc)))),?_⟩
 refine ⟨_,rfl,pn,_,rfl,.inl (SqL.of hn),fun l1 hl1=>?_⟩
 have n1:=Ext.new hl1 (.lst (names.map V.str))
 refine ⟨_,rfl,pm,ms,rfl,n1 _ _ hm,lm,fun r M H1 e1 r0 hM pM dM=>?_⟩
 have E1:=n1.trans e1
 have lM:M.length<=24:=by rw [pM.length_eq];exact hAv (red_le ms) lm
 refine ⟨r,rfl,⟨_,SqL.of hM⟩,?_⟩
 refine qAr (xs:=M.map iV) (fun j ys H2=>Ext H1 H2/\∃ as,ys=as.map V.ref/\Paired (fun a r=>LsS H2 a r/\H a=none) as ((M.take j).map (rowM names))) ⟨Ext.refl _,[],rfl,.nil⟩ (fun j ys H2 _ h=>SqL.of (h.1 _ _ hM)) ?_ ?_
 ·rintro j v ys H2 hx ⟨e2,as,rfl,pr⟩
  obtain ⟨x,rfl,hx'⟩:=qCv hx
  have hj:=qAx hx'
  have la:as.length=_:=pr.length
  rw [hA1,hAh] at la
  refine ⟨Sle.set _ (Sle.refl _) (fun u z=>by cases z),iteT (B:=False) ⟨_,rfl,_,rfl,pn,names,x,rfl,(E1.trans e2) _ _ hn,ln,fun r3 H3 e3 r30 h3=>⟨?_,nxt (qAx hx) ⟨e2.trans e3,as++[r3],by rw [hAa];rfl,?_⟩⟩⟩⟩
  ·rw [hA1];exact qAh (by omega)
  ·rw [qAj hx',hAa]
   exact Paired.snoc (Paired.mapP pr fun a t z=>⟨e3 _ _ z.1,z.2⟩) ⟨h3,(E1.trans e2).none r30⟩
 ·rintro ys H2 ⟨e2,as,rfl,pr⟩ b hb
  rw [hA1,hA8 (hA5 _)] at pr
  have E2:=E1.trans e2
  have Xb:=Ext.new hb (.lst (as.map V.ref))
  refine ⟨(by show 2<=sizeLine;decide),fun T hT=>?_⟩
  have XT:=Xb.trans (Ext.new hT (.tup [V.ref l1,V.ref b]))
  refine q T M _ (E2.trans XT) ((E2.trans Xb).none hT) ⟨l1,b,upd_same,XT _ _ (e2 _ _ (e1 _ _ upd_same)),hl1,⟨as,(Ext.new hT _) _ _ upd_same,Paired.mapP pr fun a t z=>⟨XT _ _ z.1,z.2,qAd z.1 hb⟩⟩,E2.none hb⟩ pM dM
theorem scStepM:FnScope ["table","names","rows"] ["table"] (qAb qE5):=⟨rfl,rfl,rfl,by decide +kernel,rfl,by decide +kernel,by decide +kernel⟩
theorem ok_stepM (F:Fun K "step_masks" "step_masks" qE5 f fd) (G1:FnOk P w K mg base CX0 1 f1 fd1 ["names","row"] spMask) (bG1:qA7 K fd1 ["names","row"] []) (kG1:PySem.W.keepIn K (.ref f1)=true) (mG1:mg "mask_of" = some (.ref f1))
  (G2:FnOk P w K mg base CX0 2 f2 fd2 ["masks"] spRedu) (bG2:qA7 K fd2 ["masks"] []) (kG2:PySem.W.keepIn K (.ref f2)=true) (mG2:mg "reduced" = some (.ref f2)):FnOk P w K mg base CX0 3 f fd ["table"] spStepM:=by
 refine F.ok scStepM (fun vs H Q E h=>?_) (fun cdv A outer s H vs Q E hr h=>?_)
 ·obtain ⟨T,names,rows,rfl,_⟩:=h
  rfl
 obtain ⟨T,names,rows,rfl,⟨a,b,hT,ha,⟨as,hb,pr⟩⟩,lr,q⟩:=h
 have hr1:=hr.mono (j:=1) (by decide)
 refine ⟨_,pss_cons (ps_asg (pv 0) (qBt rfl (qAk (qAf (i:=1) scStepM.nd rfl (Or.inr rfl)) (qAk (qAf (i:=2) scStepM.nd rfl (Or.inl rfl)) qBe))))
  (qAi (qAv (qAl G2 hr rfl mG2 kG2 bG2 .nil qA5 (qAa (pe_lc (N:=["table","names","rows"]) (sc:=qAb qE5) (N':=["row","names"]) (sub:=[none,some 1]) rfl rfl (CmpOk.of (by decide +kernel)) rfl (qAs (pv 2))
   (fun C s H fp=>⟨qAf (i:=0) (by show (["row","names"]:List Str).Nodup;decide) rfl (Or.inl rfl),qA4,qAl G1 hr1 rfl mG1 kG1 bG1 .nil qA5 (qAa (pv 1) (qAa (pv 0) qAc))⟩)) qAc)))),?_⟩
 have la:as.length=rows.length:=pr.length
 refine ⟨_,rfl,T,_,rfl,SqT.of hT,rfl,_,_,rfl,_,_,rfl,rfl,?_⟩
 refine ⟨_,rfl,b,rfl,⟨_,SqL.of hb⟩,?_⟩
 refine qAr (xs:=as.map V.ref) (fun j ys H2=>H2=H/\ys=((rows.take j).map (maskF names)).map iV) ⟨rfl,rfl⟩ (fun j ys H2 _ h=>by rw [h.1];exact SqL.of hb) ?_ ?_
 ·rintro j v ys H2 hx ⟨rfl,rfl⟩
  obtain ⟨c,rfl,hc⟩:=qFb hx
  obtain ⟨rw1,hrw,hc1⟩:=qA9 pr hc
  have hj:=qAx hrw
  refine ⟨Sle.set _ (Sle.refl _) (fun u z=>by cases z),iteT (B:=False) ⟨_,rfl,_,rfl,a,c,names,rw1,rfl,ha,hc1,?_,nxt (qAx hx) ⟨rfl,?_⟩⟩⟩
  ·rw [hA1,hA1,hAh];exact qAh (by omega)
  ·rw [qAj hrw,hAa,hAa];rfl
 ·rintro ys H2 ⟨rfl,rfl⟩ l hl
  rw [hA1,la,hA8 (hA5 _)]
  have n1:=Ext.new hl (.lst ((rows.map (maskF names)).map iV))
  refine ⟨l,_,rfl,upd_same,by rw [hA1];exact lr,fun r M H1 e1 r0 hM pM dM=>?_⟩
  exact q r M H1 (n1.trans e1) (n1.none r0) hM pM dM
theorem scCross:FnScope ["table","names"] ["table"] (qAb qF6):=⟨rfl,rfl,rfl,by decide +kernel,rfl,by decide +kernel,by decide +kernel⟩
theorem ok_cross (F:Fun K "crossed" "crossed" qF6 f fd) (G1:FnOk P w K mg base CX0 3 f1 fd1 ["names","masks"] spTabF) (bG1:qA7 K fd1 ["names","masks"] []) (kG1:PySem.W.keepIn K (.ref f1)=true) (mG1:mg "table_from" = some (.ref f1))
  (G2:FnOk P w K mg base CX0 2 f2 fd2 ["steps","width"] spCrM) (bG2:qA7 K fd2 ["steps","width"] []) (kG2:PySem.W.keepIn K (.ref f2)=true) (mG2:mg "crossed_masks" = some (.ref f2))
  (G3:FnOk P w K mg base CX0 3 f3 fd3 ["table"] spStepM) (bG3:qA7 K fd3 ["table"] []) (kG3:PySem.W.keepIn K (.ref f3)=true) (mG3:mg "step_masks" = some (.ref f3)) (ml:mg "len" = none):FnOk P w K mg base CX0 4 f fd ["table"] spCross:=by
 refine F.ok scCross (fun vs H Q E h=>?_) (fun cdv A outer s H vs Q E hr h=>?_)
 ·obtain ⟨T,names,rows,rfl,_⟩:=h
  rfl
 obtain ⟨T,names,rows,rfl,ht,ln,lr,q⟩:=h
 have hr2:=hr.mono (j:=2) (by decide)
 refine ⟨_,pss_cons (qAp (i:=1) scCross.nd rfl (Or.inl rfl) (pe_ix qBw (pv 0) qAg (fun _ _=>rfl)))
  (qAi (qAv (qAl G1 hr rfl mG1 kG1 bG1 .nil qA5 (qAa (pv 1) (qAa (qAl G2 hr2 rfl mG2 kG2 bG2 .nil qA5 (qAa (qAl G3 hr rfl mG3 kG3 bG3 .nil qA5 (qAa (pv 0) qAc)) (qAa (qAn qAw rfl ml hBz (qAa (pv 1) qAc)) qAc))) qAc))))),?_⟩
 obtain ⟨a,b,hT,ha,hb⟩:=id ht
 refine ⟨_,rfl,T,_,_,_,rfl,rfl,SqT.of hT,(by exact atI_nat (j:=0) rfl),?_⟩
 refine ⟨_,rfl,_,rfl,T,names,rows,rfl,ht,lr,fun r S H1 e1 r0 hS pS dS=>?_⟩
 have rrS:RR S:=(qC8 _).perm pS
 have ltS:∀ s∈S,s<2^names.length:=fun s hs=>red_lt (fun x hx=>by
  obtain ⟨rw1,_,rfl⟩:=hAb.mp hx
  exact qDo names rw1) s (pS.mem_iff.mp hs)
 have lS:S.length<=24:=by
  have:=red_le (rows.map (maskF names))
  rw [hA1] at this
  rw [pS.length_eq];omega
 refine ⟨_,rfl,a,_,rfl,.inl (SqL.of (e1 _ _ ha)),r,S,names.length,(by rw [hA1];rfl),hS,rrS,ltS,ln,lS,fun r2 H2 e2 r20 h2=>?_⟩
 have lc:(qCx S names.length).length<=24:=by
  unfold qCx
  rw [hA1]
  have:=hAw (fun p=>!decide (isLd S p)) (List.range names.length)
  rw [hCr] at this
  omega
 have E2:=e1.trans e2
 refine ⟨a,r2,names,_,rfl,E2 _ _ ha,ln,h2,lc,fun T' M H3 e3 t0 tf pM dM=>?_⟩
 exact q T' S M H3 (E2.trans e3) (E2.none t0) (tf.down E2) pS pM dM
end
end My
namespace My
open PySem L2
theorem metF_snoc (net:List Tr) (t:Tr) (x:Str):metF (net++[t]) x=metF net x++(if (decide (t.2.1=x) != decide (t.2.2=x))=true then [t.1] else []):=by
 unfold metF
 rw [hC3,hAa]
 congr 1
 by_cases b:(decide (t.2.1=x) != decide (t.2.2=x))=true
 ·rw [if_pos b,List.filter_cons,if_pos b];rfl
 ·rw [if_neg b,List.filter_cons,if_neg b];rfl
theorem metF_len (net:List Tr) (x:Str):(metF net x).length<=net.length:=by
 unfold metF
 rw [hA1];exact hAw _ _
section
variable {P:Program} {w:World} {K:PySem.W.Frag} {mg:Str->Option Value} {base:Heap} {f f1 f2 f3 f4:Addr} {fd fd1 fd2 fd3 fd4:FuncData}
theorem scTies:FnScope ["net"] ["net"] (qAb sTies):=⟨rfl,rfl,rfl,by decide +kernel,rfl,by decide +kernel,by decide +kernel⟩
abbrev tiN:List Str:=["tie","one","other"]
theorem ok_ties (F:Fun K "ties_of" "ties_of" sTies f fd):FnOk P w K mg base CX0 1 f fd ["net"] spTies:=by
 refine F.ok scTies (fun vs H Q E h=>?_) (fun cdv A outer s H vs Q E hr h=>?_)
 ·obtain ⟨p,net,rfl,_⟩:=h
  rfl
 obtain ⟨p,net,rfl,⟨as,hp,pr⟩,hl,q⟩:=h
 refine ⟨_,qAi (qAv (pe_lc (N:=["net"]) (sc:=qAb sTies) (N':=tiN) (sub:=[none,none,none]) rfl rfl (CmpOk.of (by decide +kernel)) rfl (qAs (pv 0))
  (fun C s H fp=>⟨(show PG _ _ (gTup K 3 _) from qBt rfl (qAk (qAf (i:=0) (by show tiN.Nodup;decide) rfl (Or.inl rfl)) (qAk (qAf (i:=1) (by show tiN.Nodup;decide) rfl (Or.inl rfl)) (qAk (qAf (i:=2) (by show tiN.Nodup;decide) rfl (Or.inl rfl)) qBe)))),qA4,pv 0⟩))),?_⟩
 refine ⟨_,rfl,p,rfl,⟨_,SqL.of hp⟩,?_⟩
 refine turns_net (fun t=>t.1) hp pr hl (fun a t ha C B c=>?_) (fun r hr'=>q r _ (Ext.new hr' _) hr' upd_same)
 refine ⟨a,_,rfl,SqT.of ha,rfl,_,_,rfl,_,_,rfl,_,_,rfl,rfl,?_⟩
 exact ⟨Sle.set _ (Sle.set _ (Sle.set _ (Sle.refl _) (fun u z=>by cases z)) (fun u z=>by cases z)) (fun u z=>by cases z),iteT (B:=B H) ⟨_,rfl,c⟩⟩
theorem scMet:FnScope ["net","point"] ["net","point"] (qAb sMet):=⟨rfl,rfl,rfl,by decide +kernel,rfl,by decide +kernel,by decide +kernel⟩
abbrev meN:List Str:=["tie","one","other","point"]
theorem ok_met (F:Fun K "met_once" "met_once" sMet f fd):FnOk P w K mg base CX0 1 f fd ["net","point"] spMet:=by
 refine F.ok scMet (fun vs H Q E h=>?_) (fun cdv A outer s H vs Q E hr h=>?_)
 ·obtain ⟨p,net,x,rfl,_⟩:=h
  rfl
 obtain ⟨p,net,x,rfl,⟨as,hp,pr⟩,hl,q⟩:=h
 refine ⟨_,qAi (qAv (pe_lc (N:=["net","point"]) (sc:=qAb sMet) (N':=meN) (sub:=[none,none,none,some 1]) rfl rfl (CmpOk.of (by decide +kernel)) rfl (qAs (pv 0))
  (fun C s H fp=>⟨(show PG _ _ (gTup K 3 _) from qBt rfl (qAk (qAf (i:=0) (by show meN.Nodup;decide) rfl (Or.inl rfl)) (qAk (qAf (i:=1) (by show meN.Nodup;decide) rfl (Or.inl rfl)) (qAk (qAf (i:=2) (by show meN.Nodup;decide) rfl (Or.inl rfl)) qBe)))),
   qDd (qAu op_ne (qCt qDm (pv 1) (pv 3) (qA1 _)) (qCt qDm (pv 2) (pv 3) (qA1 _)) (qA1 _)),pv 0⟩))),?_⟩
 have lA:as.length=net.length:=pr.length
 refine ⟨_,rfl,p,rfl,⟨_,SqL.of hp⟩,?_⟩
 refine qAr (xs:=as.map V.ref) (fun j ys H2=>H2=H/\ys=(metF (net.take j) x).map V.str) ⟨rfl,rfl⟩ (fun j ys H2 _ h=>by rw [h.1];exact SqL.of hp) ?_ ?_
 ·rintro j v ys H2 hx ⟨rfl,rfl⟩
  obtain ⟨a,t,rfl,ht,ha⟩:=qCk pr hx
  have hj:=qAx ht
  refine ⟨a,_,rfl,SqT.of ha,rfl,_,_,rfl,_,_,rfl,_,_,rfl,rfl,?_⟩
  refine ⟨Sle.set _ (Sle.set _ (Sle.set _ (Sle.refl _) (fun u z=>by cases z)) (fun u z=>by cases z)) (fun u z=>by cases z),?_⟩
  refine ⟨_,rfl,_,rfl,rfl,_,rfl,_,rfl,rfl,rfl,_,rfl,?_⟩
  have key:((!decide (V.bl (decide (V.str t.2.1=V.str x))=V.bl (decide (V.str t.2.2=V.str x))))=true)↔(decide (t.2.1=x) != decide (t.2.2=x))=true:=by
   by_cases a:t.2.1=x <;> by_cases b:t.2.2=x <;> simp [a,b]
  have sz:=metF_len (net.take j) x
  rw [hAh] at sz
  refine qFl (fun c=>?_) (fun c=>?_)
  ·have b:=key.mp c
   refine ⟨_,rfl,by rw [hA1];exact qAh (by omega),nxt (qAx hx) ⟨rfl,?_⟩⟩
   rw [qAj ht,metF_snoc,if_pos b,hAa];rfl
  ·have b:¬(decide (t.2.1=x) != decide (t.2.2=x))=true:=fun z=>c (key.mpr z)
   refine nxt (qAx hx) ⟨rfl,?_⟩
   rw [qAj ht,metF_snoc,if_neg b,hC5]
 ·rintro ys H2 ⟨rfl,rfl⟩ r hr'
  rw [hA1,lA,hA8 (hA5 _)]
  exact q r _ (Ext.new hr' _) hr' upd_same
theorem scTable:FnScope ["net"] ["net"] (qAb qE4):=⟨rfl,rfl,rfl,by decide +kernel,rfl,by decide +kernel,by decide +kernel⟩
theorem ok_table (F:Fun K "table_of" "table_of" qE4 f fd) (G1:FnOk P w K mg base CX0 4 f1 fd1 ["table"] spCross) (bG1:qA7 K fd1 ["table"] []) (kG1:PySem.W.keepIn K (.ref f1)=true) (mG1:mg "crossed" = some (.ref f1))
  (G2:FnOk P w K mg base CX0 1 f2 fd2 ["net"] spTies) (bG2:qA7 K fd2 ["net"] []) (kG2:PySem.W.keepIn K (.ref f2)=true) (mG2:mg "ties_of" = some (.ref f2))
  (G3:FnOk P w K mg base CX0 1 f3 fd3 ["net","point"] spMet) (bG3:qA7 K fd3 ["net","point"] []) (kG3:PySem.W.keepIn K (.ref f3)=true) (mG3:mg "met_once" = some (.ref f3))
  (G4:FnOk P w K mg base CX0 1 f4 fd4 ["net"] qEs) (bG4:qA7 K fd4 ["net"] []) (kG4:PySem.W.keepIn K (.ref f4)=true) (mG4:mg "points" = some (.ref f4)):FnOk P w K mg base CX0 5 f fd ["net"] spTable:=by
 refine F.ok scTable (fun vs H Q E h=>?_) (fun cdv A outer s H vs Q E hr h=>?_)
 ·obtain ⟨p,net,rfl,_⟩:=h
  rfl
 obtain ⟨p,net,rfl,nt,hl,q⟩:=h
 have hr1:=hr.mono (j:=1) (by decide)
 refine ⟨_,qAi (qAv (qAl G1 hr rfl mG1 kG1 bG1 .nil qA5 (qAa (qBu (qAa (qAl G2 hr1 rfl mG2 kG2 bG2 .nil qA5 (qAa (pv 0) qAc)) (qAa
  (pe_lc (N:=["net"]) (sc:=qAb qE4) (N':=["point","net"]) (sub:=[none,some 0]) rfl rfl (CmpOk.of (by decide +kernel)) rfl (qAs (qAl G4 hr1 rfl mG4 kG4 bG4 .nil qA5 (qAa (pv 0) qAc)))
   (fun C s H fp=>⟨qAf (i:=0) (by show (["point","net"]:List Str).Nodup;decide) rfl (Or.inl rfl),qA4,qAl G3 hr1 rfl mG3 kG3 bG3 .nil qA5 (qAa (pv 1) (qAa (pv 0) qAc))⟩)) qAc))) qAc))),?_⟩
 refine ⟨_,rfl,p,net,rfl,nt,hl,fun tl H1 e1 tl0 htl=>?_⟩
 refine ⟨_,rfl,p,net,rfl,nt.ext e1,hl,fun pl ps H2 e2 pl0 hpl pok psr lps=>⟨pl,rfl,⟨_,SqL.of hpl⟩,?_⟩⟩
 have E2:=e1.trans e2
 refine qAr (xs:=ps.map V.str) (fun j ys H3=>Ext H2 H3/\∃ as,ys=as.map V.ref/\Paired (LsS H3) as ((ps.take j).map (metF net))) ⟨Ext.refl _,[],rfl,.nil⟩ (fun j ys H3 _ h=>SqL.of (h.1 _ _ hpl)) ?_ ?_
 ·rintro j x ys H3 hx ⟨e3,as,rfl,pr⟩
  obtain ⟨y,rfl,hy⟩:=str_get hx
  have hj:=qAx hy
  have la:as.length=_:=pr.length
  rw [hA1,hAh] at la
  refine ⟨Sle.set _ (Sle.refl _) (fun u z=>by cases z),iteT (B:=False) ⟨_,rfl,_,rfl,p,net,y,rfl,nt.ext (E2.trans e3),hl,fun r4 H4 e4 r40 hr4=>⟨?_,nxt (qAx hx) ⟨e3.trans e4,as++[r4],by rw [hAa];rfl,?_⟩⟩⟩⟩
  ·rw [hA1];exact qAh (by omega)
  ·rw [qAj hy,hAa]
   exact Paired.snoc (Paired.mapP pr fun a t z=>e4 _ _ z) hr4
 ·rintro ys H3 ⟨e3,as,rfl,pr⟩ b hb
  rw [hA1,hA8 (hA5 _)] at pr
  have Xb:=Ext.new hb (.lst (as.map V.ref))
  refine ⟨(by show 2<=sizeLine;decide),fun T hT=>?_⟩
  have XT:=Xb.trans (Ext.new hT (.tup [V.ref tl,V.ref b]))
  have E3:=(E2.trans e3).trans XT
  refine ⟨T,net.map (fun t:Tr=>t.1),ps.map (metF net),rfl,⟨tl,b,upd_same,(e2.trans (e3.trans XT)) _ _ htl,⟨as,(Ext.new hT _) _ _ upd_same,Paired.mapP pr fun a t z=>XT _ _ z⟩⟩,by rw [hA1];exact hl,by rw [hA1];exact lps,fun T' S M H4 e4 t0 tf pS pM dM=>?_⟩
  rw [hB4] at pS
  rw [hA1] at pM
  exact q T' ps S M H4 (E3.trans e4) (E3.none t0) (tf.down E3) pok psr pS pM dM
end
end My
namespace My
open PySem L2
theorem closed_lab (net:List Tr):∀ S:Str->Prop,(∀ t∈net,S t.2.1↔S t.2.2)->∀ x y,homF net x=homF net y->(S x↔S y):=by
 refine qBo (P:=fun net=>∀ S:Str->Prop,(∀ t∈net,S t.2.1↔S t.2.2)->∀ x y,homF net x=homF net y->(S x↔S y)) (fun S _ x y e=>?_) (fun l t ih S hS x y e=>?_) net
 ·have:x=y:=e
  rw [this]
 have ih':=ih S fun u hu=>hS u (hAm _ hu)
 have hT:=hS t (by simp)
 rw [qCi] at e
 have e':(if homF l x=homF l t.2.2 then homF l t.2.1 else homF l x)=(if homF l y=homF l t.2.2 then homF l t.2.1 else homF l y):=e
 by_cases a:homF l x=homF l t.2.2
 ·by_cases b:homF l y=homF l t.2.2
  ·exact ih' x y (a.trans b.symm)
  ·rw [if_pos a,if_neg b] at e'
   exact (ih' x t.2.2 a).trans (hT.symm.trans (ih' t.2.1 y e'))
 ·by_cases b:homF l y=homF l t.2.2
  ·rw [if_neg a,if_pos b] at e'
   exact (ih' x t.2.1 e').trans (hT.trans (ih' t.2.2 y b.symm))
  ·rw [if_neg a,if_neg b] at e'
   exact ih' x y e'
def ixF (ps:List Str) (x:Str):Nat:=ps.findIdx fun y=>decide (y=x)
theorem ixF_at {ps:List Str} {x:Str} (h:x∈ps):ps[ixF ps x]?=some x/\(∀ k,k<ixF ps x->ps[k]?≠some x)/\ixF ps x<ps.length:=by
 have lt:ixF ps x<ps.length:=List.findIdx_lt_length_of_exists ⟨x,h,by simp⟩
 have at_:ps[ixF ps x]=x:=by
  have:=List.findIdx_getElem (w:=lt)
  exact of_decide_eq_true this
 refine ⟨by rw [hA3 lt,at_],fun k hk e=>?_,lt⟩
 have:=List.not_of_lt_findIdx hk
 have kl:k<ps.length:=Nat.lt_trans hk lt
 rw [hA3 kl] at e
 have e':=hAs e
 simp [e'] at this
def vT (ps:List Str) (t:Tr):Nat:=2^ixF ps t.2.1^^^2^ixF ps t.2.2
def vF (net:List Tr) (ps:List Str) (i:Nat):Nat:=match net[i]? with | some t=>vT ps t | none=>0
theorem vF_at {net:List Tr} {ps:List Str} {i:Nat} {t:Tr} (h:net[i]?=some t):vF net ps i=vT ps t:=by unfold vF;rw [h]
def phi (M:Nat) (Z:Nat->Bool) (z:Nat):Bool:=xsum M fun q=>z.testBit q && Z q
theorem phi_xor (M:Nat) (Z:Nat->Bool) (x y:Nat):phi M Z (x^^^y)=(phi M Z x ^^ phi M Z y):=by
 unfold phi
 rw [<-qEp]
 refine qAy fun j _=>?_
 rw [hAq]
 cases x.testBit j <;> cases y.testBit j <;> cases Z j <;> rfl
theorem phi_zero (M:Nat) (Z:Nat->Bool):phi M Z 0=false:=by
 unfold phi
 rw [qAy (g:=fun _=>false) fun j _=>by simp,qB1]
theorem phi_pow {M p:Nat} {Z:Nat->Bool} (h:p<M):phi M Z (2^p)=Z p:=by
 unfold phi
 rw [qDe (l:=p) fun j _ ne=>by rw [hB7,decide_eq_false (fun z=>ne z.symm)];rfl,hB7]
 simp [h]
theorem phi_bd (M:Nat) (Z:Nat->Bool) (V:Nat->Nat):∀ m y:Nat,phi M Z (bd V m y)=xsum m fun j=>y.testBit j && phi M Z (V j)
 | 0,y=>by show phi M Z 0=false;exact phi_zero M Z
 | m+1,y=>by
  show phi M Z (bd V m y^^^_)=(xsum m _ ^^ (y.testBit m && phi M Z (V m)))
  rw [phi_xor,phi_bd M Z V m y]
  cases y.testBit m
  ·simp [phi_zero]
  ·simp
theorem even_hom {net:List Tr} {ps:List Str} (hp:∀ x,qGh net x->x∈ps) {i m:Nat} {K:List (Nat×Nat)} {F:List Nat} (h:EIv (vF net ps) m i K F) (hi:i<m) {t:Tr} (ht:net[i]?=some t) :
  (el K (vF net ps i,2^i)).1=0↔homF (net.take i) t.2.1=homF (net.take i) t.2.2:=by
 have tm:=hAr ht
 have pa:t.2.1∈ps:=hp _ ⟨t,tm,.inl rfl⟩
 have pb:t.2.2∈ps:=hp _ ⟨t,tm,.inr rfl⟩
 have il:i<net.length:=qAx ht
 have got:∀ j,j<i->∃ u,net[j]?=some u/\u∈net.take i/\u∈net:=fun j hj=>by
  have jl:j<net.length:=by omega
  refine ⟨net[j],hA3 jl,?_,hBf jl⟩
  refine hAr (i:=j) ?_
  rw [List.getElem?_take,if_pos hj,hA3 jl]
 constructor
 ·intro r0
  refine hBs fun ne=>?_
  obtain ⟨a,b,c,d,_⟩:=h.run hi
  have c':(el K (vF net ps i,2^i)).2^^^2^i<2^i:=Spn.lt (fun x hx=>by
   obtain ⟨f,hf,rfl⟩:=hAb.mp hx
   exact h.kl f hf) b
  have e:(el K (vF net ps i,2^i)).1=bd (vF net ps) m ((el K (vF net ps i,2^i)).2^^^2^i)^^^vF net ps i:=by
   rw [qCj,bd_pow hi,<-a,qA0]
  have Zix:∀ {x:Str},x∈ps->phi ps.length (fun q=>decide (homF (net.take i) (ps.getD q "")=homF (net.take i) t.2.1)) (2^ixF ps x)=decide (homF (net.take i) x=homF (net.take i) t.2.1):=fun {x} hx=>by
   obtain ⟨h1,_,h3⟩:=ixF_at hx
   rw [phi_pow h3]
   show decide (homF (net.take i) (ps.getD (ixF ps x) "")=_)=_
   rw [hAe,h1];rfl
  have p0:=congrArg (phi ps.length (fun q=>decide (homF (net.take i) (ps.getD q "")=homF (net.take i) t.2.1))) e
  rw [r0,phi_zero,phi_xor,phi_bd] at p0
  have z1:(xsum m fun j=>((el K (vF net ps i,2^i)).2^^^2^i).testBit j && phi ps.length (fun q=>decide (homF (net.take i) (ps.getD q "")=homF (net.take i) t.2.1)) (vF net ps j))=false:=by
   rw [qAy (g:=fun _=>false) fun j _=>?_,qB1]
   by_cases hj:j<i
   ·obtain ⟨u,hu,hu2,hu3⟩:=got j hj
    rw [vF_at hu]
    unfold vT
    rw [phi_xor,Zix (hp _ ⟨u,hu3,.inl rfl⟩),Zix (hp _ ⟨u,hu3,.inr rfl⟩),homF_tie (net.take i) u hu2]
    simp
   ·rw [qDh c' (by omega)];rfl
  rw [z1,vF_at ht] at p0
  unfold vT at p0
  rw [phi_xor,Zix pa,Zix pb,decide_eq_true rfl,decide_eq_false (fun z=>ne z.symm)] at p0
  cases p0
 ·intro e
  have S:=closed_lab (net.take i) (fun z=>∃ y,y<2^i/\bd (vF net ps) m y=2^ixF ps t.2.1^^^2^ixF ps z) (fun u hu=>by
   obtain ⟨j,hj,ej⟩:=List.getElem_of_mem hu
   have ji:j<i:=by rw [hAh] at hj;omega
   have uj:net[j]?=some u:=by
    have:(net.take i)[j]?=some u:=by rw [hA3 hj,ej]
    rw [List.getElem?_take,if_pos ji] at this
    exact this
   have jm:j<m:=by omega
   have b:bd (vF net ps) m (2^j)=2^ixF ps u.2.1^^^2^ixF ps u.2.2:=by rw [bd_pow jm,vF_at uj];rfl
   have pj:2^j<2^i:=Nat.pow_lt_pow_right (by decide) ji
   constructor
   ·rintro ⟨y,hy,ey⟩
    refine ⟨y^^^2^j,hCl hy pj,?_⟩
    rw [qCj,ey,b,<-hC1,qA0]
   ·rintro ⟨y,hy,ey⟩
    refine ⟨y^^^2^j,hCl hy pj,?_⟩
    rw [qCj,ey,b,hDg (2^ixF ps u.2.1),<-hC1,qA0]) t.2.1 t.2.2 e
  obtain ⟨y,hy,ey⟩:=S.mp ⟨0,Nat.pow_pos (by decide),by rw [qD9,hD6]⟩
  exact h.none hi hy (by rw [ey,vF_at ht];rfl)
theorem even_wood {net:List Tr} {ps:List Str} (hp:∀ x,qGh net x->x∈ps) {i m:Nat} {K:List (Nat×Nat)} {F:List Nat} (h:EIv (vF net ps) m i K F) (hi:i<m) {t:Tr} (ht:net[i]?=some t) (hk:K.length=(woodF (net.take i)).length) :
  if (el K (vF net ps i,2^i)).1=0 then K.length=(woodF (net.take (i+1))).length else (K++[el K (vF net ps i,2^i)]).length=(woodF (net.take (i+1))).length:=by
 have e:=even_hom hp h hi ht
 rw [qAj ht,qDx]
 unfold wStep
 rw [homF_wood]
 split
 ·rename_i z
  rw [if_pos (e.mp z)];exact hk
 ·rename_i z
  rw [if_neg (fun w=>z (e.mpr w)),hAc,hAc,hk];rfl
end My
namespace My
open PySem L2
end My
namespace My
open PySem L2
abbrev lbF (net:List Tr):Tr->Str:=fun t=>homF net t.2.1
def PD (H0 H:Hp) (kvs:List (Key×V)) (P:List (Str×List Str)):Prop:=Paired (fun kv p=>kv.1=Sum.inr p.1/\∃ a,kv.2=V.ref a/\LsS H a p.2/\H0 a=Option.none) kvs P
theorem PD.ext {H0 H H':Hp} {kvs:List (Key×V)} {P:List (Str×List Str)} (h:PD H0 H kvs P) (e:Ext H H'):PD H0 H' kvs P:=Paired.mapP h fun _ _ ⟨h1,a,h2,h3,h4⟩=>⟨h1,a,h2,e _ _ h3,h4⟩
theorem PD.set {H0 H:Hp} {d:Addr} {kvs:List (Key×V)} {P:List (Str×List Str)} (h:PD H0 H kvs P) {kvs':List (Key×V)} (hd:H d=some (.dK kvs')) (o:HO):PD H0 (upd H d o) kvs P:=Paired.mapP h fun _ _ ⟨h1,a,h2,h3,h4⟩=>⟨h1,a,h2,by
 have ne:a≠d:=fun z=>by unfold LsS at h3;rw [z,hd] at h3;cases h3
 unfold LsS;rw [qAe ne];exact h3,h4⟩
theorem PD.none {H0 H:Hp}:∀ {kvs:List (Key×V)} {P:List (Str×List Str)} {x:Str},PD H0 H kvs P->x∉P.map (·.1)->valV kvs (Sum.inr x)=Option.none
 | _,_,_,.nil,_=>rfl
 | _,_,_,.cons h t,nx=>by
  rw [hAl] at nx
  have n1:=fun z=>nx (hA9.mpr (.inl z))
  rw [qBa (fun z=>n1 (Sum.inr.inj (h.1▸z)).symm)]
  exact PD.none t fun z=>nx (hA4 _ z)
theorem PD.some {H0 H:Hp}:∀ {kvs:List (Key×V)} {P:List (Str×List Str)} {x:Str},PD H0 H kvs P->x∈P.map (·.1)->∃ p∈P,p.1=x/\∃ a,valV kvs (Sum.inr x)=Option.some (.ref a)/\LsS H a p.2
 | _,_,_,.nil,m=>by cases m
 | _,_,x,@Paired.cons _ _ _ kv p _ _ h t,m=>by
  obtain ⟨h1,a,h2,h3,_⟩:=h
  by_cases e:p.1=x
  ·exact ⟨p,hA2,e,a,by rw [qBc (by rw [h1,e]),h2],h3⟩
  ·rw [hAl] at m
   rcases hA9.mp m with z | z
   ·exact absurd z.symm e
   ·obtain ⟨p',hp',e',a',v,l⟩:=PD.some t z
    exact ⟨p',hA4 _ hp',e',a',by rw [qBa (fun z=>e (Sum.inr.inj (h1▸z)))];exact v,l⟩
theorem PD.put {H0 H:Hp} {x n:Str} {a:Addr} {old:List Str} (la:LsS H a (old++[n])) (la0:H0 a=Option.none):∀ {kvs:List (Key×V)} {P:List (Str×List Str)},PD H0 H kvs P->(P.map (·.1)).Nodup->(∀ p∈P,p.1=x->p.2=old)->PD H0 H (kvs.map fun kv=>if kv.1=Sum.inr x then (kv.1,V.ref a) else kv) (P.map fun p=>if p.1=x then (p.1,p.2++[n]) else p)
 | _,_,.nil,_,_=>.nil
 | _,_,@Paired.cons _ _ _ kv p _ _ h t,nd,ho=>by
  rw [hAl,hAl]
  refine .cons ?_ (PD.put la la0 t (hB0.mp nd).2 fun p hp=>ho p (hA4 _ hp))
  obtain ⟨h1,b,h2,h3,h4⟩:=h
  by_cases e:p.1=x
  ·have e':kv.1=Sum.inr x:=by rw [h1,e]
   rw [if_pos e,if_pos e']
   exact ⟨h1,a,rfl,by rw [ho p hA2 e];exact la,la0⟩
  ·have e':¬kv.1=Sum.inr x:=fun z=>e (Sum.inr.inj (h1▸z))
   rw [if_neg e,if_neg e']
   exact ⟨h1,b,h2,h3,h4⟩
end My
namespace My
open PySem L2
theorem PCK_len (f:Tr->Str) (net:List Tr):(PCK f net).length<=net.length:=by
 refine qBo (P:=fun net=>(PCK f net).length<=net.length) (by rw [qEb];exact hA5 _) (fun l t ih=>?_) net
 rw [PCK_snoc,hAc]
 split
 ·rw [hA1];exact hAv ih (hDa _ _)
 ·rw [hAc];exact Nat.add_le_add_right ih _
theorem PCK_small (f:Tr->Str) (net:List Tr):∀ p∈PCK f net,p.2.length<=net.length:=fun p hp=>by
 rw [PCK_val f net p hp,hA1]
 exact hAw _ _
theorem pd_rows {H0 H:Hp}:∀ {kvs:List (Key×V)} {P:List (Str×List Str)},PD H0 H kvs P->∃ as:List Addr,kvs.map (·.2)=as.map V.ref/\Paired (fun a r=>LsS H a r/\H0 a=none) as (P.map (·.2))
 | _,_,.nil=>⟨[],rfl,.nil⟩
 | _,_,.cons h t=>by
  obtain ⟨h1,a,h2,h3⟩:=h
  obtain ⟨as,e,p⟩:=pd_rows t
  exact ⟨a :: as,by rw [hAl,hAl,e,h2],.cons h3 p⟩
def spPieces:Sp:=fun vs H Q _=>∃ (p:Addr) (net:List Tr),vs=[.ref p]/\qBb H p net/\net.length<=12/\∀ r H',Ext H H'->H r=none->RowsY H H' r ((PCK (lbF net) net).map (·.2))->Q (.ref r) H'
section
variable {P:Program} {w:World} {K:PySem.W.Frag} {mg:Str->Option Value} {base:Heap} {f f1 f2:Addr} {fd fd1 fd2:FuncData}
abbrev piN:List Str:=["net","home","told","tie","one","other"]
theorem qC0:FnScope piN ["net"] (qAb qDz):=⟨rfl,rfl,rfl,by decide +kernel,rfl,by decide +kernel,by decide +kernel⟩
theorem ok_pieces (F:Fun K "pieces" "pieces" qDz f fd) (G:FnOk P w K mg base CX0 2 f1 fd1 ["net"] spHomes) (bG:qA7 K fd1 ["net"] []) (kG:PySem.W.keepIn K (.ref f1)=true) (mG:mg "homes" = some (.ref f1)) (ml:mg "list" = none):FnOk P w K mg base CX0 3 f fd ["net"] spPieces:=by
 refine F.ok qC0 (fun vs H Q E h=>?_) (fun cdv A outer s H vs Q E hr h=>?_)
 ·obtain ⟨p,net,rfl,_⟩:=h
  rfl
 obtain ⟨p,net,rfl,nt,hl,q⟩:=h
 refine ⟨_,pss_cons (qAp (i:=1) qC0.nd rfl (Or.inl rfl) (qAl G hr rfl mG kG bG .nil qA5 (qAa (pv 0) qAc)))
  (pss_cons (qAp (i:=2) qC0.nd rfl (Or.inl rfl) pe_dnewK)
  (pss_cons (qBs PassesOwn.never rfl (qAs (pv 0)) (qBt rfl (qAk (qAf (i:=3) qC0.nd rfl (Or.inl rfl)) (qAk (qAf (i:=4) qC0.nd rfl (Or.inl rfl)) (qAk (qAf (i:=5) qC0.nd rfl (Or.inl rfl)) qBe))))
   (qAi (ps_dput (hu_of hr) (pv 2) (qD2 (hu_of hr) (pv 1) (pv 4) (fun _ _=>rfl)) (qAo op_cat (pe_dget2 (hu_of hr) (pv 2) (qD2 (hu_of hr) (pv 1) (pv 4) (fun _ _=>rfl)) (qCh qAc) ⟨rfl,rfl,rfl,rfl⟩) (qCh (qAa (pv 3) qAc))) rfl)))
  (qAi (qAv (qBk (qFy rfl) rfl ml qBn (qAa (pe_bm0 PySem.F.plainAttrs_dict PySem.F.slot_dict_values PySem.F.type_dict_values mt_values (pv 2)) qAc)))))),?_⟩
 obtain ⟨as,hp,pr⟩:=id nt
 have lA:as.length=net.length:=pr.length
 refine ⟨_,rfl,p,net,rfl,nt,hl,fun hm ps H1 e1 hm0 hm1 pok lps=>?_⟩
 intro d hd
 have hd0:=e1.none hd
 have hmd:hm≠d:=qAd hm1 hd
 refine ⟨_,rfl,p,rfl,⟨_,SqL.of ((e1.over hd0 _) _ _ hp)⟩,?_⟩
 refine qBz (xs:=as.map V.ref) (fun i σ H3=>∃ (x3 x4 x5:Option V) (kvs:List (Key×V)),σ=[some (.ref p),some (.ref hm),some (.ref d),x3,x4,x5]/\Ext H H3/\H3 hm=some (.dK (hD ps (homF net)))/\H3 d=some (.dK kvs)/\PD H H3 kvs (PCK (lbF net) (net.take i)))
  ⟨none,none,none,[],rfl,e1.over hd0 _,by rw [qAe hmd];exact hm1,upd_same,by rw [List.take_zero,qEb];exact .nil⟩ ?_ ?_ ?_
 ·rintro i σ H3 _ ⟨x3,x4,x5,kvs,_,e3,_⟩
  exact SqL.of (e3 _ _ hp)
 ·rintro i x σ H3 hx ⟨x3,x4,x5,kvs,rfl,e3,hh3,hd3,pd⟩
  obtain ⟨a,t,rfl,ht,ha⟩:=qCk pr hx
  have hi:=qAx ht
  have i1:t.2.1∈ps:=(pok.2 _).mpr ⟨t,hAr ht,.inl rfl⟩
  have v1:=hD_val (homF net) t.2.1 ps
  rw [if_pos i1] at v1
  have lk:kvs.length<=i:=by
   have h1:kvs.length=_:=pd.length
   have h2:=PCK_len (lbF net) (net.take i)
   rw [hAh] at h2
   omega
  refine ⟨a,_,rfl,SqT.of (e3 _ _ ha),rfl,_,_,rfl,_,_,rfl,_,_,rfl,rfl,?_⟩
  have gh:∀ {H4:Hp},Ext H3 H4->DGet H4 hm (V.str t.2.1) (some (.str (homF net t.2.1))):=fun e=>by
   have g:=DGet.k (k:=Sum.inr t.2.1) (e _ _ hh3)
   rw [v1] at g
   exact g
  refine ⟨_,rfl,d,rfl,.inl ⟨kvs,.inl hd3⟩,_,rfl,_,rfl,hm,_,rfl,gh (Ext.refl _),hAt _,fun l0 hl0=>?_⟩
  have n0:=Ext.new hl0 (.lst [])
  refine ⟨_,DGet.k (k:=Sum.inr (homF net t.2.1)) (n0 _ _ hd3),?_⟩
  refine ⟨_,rfl,(by show 1<=sizeLine;decide),fun l1 hl1=>?_⟩
  have n1:=n0.trans (Ext.new hl1 (.lst [V.str t.1]))
  have snoc:=PCK_snoc (lbF net) t (net.take i)
  rw [<-qAj ht] at snoc
  by_cases m:homF net t.2.1∈(PCK (lbF net) (net.take i)).map (·.1)
  ·obtain ⟨pp,hpp,ep,lv,ev,hlv⟩:=pd.some m
   have lz:=PCK_small (lbF net) (net.take i) pp hpp
   rw [hAh] at lz
   rw [if_pos (show lbF net t∈_ from m)] at snoc
   refine ⟨lv,l1,_,_,by rw [ev];rfl,rfl,n1 _ _ hlv,upd_same,?_,fun l2 hl2=>?_⟩
   ·rw [hA1]
    show _+1<=sizeLine
    exact hBh (qAh (by omega))
   have n2:=n1.trans (Ext.new hl2 (.lst (pp.2.map V.str++[V.str t.1])))
   have d2:=n2 _ _ hd3
   have e4:=(e3.trans n2).over hd0 (.dK (qEn kvs (Sum.inr (homF net t.2.1)) (.ref l2)))
   refine ⟨_,rfl,_,rfl,_,rfl,hm,_,rfl,gh n2,d,_,rfl,DPut.k (k:=Sum.inr (homF net t.2.1)) d2 (qAh (by omega)),?_⟩
   refine ⟨_,_,_,qEn kvs (Sum.inr (homF net t.2.1)) (.ref l2),rfl,e4,by rw [qAe hmd];exact n2 _ _ hh3,upd_same,?_⟩
   rw [snoc]
   have pk:qEn kvs (Sum.inr (homF net t.2.1)) (.ref l2)=kvs.map fun kv=>if kv.1=Sum.inr (homF net t.2.1) then (kv.1,V.ref l2) else kv:=by
    unfold qEn
    rw [qCy,ev,Option.isSome_some,if_pos rfl]
   rw [pk]
   refine PD.set (PD.put (old:=pp.2) (n:=t.1) (by unfold LsS;rw [upd_same,hAa];rfl) ((e3.trans n1).none hl2) (pd.ext n2) (qDs _ _).1 fun p' hp' ep'=>?_) d2 _
   rw [PCK_val _ _ p' hp',PCK_val _ _ pp hpp,ep',ep]
  ·have ev:=pd.none m
   rw [if_neg (show ¬lbF net t∈_ from m)] at snoc
   refine ⟨l0,l1,_,_,by rw [ev];rfl,rfl,(Ext.new hl1 _) _ _ upd_same,upd_same,(by show 1<=sizeLine;decide),fun l2 hl2=>?_⟩
   have n2:=n1.trans (Ext.new hl2 (.lst ([]++[V.str t.1])))
   have d2:=n2 _ _ hd3
   have e4:=(e3.trans n2).over hd0 (.dK (qEn kvs (Sum.inr (homF net t.2.1)) (.ref l2)))
   refine ⟨_,rfl,_,rfl,_,rfl,hm,_,rfl,gh n2,d,_,rfl,DPut.k (k:=Sum.inr (homF net t.2.1)) d2 (qAh (by omega)),?_⟩
   refine ⟨_,_,_,qEn kvs (Sum.inr (homF net t.2.1)) (.ref l2),rfl,e4,by rw [qAe hmd];exact n2 _ _ hh3,upd_same,?_⟩
   rw [snoc,putK_new _ ev]
   exact PD.set (P:=PCK (lbF net) (net.take i)++[(lbF net t,[t.1])]) (Paired.snoc (pd.ext n2) ⟨rfl,l2,rfl,(upd_same:upd _ _ (HO.lst [V.str t.1]) _=_),(e3.trans n1).none hl2⟩) d2 _
 ·rintro σ H3 ⟨x3,x4,x5,kvs,rfl,e3,hh3,hd3,pd⟩
  rw [hA1,lA,hA8 (hA5 _)] at pd
  refine ⟨_,rfl,.inr (.inr (.inl ⟨rfl,.inl ⟨kvs,hd3⟩⟩)),d,kvs,rfl,rfl,hd3,fun v hv'=>?_⟩
  have n1:=Ext.new hv' (VwS v d)
  refine ⟨v,d,kvs,rfl,upd_same,n1 _ _ hd3,fun l hl'=>?_⟩
  obtain ⟨bs,eb,pb⟩:=pd_rows pd
  have n2:=n1.trans (Ext.new hl' (.lst (kvs.map (·.2))))
  exact q l _ (e3.trans n2) ((e3.trans n1).none hl') ⟨bs,by rw [upd_same,eb],Paired.mapP pb fun a t z=>⟨n2 _ _ z.1,z.2,qAd (n1 _ _ z.1) hl'⟩⟩
end
end My
namespace My
open PySem L2
abbrev nmS (net:List Tr):List Str:=net.map fun t=>t.1
theorem nm_at {net:List Tr} {i:Nat} {t:Tr} (h:net[i]?=some t):(nmS net)[i]?=some t.1:=by rw [hAj,h];rfl
theorem nm_inj {net:List Tr} (nd:(nmS net).Nodup) {t u:Tr} (ht:t∈net) (hu:u∈net) (e:t.1=u.1):t=u:=by
 induction net with
 | nil=>cases ht
 | cons v r ih =>
  have nd':(v.1 :: nmS r).Nodup:=nd
  obtain ⟨n1,n2⟩:=hB0.mp nd'
  rcases hA9.mp ht with a | a <;> rcases hA9.mp hu with b | b
  ·rw [a,b]
  ·subst a;exact absurd (hAb.mpr ⟨u,b,e.symm⟩) n1
  ·subst b;exact absurd (hAb.mpr ⟨t,a,e⟩) n1
  ·exact ih n2 a b
theorem met_mem {net:List Tr} (nd:(nmS net).Nodup) {t:Tr} (ht:t∈net) (x:Str):t.1∈metF net x↔(decide (t.2.1=x) != decide (t.2.2=x))=true:=by
 unfold metF
 rw [hAb]
 constructor
 ·rintro ⟨u,hu,e⟩
  obtain ⟨h1,h2⟩:=hAg.mp hu
  rw [<-nm_inj nd h1 ht e];exact h2
 ·intro h
  exact ⟨t,hAg.mpr ⟨ht,h⟩,rfl⟩
theorem bx:∀ a b:Bool,decide ((a != b)=true)=(a ^^ b):=fun a b=>by cases a <;> cases b <;> rfl
def gT (net:List Tr) (g:Tr->Bool) (i:Nat):Bool:=match net[i]? with | some t=>g t | none=>false
def atX (x:Str) (t:Tr):Bool:=decide (t.2.1=x) ^^ decide (t.2.2=x)
theorem sm_bit {net:List Tr} (nd:(nmS net).Nodup) (x:Str) {j:Nat} (hj:j<net.length):(maskF (nmS net) (metF net x)).testBit j=gT net (atX x) (net.length - 1 - j):=by
 rw [qB5,hA1,decide_eq_true hj,hCy]
 have hi:net.length - 1 - j<net.length:=by omega
 have ht:=hA3 hi
 unfold gT
 rw [nm_at ht,ht]
 have e:(∃ n,some net[net.length - 1 - j].1=some n/\n∈metF net x)↔net[net.length - 1 - j].1∈metF net x:=⟨fun ⟨n,h1,h2⟩=>by cases h1;exact h2,fun h=>⟨_,rfl,h⟩⟩
 exact (decide_eq_decide.mpr (e.trans (met_mem nd (hBf hi) x))).trans (bx _ _)
theorem dot_sm {net:List Tr} (nd:(nmS net).Nodup) (x:Str) (z:Nat):dot net.length z (maskF (nmS net) (metF net x))=xsum net.length fun i=>z.testBit (net.length - 1 - i) && gT net (atX x) i:=by
 unfold dot
 rw [<-xsum_rev (fun i=>z.testBit (net.length - 1 - i) && gT net (atX x) i)]
 refine qAy fun j hj=>?_
 rw [sm_bit nd x hj,show net.length - 1 - (net.length - 1 - j)=j by omega]
theorem pow_ix {ps:List Str} {x y:Str} (hx:x∈ps) (hy:y∈ps):(2^ixF ps x).testBit (ixF ps y)=decide (x=y):=by
 rw [hB7]
 refine decide_eq_decide.mpr ⟨fun e=>?_,fun e=>by rw [e]⟩
 have h1:=(ixF_at hx).1
 have h2:=(ixF_at hy).1
 rw [e,h2] at h1
 exact (hAs h1).symm
theorem bd_pt {net:List Tr} {ps:List Str} (hp:∀ x,qGh net x->x∈ps) {x:Str} (hx:x∈ps) (y:Nat):(bd (vF net ps) net.length y).testBit (ixF ps x)=xsum net.length fun i=>y.testBit i && gT net (atX x) i:=by
 rw [bd_bit]
 refine qAy fun i hi=>?_
 have ht:=hA3 hi
 rw [vF_at ht]
 unfold gT vT atX
 rw [ht,hAq,pow_ix (hp _ ⟨_,hBf hi,.inl rfl⟩) hx,pow_ix (hp _ ⟨_,hBf hi,.inr rfl⟩) hx]
theorem bd_zero_iff {net:List Tr} {ps:List Str} (hp:∀ x,qGh net x->x∈ps) (y:Nat):bd (vF net ps) net.length y=0↔∀ x∈ps,(bd (vF net ps) net.length y).testBit (ixF ps x)=false:=by
 constructor
 ·intro e x _;rw [e];simp
 ·intro h
  refine hB3 fun q=>?_
  rw [Nat.zero_testBit]
  by_cases c:∃ x∈ps,ixF ps x=q
  ·obtain ⟨x,hx,rfl⟩:=c
   exact h x hx
  ·rw [bd_bit,qAy (g:=fun _=>false) fun i hi=>?_,qB1]
   have ht:=hA3 hi
   rw [vF_at ht]
   unfold vT
   rw [hAq,hB7,hB7,decide_eq_false fun z=>c ⟨_,hp _ ⟨_,hBf hi,.inl rfl⟩,z⟩,decide_eq_false fun z=>c ⟨_,hp _ ⟨_,hBf hi,.inr rfl⟩,z⟩]
   simp
theorem link {net:List Tr} {ps ps':List Str} (nd:(nmS net).Nodup) (pk:qEa net ps) (pk':qEa net ps') {z:Nat} (hz:z<2^net.length):(∀ x∈ps,dot net.length z (maskF (nmS net) (metF net x))=false)↔bd (vF net ps') net.length (rv net.length z)=0:=by
 have hp:∀ x,qGh net x->x∈ps':=fun x hx=>(pk'.2 x).mpr hx
 rw [bd_zero_iff hp]
 have e:∀ x∈ps',dot net.length z (maskF (nmS net) (metF net x))=(bd (vF net ps') net.length (rv net.length z)).testBit (ixF ps' x):=fun x hx=>by
  rw [dot_sm nd,bd_pt hp hx]
  refine qAy fun i hi=>?_
  rw [qCo,decide_eq_true hi,hCy]
 constructor
 ·intro h x hx
  rw [<-e x hx]
  exact h x ((pk.2 x).mpr ((pk'.2 x).mp hx))
 ·intro h x hx
  have hx':=(pk'.2 x).mpr ((pk.2 x).mp hx)
  rw [e x hx']
  exact h x hx'
theorem spn_rv {m:Nat} {F:List Nat} (hF:∀ x∈F,x<2^m) (z:Nat):Spn (F.map (rv m)) z↔z<2^m/\Spn F (rv m z):=by
 constructor
 ·intro h
  refine ⟨Spn.lt (fun x hx=>?_) h,?_⟩
  ·obtain ⟨y,_,rfl⟩:=hAb.mp hx
   exact rv_lt m y
  ·induction h with
   | zero=>rw [qE9];exact .zero
   | add hm _ ih =>
    obtain ⟨y,hy,rfl⟩:=hAb.mp hm
    rw [rv_xor,rv_rv (hF y hy)]
    exact .add hy ih
 ·rintro ⟨hz,h⟩
  rw [<-rv_rv hz]
  generalize rv m z=y at h
  induction h with
  | zero=>rw [qE9];exact .zero
  | add hm _ ih=>rw [rv_xor];exact .add (hB6 hm) ih
structure Made (net:List Tr) (ps ps':List Str) (S M:List Nat) (K:List (Nat×Nat)) (F:List Nat):Prop where
 rs:qFz (nmS net)
 pk:qEa net ps
 pk':qEa net ps'
 pS:S.Perm (red (ps.map fun x=>maskF (nmS net) (metF net x)))
 pM:M.Perm (red (qCx S net.length))
 dM:M.Pairwise fun a b=>b<=a
 ei:EIv (vF net ps') net.length net.length K F
 kw:K.length=(woodF net).length
theorem qCr {l:List Str} (h:qFz l):l.Nodup:=List.Pairwise.imp (fun {a b} z e=>by rw [e,qDj] at z;cases z) h
section
variable {net:List Tr} {ps ps':List Str} {S M:List Nat} {K:List (Nat×Nat)} {F:List Nat}
theorem Made.rrS (h:Made net ps ps' S M K F):RR S:=(qC8 _).perm h.pS
theorem Made.ltS (h:Made net ps ps' S M K F):∀ s∈S,s<2^net.length:=fun s hs=>by
 have:=red_lt (xs:=ps.map fun x=>maskF (nmS net) (metF net x)) (m:=net.length) (fun y hy=>by
  obtain ⟨x,_,rfl⟩:=hAb.mp hy
  have:=qDo (nmS net) (metF net x)
  rw [hA1] at this
  exact this) s (h.pS.mem_iff.mp hs)
 exact this
theorem Made.spM (h:Made net ps ps' S M K F) (z:Nat):Spn (red (qCx S net.length)) z↔z<2^net.length/\∀ x∈ps,dot net.length z (maskF (nmS net) (metF net x))=false:=by
 rw [qDc,cr_spn h.rrS h.ltS]
 refine and_congr_right fun _=>⟨fun a x hx=>?_,fun a s hs=>?_⟩
 ·have:Spn (red (ps.map fun x=>maskF (nmS net) (metF net x))) (maskF (nmS net) (metF net x)):=(qDc _ _).mpr (.mem (hB6 (f:=fun x=>maskF (nmS net) (metF net x)) hx))
  exact spn_dot (fun s hs=>a s (h.pS.mem_iff.mpr hs)) this
 ·have:=(qDc _ _).mp (Spn.mem (h.pS.mem_iff.mp hs))
  exact spn_dot (fun y hy=>by
   obtain ⟨x,hx,rfl⟩:=hAb.mp hy
   exact a x hx) this
theorem Made.fl (h:Made net ps ps' S M K F):∀ x∈F,x<2^net.length:=fun x hx=>(h.ei.f1 x hx).1
theorem Made.perm (h:Made net ps ps' S M K F):M.Perm ((redL F).map (rv net.length)):=by
 obtain ⟨_,e⟩:=redL_rv (m:=net.length) F h.fl
 rw [e]
 refine h.pM.trans ?_
 have sp:∀ z,Spn (red (qCx S net.length)) z↔Spn (red (F.map (rv net.length))) z:=fun z=>by
  rw [h.spM,qDc,spn_rv h.fl]
  refine and_congr_right fun hz=>?_
  rw [link (qCr h.rs) h.pk h.pk' hz,h.ei.done]
  exact ⟨fun a=>⟨rv_lt _ _,a⟩,fun a=>a.2⟩
 have r1:=qC8 (qCx S net.length)
 have r2:=qC8 (F.map (rv net.length))
 exact (hBd r1.nd r2.nd).mpr fun z=>⟨rr_uniq r1 r2 sp z,rr_uniq r2 r1 (fun y=>(sp y).symm) z⟩
theorem Made.len (h:Made net ps ps' S M K F):M.length+(woodF net).length=net.length:=by
 have f:Fsh (F.map (rv net.length)):=fun i x hx=>by
  rw [hAj] at hx
  cases e:F[i]? with
  | none=>rw [e] at hx;cases hx
  | some y =>
   rw [e] at hx
   obtain rfl:rv net.length y=x:=hAs hx
   obtain ⟨j,h1,h2⟩:=h.ei.fsh i y e
   have yl:=h.fl y (hAr e)
   have jl:j<net.length:=by
    rcases hD5 j net.length with z | z
    ·exact z
    ·rw [qDh yl z] at h1;cases h1
   have sw:∀ v,(rv net.length v).testBit (net.length - 1 - j)=v.testBit j:=fun v=>by rw [qCo,decide_eq_true (by omega),hCy,show net.length - 1 - (net.length - 1 - j)=j by omega]
   refine ⟨net.length - 1 - j,by rw [sw];exact h1,fun v hv=>?_⟩
   rw [<-List.map_take] at hv
   obtain ⟨u,hu,rfl⟩:=hAb.mp hv
   rw [sw];exact h2 u hu
 have e1:=h.perm.length_eq
 rw [hA1] at e1
 obtain ⟨_,e⟩:=redL_rv (m:=net.length) F h.fl
 have e2:=congrArg List.length e
 rw [hA1,red_len _ f,hA1] at e2
 have e3:=h.ei.len
 have e4:=h.kw
 omega
end
end My
namespace My
open PySem L2
theorem filt_t {α:Type} {p:α->Bool} {l:List α} {i:Nat} {t:α} (h:l[i]?=some t) (c:p t=true):(l.take (i+1)).filter p=(l.take i).filter p++[t]:=by rw [qAj h,hC3];simp [c]
theorem filt_f {α:Type} {p:α->Bool} {l:List α} {i:Nat} {t:α} (h:l[i]?=some t) (c:p t=false):(l.take (i+1)).filter p=(l.take i).filter p:=by rw [qAj h,hC3];simp [c]
end My
namespace My
open PySem L2
theorem qEw {names:List Str} {z:Nat} {n:Str}:n∈rowM names z↔∃ i,i<names.length/\names[i]?=some n/\z.testBit (names.length - 1 - i)=true:=by
 unfold rowM
 rw [List.mem_filterMap]
 constructor
 ·rintro ⟨i,hi,e⟩
  split at e
  ·rename_i b
   exact ⟨i,hBj.mp hi,e,b⟩
  ·cases e
 ·rintro ⟨i,hi,e,b⟩
  exact ⟨i,hBj.mpr hi,by rw [if_pos b];exact e⟩
theorem rowM_sub {names:List Str} {z:Nat} {n:Str} (h:n∈rowM names z):n∈names:=by
 obtain ⟨i,_,e,_⟩:=qEw.mp h
 exact hAr e
theorem idx_one {names:List Str} (nd:names.Nodup) {i j:Nat} {n:Str} (hi:names[i]?=some n) (hj:names[j]?=some n):i=j :=
 (List.getElem?_inj (hAp.mp hi).1 nd).mp (hi.trans hj.symm)
abbrev chi (names:List Str) (z:Nat):Str->Bool:=fun n=>decide (n∈rowM names z)
theorem chi_at {names:List Str} (nd:names.Nodup) {z i:Nat} {n:Str} (hi:names[i]?=some n):chi names z n=z.testBit (names.length - 1 - i):=by
 have il:=(hAp.mp hi).1
 cases q:z.testBit (names.length - 1 - i) with
 | true=>exact decide_eq_true (qEw.mpr ⟨i,il,hi,q⟩)
 | false =>
  refine decide_eq_false fun m=>?_
  obtain ⟨j,_,ej,bj⟩:=qEw.mp m
  rw [idx_one nd ej hi,q] at bj;cases bj
theorem qDn {names:List Str} (nd:names.Nodup) {z:Nat} (hz:z<2^names.length):maskF names (rowM names z)=z:=by
 refine hB3 fun j=>?_
 rw [qB5]
 by_cases hj:j<names.length
 ·rw [decide_eq_true hj,hCy]
  have hi:names.length - 1 - j<names.length:=by omega
  have e:=hA3 hi
  have c:=chi_at nd (z:=z) e
  rw [show names.length - 1 - (names.length - 1 - j)=j by omega] at c
  rw [<-c]
  refine decide_eq_decide.mpr ⟨fun ⟨n,h1,h2⟩=>?_,fun h=>⟨_,e,h⟩⟩
  rw [e] at h1
  cases h1
  exact h2
 ·rw [decide_eq_false hj,qDh hz (by omega)];rfl
theorem chi_mask {names:List Str} (nd:names.Nodup) (r:List Str) {n:Str} (hn:n∈names):chi names (maskF names r) n=decide (n∈r):=by
 obtain ⟨i,hi,e⟩:=List.getElem_of_mem hn
 have e':names[i]?=some n:=by rw [hA3 hi,e]
 rw [chi_at nd e',qB5,decide_eq_true (by omega:names.length - 1 - i<names.length),hCy,show names.length - 1 - (names.length - 1 - i)=i by omega]
 refine decide_eq_decide.mpr ⟨fun ⟨m,h1,h2⟩=>?_,fun h=>⟨n,e',h⟩⟩
 rw [e'] at h1
 cases h1
 exact h2
theorem mask_ext {names:List Str} {r r':List Str} (h:∀ n∈names,(n∈r↔n∈r')):maskF names r=maskF names r':=by
 refine hB3 fun j=>?_
 rw [qB5,qB5]
 congr 1
 refine decide_eq_decide.mpr ⟨fun ⟨n,h1,h2⟩=>⟨n,h1,(h n (hAr h1)).mp h2⟩,fun ⟨n,h1,h2⟩=>⟨n,h1,(h n (hAr h1)).mpr h2⟩⟩
theorem row_zero (names:List Str):rowM names 0=[]:=by
 cases q:rowM names 0 with
 | nil=>rfl
 | cons n r =>
  have:n∈rowM names 0:=by rw [q];exact hA2
  obtain ⟨i,_,_,b⟩:=qEw.mp this
  simp at b
theorem mask_nil (names:List Str):maskF names []=0:=by
 refine hB3 fun j=>?_
 rw [qB5];simp
def evP (net:List Tr) (r:Str->Bool) (x:Str):Bool:=net.foldr (fun t b=>(r t.1 && atX x t) ^^ b) false
theorem evP_snoc (t:Tr) (r:Str->Bool) (x:Str):∀ l:List Tr,evP (l++[t]) r x=(evP l r x ^^ (r t.1 && atX x t))
 | []=>by simp [evP]
 | u :: l=>by
  show ((r u.1 && atX x u) ^^ evP (l++[t]) r x)=(((r u.1 && atX x u) ^^ evP l r x) ^^ _)
  rw [evP_snoc t r x l,Bool.xor_assoc]
theorem qB7 {r r':Str->Bool} (x:Str):∀ {l:List Tr},(∀ t∈l,r t.1=r' t.1)->evP l r x=evP l r' x
 | [],_=>rfl
 | u :: l,h=>by
  show ((r u.1 && atX x u) ^^ evP l r x)=((r' u.1 && atX x u) ^^ evP l r' x)
  rw [h u hA2,qB7 x fun t ht=>h t (hA4 _ ht)]
theorem qGk {r:Str->Bool} (p:Tr->Bool) (x:Str):∀ {l:List Tr},(∀ t∈l,p t=false->r t.1=false)->evP (l.filter p) r x=evP l r x
 | [],_=>rfl
 | u :: l,h=>by
  have ih:=qGk (r:=r) p x (l:=l) fun t ht=>h t (hA4 _ ht)
  rw [List.filter_cons]
  show _=((r u.1 && atX x u) ^^ evP l r x)
  split
  ·show ((r u.1 && atX x u) ^^ evP (l.filter p) r x)=_
   rw [ih]
  ·rename_i q
   rw [h u hA2 (by simpa using q),ih];simp
theorem xsum_ev {net:List Tr} {g:Nat->Bool} {r:Str->Bool} (x:Str):(∀ i t,net[i]?=some t->g i=r t.1)->(xsum net.length fun i=>g i && gT net (atX x) i)=evP net r x:=by
 refine qBo (P:=fun net=>(∀ i t,net[i]?=some t->g i=r t.1)->(xsum net.length fun i=>g i && gT net (atX x) i)=evP net r x) (fun _=>rfl) (fun l t ih h=>?_) net
 have ih':=ih fun i u hu=>h i u (by rw [hBp (hAp.mp hu).1];exact hu)
 rw [evP_snoc,<-ih',hAc]
 show (xsum l.length _ ^^ (g l.length && gT (l++[t]) (atX x) l.length))=_
 rw [h l.length t (by simp)]
 have c1:xsum l.length (fun i=>g i && gT (l++[t]) (atX x) i)=xsum l.length (fun i=>g i && gT l (atX x) i):=qAy fun i hi=>by
  unfold gT
  rw [hBp hi]
 have c2:gT (l++[t]) (atX x) l.length=atX x t:=by unfold gT;simp
 rw [c1,c2]
def Cyc (net:List Tr) (z:Nat):Prop:=z<2^net.length/\∀ x,evP net (chi (nmS net) z) x=false
theorem ev_ex {net:List Tr} {ps:List Str} (hp:∀ x,qGh net x->x∈ps):∃ K F,EIv (vF net ps) net.length net.length K F/\K.length=(woodF net).length:=by
 have:∀ i,i<=net.length->∃ K F,EIv (vF net ps) net.length i K F/\K.length=(woodF (net.take i)).length:=fun i=>by
  induction i with
  | zero=>intro _;exact ⟨[],[],EIv.start _ _,rfl⟩
  | succ i ih =>
   intro hi
   obtain ⟨K,F,ei,kw⟩:=ih (by omega)
   have ht:=hA3 (l:=net) (i:=i) (by omega)
   have nx:=ei.next (by omega:i<net.length)
   have wd:=even_wood hp ei (by omega) ht kw
   split at nx
   ·rename_i z
    rw [if_pos z] at wd
    exact ⟨_,_,nx,wd⟩
   ·rename_i z
    rw [if_neg z] at wd
    exact ⟨_,_,nx,wd⟩
 obtain ⟨K,F,ei,kw⟩:=this net.length (hA5 _)
 rw [hA8 (hA5 _)] at kw
 exact ⟨K,F,ei,kw⟩
structure Tb (net:List Tr) (ps:List Str) (S M:List Nat):Prop where
 rs:qFz (nmS net)
 pk:qEa net ps
 pS:S.Perm (red (ps.map fun x=>maskF (nmS net) (metF net x)))
 pM:M.Perm (red (qCx S net.length))
 dM:M.Pairwise fun a b=>b<=a
theorem Tb.made {net:List Tr} {ps:List Str} {S M:List Nat} (h:Tb net ps S M):∃ K F,Made net ps ps S M K F:=by
 obtain ⟨K,F,ei,kw⟩:=ev_ex (net:=net) (ps:=ps) fun x hx=>(h.pk.2 x).mpr hx
 exact ⟨K,F,⟨h.rs,h.pk,h.pk,h.pS,h.pM,h.dM,ei,kw⟩⟩
theorem Tb.spn {net:List Tr} {ps:List Str} {S M:List Nat} (h:Tb net ps S M) (z:Nat):Spn M z↔Cyc net z:=by
 obtain ⟨K,F,md⟩:=h.made
 have nd:=qCr h.rs
 have e0:Spn M z↔Spn (red (qCx S net.length)) z:=⟨fun a=>a.mono fun u hu=>.mem (h.pM.mem_iff.mp hu),fun a=>a.mono fun u hu=>.mem (h.pM.mem_iff.mpr hu)⟩
 rw [e0,md.spM z]
 have ev:∀ x,dot net.length z (maskF (nmS net) (metF net x))=evP net (chi (nmS net) z) x:=fun x=>by
  rw [dot_sm nd]
  refine xsum_ev x fun i t ht=>?_
  have:=chi_at nd (z:=z) (nm_at ht)
  rw [hA1] at this
  exact this.symm
 unfold Cyc
 refine and_congr_right fun _=>⟨fun a x=>?_,fun a x _=>(ev x).trans (a x)⟩
 by_cases hx:qGh net x
 ·rw [<-ev x];exact a x ((h.pk.2 x).mpr hx)
 ·have:∀ l:List Tr,(∀ t∈l,t∈net)->evP l (chi (nmS net) z) x=false:=fun l=>by
   induction l with
   | nil=>intro _;rfl
   | cons u l ih =>
    intro hl
    show ((chi (nmS net) z u.1 && atX x u) ^^ evP l (chi (nmS net) z) x)=false
    rw [ih fun t ht=>hl t (hA4 _ ht)]
    have um:=hl u hA2
    have a1:¬u.2.1=x:=fun e=>hx ⟨u,um,.inl e.symm⟩
    have a2:¬u.2.2=x:=fun e=>hx ⟨u,um,.inr e.symm⟩
    unfold atX
    rw [decide_eq_false a1,decide_eq_false a2];simp
  exact this net fun t ht=>ht
theorem Tb.len {net:List Tr} {ps:List Str} {S M:List Nat} (h:Tb net ps S M):M.length+(woodF net).length=net.length:=by
 obtain ⟨K,F,md⟩:=h.made
 exact md.len
end My
namespace L2
open PySem PySem.Spec PyProof.Rows
end L2
namespace L2
open PySem PySem.Spec PyProof.Rows PySem.SeqAt PySem.MeetsSeq
end L2
namespace L2
open PySem PySem.Spec PyProof.Rows
section
variable {X:Cx} {k:Nat} {f:Addr} {fd:FuncData} {ps:List Str} {sp:Sp} {E:XK}
structure Aw (X:Cx) (pins:List (Addr×Obj)) (a:Addr):Prop where
 loc:a≠X.env.locals
 ab:X.s₀.heap.objs.size<=a
 cel:∀ x c,X.env.cells.lookup x=some c->c≠a
 pin:∀ p∈X.pn++pins,p.1≠a
 fs:a∉X.fs
theorem Inv.aw {pins:List (Addr×Obj)} {σ:St} {H:Hp} {s:Shared} (I:Inv X pins σ H s) {a:Addr} (h:s.heap.objs.size<=a):Aw X pins a:=by
 refine ⟨hCd (hAi I.lt h),hAv I.sz h,fun x c e=>?_,fun p hp=>?_,I.nofs h⟩
 ·obtain ⟨v,o,ho,_⟩:=I.cell x c e
  exact hAk (hAi (Heap.lt_size ho) h)
 ·exact hAk (hAi (Heap.lt_size (I.pin p hp).1) h)
theorem Inv.adoptL {pins:List (Addr×Obj)} {σ:St} {H:Hp} {s:Shared} {a:Addr} {ys:List V} {its:List Value} {n:Nat} (I:Inv X pins σ H s) (w:Aw X pins a) (hn:H a=none) (hv:qA6 ys its) (hz:ys.length<=sizeLine)
  (e:s.heap.get? a=some { cls:=.type "list",data:=.seq its.toArray n }):Inv X pins σ (upd H a (.lst ys)) s:=by
 refine ⟨I.ok,I.os,I.bare,⟨I.base.keep,I.base.slot,fun b o q n' hx=>?_,I.base.there,fun b xs q=>?_,fun b o u q=>?_,fun b ps q=>?_⟩,I.loc,I.cell,?_,fun x c q=>?_,fun p hp=>?_,fun b u q=>?_,I.len⟩
 ·rw [qAe (hAk (hAi (Heap.lt_size q) w.ab))];exact I.base.free b o q n' hx
 ·have:=I.base.tups b xs q
  rw [qAe (qAd this hn)];exact this
 ·have:=I.base.frzs b o u q
  rw [qAe (qAd this hn)];exact this
 ·obtain ⟨m,this⟩:=I.base.tbls b ps q
  exact ⟨m,by rw [qAe (qAd this hn)];exact this⟩
 ·rw [qAe (Ne.symm w.loc)];exact I.free
 ·rw [qAe (w.cel x c q)];exact I.freeC x c q
 ·obtain ⟨h1,h2,h3⟩:=I.pin p hp
  exact ⟨h1,by rw [qAe (w.pin p hp)];exact h2,h3⟩
 ·by_cases hb:b=a
  ·subst hb
   rw [upd_same] at q;cases q
   exact ⟨hz,its,n,hv,e⟩
  ·rw [qAe hb] at q
   exact (I.hok b u q).stay (fun c v _ r=>r) (fun c r=>by rw [qAe (qAd r hn)];exact r) fun c xs r=>by rw [qAe (qAd r hn)];exact r
theorem Inv.repinL {pins:List (Addr×Obj)} {σ:St} {H:Hp} {s:Shared} {a:Addr} {its:Array Value} {n:Nat} (f:Array Value->Array Value) (I:Inv X pins σ H s) (w:Aw X pins a) (hn:H a=none) (e:s.heap.get? a=some (seqObj "list" its n)) :
  ∃ n',Inv X pins σ H { s with heap:=s.heap.update a (Obj.mapSeq f) }/\(s.heap.update a (Obj.mapSeq f)).get? a=some (seqObj "list" (f its) n'):=by
 obtain ⟨c,hc⟩:∃ c,(s.heap.update a (Obj.mapSeq f)).get? a=some (seqObj "list" (f its) c):=⟨_,get?_update_seq e f⟩
 refine ⟨c,?_,hc⟩
 exact I.turned (t':=s.toks) (it:=a) (fun b o hb q=>(Heap.get?_update_other s.heap _ (Ne.symm hb)).trans q) hn w.loc (.inr w.ab) w.cel w.pin
theorem Inv.pinL {pins:List (Addr×Obj)} {σ:St} {H:Hp} {s:Shared} {a:Addr} {its:Array Value} {n:Nat} (I:Inv X pins σ H s) (w:Aw X pins a) (hn:H a=none) (e:s.heap.get? a=some (seqObj "list" its n)) :
  Inv X ((a,seqObj "list" its n) :: pins) σ H s:=I.pins_of fun p hp=>by
 rcases hA9.mp hp with rfl | hp
 ·exact ⟨e,hn,w.loc,w.fs,fun v q=>by cases q⟩
 ·exact I.pin p (hA6 _ hp)
theorem Inv.unpin {pins:List (Addr×Obj)} {σ:St} {H:Hp} {s:Shared} {q:Addr×Obj} (I:Inv X (q :: pins) σ H s):Inv X pins σ H s:=I.pins_of fun p hp=>I.pin p (hA6 _ (hA4 _ hp))
theorem Aw.cons {pins:List (Addr×Obj)} {a b:Addr} {o:Obj} (w:Aw X pins a) (h:b≠a):Aw X ((b,o) :: pins) a:=⟨w.loc,w.ab,w.cel,fun p hp=>by
 rcases hAf.mp hp with q | q
 ·exact w.pin p (hAm _ q)
 ·rcases hA9.mp q with rfl | q
  ·exact h
  ·exact w.pin p (hA6 _ q),w.fs⟩
end
end L2
namespace L2
open PySem PySem.Spec PyProof.Rows
end L2
namespace L2
open PySem PySem.Spec PyProof.Rows
theorem run_lam {P:Program} {w:World} {K:PySem.W.Frag} {mg:Str->Option Value} {base:Heap} {A:Around} {outer:List Env} {s:Shared} {H:Hp} {Q:VK} {f c':Addr} {scope:Scope} {name qual:Str} {params:Arguments} {body:Expr} {x:Str} {pm ctv:Value} {v:V} {u:Value} {t:TE} {k:Nat}
  (hr:Room k A) (e0:Env0 P w K mg base A outer s H) (ho:s.heap.get? f=some (PySem.W.kla_obj name qual params body scope [] pm c' ctv)) (hcd:s.heap.CodeRec (.ref c') qual) (S:FnScope [x] [x] scope)
  (hb:bindArgs (PySem.W.kla_fn name qual params body scope [] pm (.ref c') ctv) ⟨[u],[]⟩=pure [(x,u)]) (r:qBg v u)
  (ht:PE (cxOf CX0 P w K mg base [x] qual scope f (.ref c') A outer s H E0) body t) (hq:t (start [x] [v]) H Q) :
  codeAny (model P w) A (.call (.ref f) ⟨[u],[]⟩) (CR CX0 outer P w H s Q E0) s:=by
 have lim:s.heap.NoLimit:=e0.mod.nolimit.keeps fun b o e=>(e0.bs b o e).1
 refine PySem.W.kla_callFunE hr.depth ho rfl S.co S.gen rfl hcd ?_
 rw [hb]
 have hkind:∀ y∈[(x,u)],scope.names.lookup y.1=some .local\/(scope.names.lookup y.1=some .cell/\((cellsFrom (s.heap.objs.size+1) scope.names []).lookup y.1).isSome=true):=fun y hy=>by
  rw [hA7] at hy
  subst hy
  rcases S.par x hA2 with q | q
  ·exact .inl q
  ·exact .inr ⟨q,hCv _ _ _ (.inl q)⟩
 refine wpAny_pure (wpAny_newFunctionEnv_cells S.kind hkind fun env he s1 y=>?_)
 subst he
 refine ⟨lim.keeps y.toInCall.keep,PySem.W.kla_codeExpr ?_⟩
 have I:Inv (cxOf CX0 P w K mg base [x] qual scope f (.ref c') A outer s H E0) [] (start [x] [v]) H s1:=inv_start S hr.hd e0 rfl (.cons r .nil) y
 refine wpAny_mono (ht [] s1 (start [x] [v]) H Q I hq) (fun u' s' ⟨v',H',J,rv,q⟩=>⟨v',H',J.os,J.bare,J.base,J.hok,rv,q⟩) fun e s' hs=>hs
end L2
namespace L2
open PySem PySem.Spec PyProof.Rows
def ExtB (P:Addr) (H H':Hp):Prop:=∀ b o,b≠P->H b=some o->H' b=some o
section
variable {X:Cx} {pins:List (Addr×Obj)} {σ:St} {H:Hp} {s:Shared}
theorem Inv.grown {P:Addr} {ps more:Array Value} {h':Heap} {tk:Nat} (I:Inv X pins σ H s) (hP:H P=some (.tbl ps)) (hx:Heap.ExtBut P s.heap h') (hg:h'.get? P=some { cls:=.none,data:=.fields (ps++more) }) :
  Inv X pins σ (upd H P (.tbl (ps++more))) { s with heap:=h',toks:=tk }:=by
 have ne:∀ b,H b=none->b≠P:=fun b n z=>by rw [z,hP] at n;cases n
 refine I.step (g':=s.gens) (d':=s.drawn) (ch:=[]) (fun _ z=>nomatch z) (fun b o _ _ _ e n=>hx b o (ne b n) e) (fun b o _ _ _ e n=>⟨o.slots,hx b o (ne b n) e⟩) (fun b o _ e n=>by rw [qAe (ne b n)];exact n) (fun b o _ e=>?_)
  (fun b xs q=>?_) (fun b o u q=>?_) (fun b qs q=>?_) (fun m hm=>hm.extBut hx (ne _ I.free)) (fun b u q=>?_) I.bare
 ·by_cases hb:b=P
  ·rw [hb];exact ⟨_,hg⟩
  ·exact ⟨o,hx b o hb e⟩
 ·have:b≠P:=fun z=>by rw [z,hP] at q;cases q
  rw [qAe this];exact q
 ·have:b≠P:=fun z=>by rw [z,hP] at q;cases q
  rw [qAe this];exact q
 ·by_cases hb:b=P
  ·subst hb
   rw [hP] at q;cases q
   exact ⟨more,upd_same⟩
  ·exact ⟨#[],by rw [qAe hb,q];simp⟩
 ·by_cases hb:b=P
  ·subst hb
   rw [upd_same] at q;cases q
   exact hg
  ·rw [qAe hb] at q
   refine (I.hok b u q).stay (fun c v hc r=>hx c v ?_ r) (fun c r=>?_) fun c xs r=>?_
   ·rcases hc with rfl | hc
    ·exact hb
    ·intro z;rw [z,hP] at hc;cases hc
   ·have:c≠P:=fun z=>by rw [z,hP] at r;cases r
    rw [qAe this];exact r
   ·have:c≠P:=fun z=>by rw [z,hP] at r;cases r
    rw [qAe this];exact r
end
structure LamAt (X:Cx) (c P:Addr):Prop where
 code:X.env.code = .ref c
 hd:PySem.W.CodeHd X.base c P
 bl:X.base.BuiltinsAt X.mg P
end L2
namespace L2
open PySem PySem.Spec PyProof.Rows
def OnlyT (T:Addr) (H:Hp):Prop:=∀ b,b≠T->H b=none\/∃ o xs,H b=some (.frz o (.lst xs))
theorem mem_lk {β:Type}:∀ {l:List (Addr×β)} {a:Addr} {b:β},l.lookup a=some b->(a,b)∈l
 | [],_,_,h=>by cases h
 | (k,v) :: l,a,b,h=>by
  rw [hCm] at h
  by_cases e:(a == k)=true
  ·rw [e] at h
   cases h
   rw [beq_iff_eq.mp e]
   exact hA2
  ·rw [Bool.not_eq_true] at e
   rw [e] at h
   exact hA4 _ (mem_lk h)
theorem noTab {K:PySem.W.Frag} {h:Heap} {T:Addr} {ps:Array Value} (X:K.In h) (n:PySem.W.noTabs K=true) (e:h.get? T=some (PySem.W.tabObj ps)):K.lookup T=none:=by
 cases q:K.lookup T with
 | none=>rfl
 | some o =>
  have e2:=X T o q
  rw [e] at e2
  cases e2
  have m:=mem_lk q
  have:=hCw.mp n _ m
  cases this
theorem law_callT {P:Program} {w:World} {K:PySem.W.Frag} {mg mb:Str->Option Value} {CX:CXT} {k:Nat} {fa a c T:Addr} {fd:FuncData} {x:Str} {sp:Sp} {s₁:Shared} {vs:List Value} {ns:List Int}
  (KX:K.In s₁.heap) (hns:s₁.heap.Ns mainGlobals mg) (hb:s₁.heap.Ns builtinsNs mb) (hbb:∀ x:Str,x≠"__name__"->mb x=bootBuiltins x) (hlim:s₁.heap.NoLimit) (hg:s₁.gens=#[])
  (ha:s₁.heap.get? a=some { cls:=.type "list",data:=.seq vs.toArray }) (hi:IntsAre vs ns) (hl:ns.length<=sizeLine) (hr:Room k callerA)
  (hC:PySem.W.CodeHd s₁.heap c T) (hT:s₁.heap.get? T=some (PySem.W.tabObj #[])) (hnt:PySem.W.noTabs K=true) (hB:s₁.heap.BuiltinsAt mg T)
  (F:∀ base:Heap,K.In base->base.Ns mainGlobals mg->PySem.W.CodeHd base c T->base.BuiltinsAt mg T->FnOk P w K mg base CX k fa fd [x] sp) (hbind:∀ (s:Shared) (u:Value),BindsTo s fd ⟨[u],[]⟩ [(x,u)])
  (hsp:∀ H:Hp,H T=some (.tbl #[])->SqL K H a (ns.map V.int)->sp [.ref a] H (fun v _=>v = .bl true) fun _ _ _=>False)
  (hCX:∀ H e s',CX [] H s₁ (fun _ _ _=>False) e s'->False) :
  codeAny (model P w) callerA (.call (.ref fa) ⟨[.ref a],[]⟩) (fun r s'=>r = .ok (.ret (.bool true))/\OldK s₁.heap s'.heap/\s'.os=s₁.os/\AllBare s'.gens) s₁:=by
 have rv:=qEz hi
 have lenV:=hi.length
 have hKT:=noTab KX hnt hT
 have aT:a≠T:=fun z=>by rw [z,hT] at ha;cases ha
 have core:∀ H:Hp,OnlyT T H->H T=some (.tbl #[])->SqL K H a (ns.map V.int)->HOk P w H s₁.heap->(∀ b,H b≠none->b=a\/b=T)->(H a≠none->K.lookup a=none) ->
   codeAny (model P w) callerA (.call (.ref fa) ⟨[.ref a],[]⟩) (fun r s'=>r = .ok (.ret (.bool true))/\OldK s₁.heap s'.heap/\s'.os=s₁.os/\AllBare s'.gens) s₁:=by
  intro H hO hHT hS hok hA hK
  have base_of:∀ {b:Addr} {o:Obj},s₁.heap.get? b=some o->H b=none->(hidT s₁.heap H).get? b=some o:=fun e n=>hidT_get e n
  have noA:∀ {b:Addr} {o:Obj},s₁.heap.get? b=some o->(∀ vs n,o.data≠.seq vs n)->o≠PySem.W.tabObj #[]->H b=none:=fun {b o} e d1 d2=>by
   cases q:H b with
   | none=>rfl
   | some u =>
    rcases hA b (by rw [q];simp) with e' | e'
    ·subst e'
     rw [ha] at e;cases e
     exact absurd rfl (d1 _ _)
    ·subst e'
     rw [hT] at e
     exact absurd (hAs e).symm d2
  have nsK:∀ {b:Addr} {m:Str->Option Value},s₁.heap.Ns b m->(hidT s₁.heap H).Ns b m:=fun {b m} ⟨o,es,ep,e,d,r⟩=>⟨o,es,ep,base_of e (noA e (fun _ _ z=>by rw [d] at z;cases z) (fun z=>by rw [z] at d;cases d)),d,r⟩
  have hKb:K.In (hidT s₁.heap H):=fun b o e=>base_of (KX b o e) (by
   cases q:H b with
   | none=>rfl
   | some u =>
    rcases hA b (by rw [q];simp) with e' | e'
    ·subst e'
     rw [hK (by rw [q];simp)] at e;cases e
    ·subst e'
     rw [hKT] at e;cases e)
  have hM:Mod K mg (hidT s₁.heap H):=⟨hKb,nsK hns,⟨mb,nsK hb,hbb⟩,let ⟨mc,h1,h2⟩:=hlim;⟨mc,nsK h1,h2⟩⟩
  have hC':PySem.W.CodeHd (hidT s₁.heap H) c T:=by
   obtain ⟨o,vs',file,tf,flags,tg,inF,text,tt,e1,e2,e3,r⟩:=hC
   refine ⟨o,vs',file,tf,flags,tg,inF,text,tt,base_of e1 (noA e1 (fun _ _ z=>by rw [e3] at z;cases z) (fun z=>by rw [z] at e2;cases e2)),e2,e3,r⟩
  have hB':(hidT s₁.heap H).BuiltinsAt mg T:=by
   obtain ⟨bm,ob,b1,b2,b3,b4,b5,b6,b7,b8⟩:=hB
   exact ⟨bm,ob,b1,b2,b3,b4,base_of b5 (noA b5 (fun _ _ z=>by rw [b8] at z;cases z) (fun z=>by rw [z] at b8;cases b8)),b6,b7,b8⟩
  have e0:Env0 P w K mg (hidT s₁.heap H) callerA [] s₁ H:=⟨rfl,hM,fun b o e=>of_hidT e,Nat.le_of_eq (hidT_size _ _),trivial,fun b hb=>absurd (show b∈([]:List Addr) from hb) (by simp),hok,.of_eq hg⟩
  refine codeAny_mono ((F _ hKb (nsK hns) hC' hB').run callerA [] s₁ H ⟨[.ref a],[]⟩ [.ref a] [.ref a] _ _ hr e0 (hbind s₁ (.ref a)) (.cons rfl .nil) (hsp H hHT hS)) fun r s' h=>?_
  cases r with
  | error e=>exact (hCX H e s' h).elim
  | ok fl =>
   cases fl with
   | next=>exact False.elim h
   | brk=>exact False.elim h
   | cont=>exact False.elim h
   | ret u =>
    obtain ⟨v,H',os,bare,un,hok',r',q⟩:=h
    have q':v = .bl true:=q
    subst q'
    obtain rfl:u=Value.bool true:=r'
    obtain ⟨more,hmT⟩:=un.tbls T _ hHT
    have hTs:s'.heap.get? T=some { cls:=.none,data:=.fields (#[]++more) }:=hok' T _ hmT
    refine ⟨rfl,⟨fun b o e=>?_,fun b o e=>?_⟩,os,bare⟩
    ·by_cases hbT:b=T
     ·subst hbT
      rw [hT] at e;cases e
      exact .inr (.inl ⟨(hC.tab hT).isCodeTable,rfl,#[],more,rfl,hTs⟩)
     ·refine .inl ?_
      cases q:H b with
      | none=>exact un.keep b o e q (by intro z;exact absurd (show b∈([]:List Addr) from z) (by simp)) (by simp)
      | some u =>
       rcases hO b hbT with z | ⟨ob,xs,z⟩
       ·rw [q] at z;cases z
       ·have z2:=un.frzs b ob _ z
        obtain ⟨e1,_⟩:=hok b _ z
        obtain ⟨e2,_⟩:=hok' b _ z2
        rw [e] at e1;cases e1
        exact e2
    ·by_cases hbT:b=T
     ·rw [hbT];exact ⟨_,hTs⟩
     ·cases q:H b with
      | none=>exact ⟨o,un.keep b o e q (by intro z;exact absurd (show b∈([]:List Addr) from z) (by simp)) (by simp)⟩
      | some u =>
       rcases hO b hbT with z | ⟨ob,xs,z⟩
       ·rw [q] at z;cases z
       ·obtain ⟨e2,_⟩:=hok' b _ (un.frzs b ob _ z)
        exact ⟨_,e2⟩
 have tOk:∀ H:Hp,qBf P w H s₁.heap T (.tbl #[]):=fun _=>hT
 cases hk:K.lookup a with
 | some o =>
  have e:=KX a o hk
  rw [ha] at e
  cases e
  refine core (fun b=>if b=T then some (.tbl #[]) else none) (fun b hb=>.inl (if_neg hb)) (if_pos rfl) (.inr ⟨_,vs.toArray,_,hk,rfl,rfl,rfl,by rw [hAd,lenV];exact hl,by simpa using rv⟩) (fun b u z=>?_) (fun b z=>?_) (fun z=>absurd (if_neg aT) z)
  ·by_cases hb:b=T
   ·have z':=(if_pos hb).symm.trans z
    cases z'
    subst hb
    exact tOk _
   ·have z':=(if_neg hb).symm.trans z
    cases z'
  ·by_cases hb:b=T
   ·exact .inr hb
   ·exact absurd (if_neg hb) z
 | none =>
  refine core (fun b=>if b=T then some (.tbl #[]) else if b=a then some (.frz { cls:=.type "list",data:=.seq vs.toArray } (.lst (ns.map V.int))) else none) (fun b hbT=>?_) (if_pos rfl) (.inl (.inr ⟨{ cls:=.type "list",data:=.seq vs.toArray },(if_neg aT).trans (if_pos rfl)⟩)) (fun b u z=>?_) (fun b z=>?_) fun _=>hk
  ·by_cases hb:b=a
   ·exact .inr ⟨_,_,(if_neg hbT).trans (if_pos hb)⟩
   ·exact .inl ((if_neg hbT).trans (if_neg hb))
  ·by_cases hbT:b=T
   ·have z':=(if_pos hbT).symm.trans z
    cases z'
    subst hbT
    exact tOk _
   ·have z:=(if_neg hbT).symm.trans z
    by_cases hb:b=a
    ·have z':=(if_pos hb).symm.trans z
     cases z'
     subst hb
     exact ⟨ha,by rw [hA1];exact hl,vs,_,rv,ha⟩
    ·have z':=(if_neg hb).symm.trans z
     cases z'
  ·by_cases hbT:b=T
   ·exact .inr hbT
   ·by_cases hb:b=a
    ·exact .inl hb
    ·exact absurd ((if_neg hbT).trans (if_neg hb)) z
theorem walk_ofT {l:PySem.W.OpenLaw} {n k:Nat} {q:Program} {loose:List Str} {XP:(Str->Option Value)->Heap->Prop} {YP:World->Heap->Prop} {d dr:DefRec} {K:Params->PySem.W.Frag} {CX:World->CXT} {sp:World->Addr->Sp} {x tx:Str}
  (hn:l.most=some n) (hn2:n<=sizeLine) (hdf:d.params.defaults=[]) (hr:Room k callerA)
  (hY:∀ (w:World) (h:Heap),YP w h->(K w.params).In h) (hrec:(recsOf q).find? (fun e=>e.name == tx)=some dr)
  (hK:∀ w:World,∃ c T,PySem.W.tabIn (K w.params) tx=some (c,T)/\PySem.W.noTabs (K w.params)=true)
  (F:∀ (w:World) (mg:Str->Option Value) (fa:Addr) (h:Heap) (c T:Addr),(K w.params).In h->h.Ns mainGlobals mg->mg d.name=some (.ref fa)->PySem.W.tabIn (K w.params) tx=some (c,T) ->
   ∃ fd:FuncData,(∀ (s:Shared) (u:Value),BindsTo s fd ⟨[u],[]⟩ [(x,u)]) /\
    ∀ base:Heap,(K w.params).In base->base.Ns mainGlobals mg->PySem.W.CodeHd base c T->base.BuiltinsAt mg T->FnOk l.prog w (K w.params) mg base (CX w) k fa fd [x] (sp w T))
  (hsp:∀ (w:World) (T:Addr) (H:Hp) (a:Addr) (ns:List Int),ns.length<=n->H T=some (.tbl #[])->SqL (K w.params) H a (ns.map V.int)->sp w T [.ref a] H (fun v _=>v = .bl true) fun _ _ _=>False)
  (hCX:∀ (w:World) (H:Hp) (s:Shared) (e:Value) (s':Shared),CX w [] H s (fun _ _ _=>False) e s'->False) :
  PySem.W.WalkO q loose XP YP l.row.toRowW d [] (fun f vs=>PySem.call f vs):=by
 refine Att.attach_call hn hdf fun w s₀ s₁ mg mb fa o pm cd doc a vs ns G Y ho hd hcd hmg hobj hints hlen hg=>?_
 have KX:=hY w _ Y
 obtain ⟨c,T,ht,hnt⟩:=hK w
 obtain ⟨hC,hT⟩:=PySem.W.tab_of G.T KX hrec ht
 obtain ⟨bm,ob,b1,b2,b3,b4,b5,b6⟩:=G.T.bmain
 have hbT:bm≠T:=fun z=>by rw [z,hT] at b3;cases b3;cases b4
 have hbG:bm≠mainGlobals:=fun z=>by
  obtain ⟨o',es,ep,e,hd',_⟩:=G.T.g
  rw [z,e] at b3;cases b3;rw [hd'] at b6;cases b6
 obtain ⟨fd,hb,hF⟩:=F w mg fa _ c T KX G.T.g hmg ht
 exact law_callT KX G.T.g G.T.b G.T.builtins G.T.nolimit hg hobj hints (hAv hlen hn2) hr hC hT hnt ⟨bm,ob,b1,b2,hbG,hbT,b3,b4,b5,b6⟩ hF hb (fun H hO hS=>hsp w T H a ns hlen hO hS) fun H e s'=>hCX w H s₁ e s'
section
variable {P:Program} {w:World} {K:PySem.W.Frag} {mg:Str->Option Value} {base:Heap}
theorem Fun.okC {x qual:Str} {st:Stmt} {f:Addr} {fd:FuncData} {N ps:List Str} {k:Nat} {sp:Sp} (F:Fun K x qual st f fd) (S:FnScope N ps (qAb st)) (len:∀ vs H Q E,sp vs H Q E->vs.length=ps.length)
  (hbody:∀ (A:Around) (outer:List Env) (s:Shared) (H:Hp) (vs:List V) (Q:VK) (E:XK),Room k (A.deeper (envOfC qual (qAb st) s.heap.objs.size f fd.code))->sp vs H Q E ->
   ∃ t,PSs (cxOf CX0 P w K mg base N qual (qAb st) f fd.code A outer s H E).nox (qAm st) t/\t { nx:=fun _ H'=>Q .non H',rt:=Q } (start N vs) H):FnOk P w K mg base CX0 (k+1) f fd ps sp:=by
 obtain ⟨oc,od,kV,doc,pm,an,cdv,ct,osl,rfl,lk,hcd⟩:=F.ex
 refine fn_of lk hcd S len fun A outer s H vs Q E hr hsp=>?_
 obtain ⟨t,h,q⟩:=hbody A outer s H vs Q E hr hsp
 exact ⟨t,h.nox,q⟩
theorem code_of {x qual:Str} {st:Stmt} {f c T:Addr} {fd:FuncData} (F:Fun K x qual st f fd) (a:PySem.W.nsIn K mainGlobals x=some (some (.ref f))) (h:PySem.W.tabIn K x=some (c,T)):fd.code = .ref c:=by
 obtain ⟨oc,od,kV,doc,pm,an,cdv,ct,osl,rfl,lk,hcd⟩:=F.ex
 unfold PySem.W.tabIn at h
 rw [a] at h
 dsimp only at h
 rw [lk] at h
 dsimp only at h
 show cdv=_
 cases cdv with
 | ref c2 =>
  dsimp only at h
  split at h
  ·split at h
   ·cases h;rfl
   ·cases h
  ·cases h
 | _=>cases h
end
end L2
namespace L2
open PySem PySem.Spec PyProof.Rows
end L2
namespace L2
open PySem PySem.Spec PyProof.Rows
end L2
namespace L2
open PySem PySem.Spec PyProof.Rows
section
variable {X:Cx} {pins:List (Addr×Obj)} {σ:St} {H:Hp} {s:Shared}
theorem Inv.adoptX {a:Addr} {φ:Heap->Prop} (I:Inv X pins σ H s) (w:Aw X pins a) (hn:H a=none) (hφ:qBf X.prog X.w (upd H a (.ext φ)) s.heap a (.ext φ)):Inv X pins σ (upd H a (.ext φ)) s:=by
 refine ⟨I.ok,I.os,I.bare,⟨I.base.keep,I.base.slot,fun b o q n' hx=>?_,I.base.there,fun b xs q=>?_,fun b o u q=>?_,fun b ps q=>?_⟩,I.loc,I.cell,?_,fun x c q=>?_,fun p hp=>?_,fun b u q=>?_,I.len⟩
 ·rw [qAe (hAk (hAi (Heap.lt_size q) w.ab))];exact I.base.free b o q n' hx
 ·have:=I.base.tups b xs q
  rw [qAe (qAd this hn)];exact this
 ·have:=I.base.frzs b o u q
  rw [qAe (qAd this hn)];exact this
 ·obtain ⟨m,this⟩:=I.base.tbls b ps q
  exact ⟨m,by rw [qAe (qAd this hn)];exact this⟩
 ·rw [qAe (Ne.symm w.loc)];exact I.free
 ·rw [qAe (w.cel x c q)];exact I.freeC x c q
 ·obtain ⟨h1,h2,h3⟩:=I.pin p hp
  exact ⟨h1,by rw [qAe (w.pin p hp)];exact h2,h3⟩
 ·by_cases hb:b=a
  ·subst hb
   rw [upd_same] at q;cases q
   exact hφ
  ·rw [qAe hb] at q
   exact (I.hok b u q).stay (fun c v _ r=>r) (fun c r=>by rw [qAe (qAd r hn)];exact r) fun c xs r=>by rw [qAe (qAd r hn)];exact r
end
def codeO (c:Addr) (q:Str):HO:=.ext fun h=>h.CodeRec (.ref c) q
theorem codeO_ok {P:Program} {w:World} {H:Hp} {h:Heap} {c:Addr} {q:Str} (r:h.CodeRec (.ref c) q):qBf P w H h c (codeO c q):=by
 obtain ⟨c2,oc,vs,t,e,ho,hd,hv⟩:=id r
 cases e
 refine ⟨r,⟨oc,ho⟩,fun h1 h2 r1 k=>?_⟩
 obtain ⟨c3,oc',vs',t',e',ho',hd',hv'⟩:=r1
 cases e'
 exact ⟨c,oc',vs',t',rfl,k _ ho',hd',hv'⟩
def TabW (H:Hp) (P:Addr) (lpos:Pos) (q:Str):Prop:=H P=some (.tbl #[])\/∃ c',H P=some (.tbl #[rawInt lpos.line,rawInt lpos.col,.ref c'])/\H c'=some (codeO c' q)
theorem among3 (lpos:Pos) (v:Value):codeAmong lpos (#[rawInt lpos.line,rawInt lpos.col,v]:Array Value).toList=some v:=by
 show (if _ then _ else _)=_
 simp
theorem TabW.ext {H H':Hp} {P:Addr} {lpos:Pos} {q:Str} (h:TabW H P lpos q) (e:∀ b o,H b=some o->H' b=some o):TabW H' P lpos q:=by
 rcases h with h | ⟨c,h1,h2⟩
 ·exact .inl (e _ _ h)
 ·exact .inr ⟨c,e _ _ h1,e _ _ h2⟩
section
variable {X:Cx} {k:Nat}
theorem sq_B {K:PySem.W.Frag} {H H':Hp} {P l:Addr} {xs:List V} {ps:Array Value} (hP:H P=some (.tbl ps)) (e:ExtB P H H') (hq:SqL K H l xs):SqL K H' l xs:=by
 rcases hq with (hq | ⟨o,hq⟩) | hq
 ·exact .inl (.inl (e _ _ (fun z=>by rw [z,hP] at hq;cases hq) hq))
 ·exact .inl (.inr ⟨o,e _ _ (fun z=>by rw [z,hP] at hq;cases hq) hq⟩)
 ·exact .inr hq
end
end L2
namespace L2
open PySem PySem.Spec PyProof.Rows
def gallop':Bool->Keyed->Array Keyed->Nat->Nat->Nat->StateT SortSt Sem (Option Nat):=sortPriv% PySem.Builtin.gallop
def beyond' (left:Bool) (key:Keyed) (arr:Array Keyed) (base:Nat) (i:Nat):StateT SortSt Sem (Option Bool):=do
 let x ← elem' arr (base+i)
 if left then lt' x key else return (← lt' key x).map (!·)
def g3 (left:Bool) (key:Keyed) (arr:Array Keyed) (base n lo0 hi0:Nat):StateT SortSt Sem (Option Nat):=do
 let mut lo:=lo0
 let mut hi:=hi0
 for _ in [0:n] do
  if lo >= hi then break
  let m:=lo+(hi - lo) / 2
  let some more ← beyond' left key arr base m | return none
  if more then lo:=m+1 else hi:=m
 return some hi
theorem gallop'_eq (left:Bool) (key:Keyed) (arr:Array Keyed) (base n hint:Nat):gallop' left key arr base n hint=(do
 let mut lastofs:=0
 let mut ofs:=1
 let some right ← beyond' left key arr base hint | return none
 if right then
  let maxofs:=n - hint
  for _ in [0:n] do
   if ofs >= maxofs then break
   let some more ← beyond' left key arr base (hint+ofs) | return none
   if !more then break
   lastofs:=ofs
   ofs:=2*ofs+1
  g3 left key arr base n (hint+lastofs+1) (hint+min ofs maxofs)
 else
  let maxofs:=hint+1
  for _ in [0:n] do
   if ofs >= maxofs then break
   let some found ← beyond' left key arr base (hint - ofs) | return none
   if found then break
   lastofs:=ofs
   ofs:=2*ofs+1
  g3 left key arr base n (hint+1 - min ofs maxofs) (hint - lastofs)):=rfl
section
variable {prog:Program} {w:World} {A:Around} {E:Value->Shared->Prop} {s:Shared}
theorem wpS_gallop {left:Bool} {key:Keyed} {arr:Array Keyed} {base n hint:Nat} {Bd:Nat->Bool} {G:SortSt->Prop} {st:SortSt} {Q:Option Nat->SortSt->Prop}
  (hb:∀ i,i<n->∀ (st:SortSt) (Q:Option Bool->SortSt->Prop),G st->Q (some (Bd i)) st->wpS (model prog w) A E s (beyond' left key arr base i) Q st) (g:G st) (hh:hint<n) (mono:∀ i j,i<=j->j<n->Bd j=true->Bd i=true)
  (h:∀ k,k<=n->(∀ i,i<k->Bd i=true)->(∀ i,k<=i->i<n->Bd i=false)->Q (some k) st):wpS (model prog w) A E s (gallop' left key arr base n hint) Q st:=by
 rw [gallop'_eq]
 have third:∀ lo hi,lo<=hi->hi<=n->(∀ i,i<lo->Bd i=true)->(∀ i,hi<=i->i<n->Bd i=false)->wpS (model prog w) A E s (g3 left key arr base n lo hi) Q st:=fun lo hi h1 h2 h3 h4=>by
  unfold g3
  refine wpS_bind (wpS_mono (wpS_forRange (I:=fun x c st'=>∃ lo hi,c=(none,lo,hi)/\st'=st/\lo<=hi/\hi<=n/\hi - lo+x<=n/\(∀ i,i<lo->Bd i=true)/\∀ i,hi<=i->i<n->Bd i=false)
   (Q:=fun c st'=>∃ k,c=(none,k,k)/\st'=st/\k<=n/\(∀ i,i<k->Bd i=true)/\∀ i,k<=i->i<n->Bd i=false) ?_ ?_ ⟨lo,hi,rfl,rfl,h1,h2,by omega,h3,h4⟩) ?_)
  ·rintro x c st' _ hx ⟨lo,hi,rfl,rfl,h1,h2,h5,h3,h4⟩
   dsimp only
   split
   ·rename_i c
    have:lo=hi:=by omega
    subst this
    exact wpS_pure ⟨lo,rfl,rfl,h2,h3,h4⟩
   ·rename_i c
    refine wpS_bind (hb _ (by omega) st' _ g ?_)
    dsimp only
    split
    ·rename_i d
     exact wpS_pure ⟨_,hi,rfl,rfl,by omega,h2,by omega,fun i hi'=>mono i _ (by omega) (by omega) d,h4⟩
    ·rename_i d
     have d':Bd (lo+(hi - lo) / 2)=false:=by simpa using d
     refine wpS_pure ⟨lo,_,rfl,rfl,by omega,by omega,by omega,h3,fun i hi' hin=>?_⟩
     cases z:Bd i with
     | false=>rfl
     | true=>rw [mono _ i hi' hin z] at d';cases d'
  ·rintro c st' ⟨lo,hi,rfl,rfl,h1,h2,h5,h3,h4⟩
   have:lo=hi:=by omega
   subst this
   exact ⟨lo,rfl,rfl,h2,h3,h4⟩
  ·rintro c st' ⟨k,rfl,rfl,h1,h2,h3⟩
   exact wpS_pure (h k h1 h2 h3)
 refine wpS_bind (hb hint hh st _ g ?_)
 dsimp only
 split
 ·rename_i c0
  refine wpS_bind (wpS_mono (wpS_forRange (I:=fun x c st'=>∃ la of,c=(none,la,of)/\st'=st/\la<of/\hint+la<n/\Bd (hint+la)=true/\x<of)
   (Q:=fun c st'=>∃ la of,c=(none,la,of)/\st'=st/\la<of/\hint+la<n/\Bd (hint+la)=true/\(n - hint<=of\/(hint+of<n/\Bd (hint+of)=false))) ?_ ?_ ⟨0,1,rfl,rfl,by omega,by omega,c0,by omega⟩) ?_)
  ·rintro x c st' _ hx ⟨la,of,rfl,rfl,h1,h2,h3,h4⟩
   dsimp only
   split
   ·rename_i c
    exact wpS_pure ⟨la,of,rfl,rfl,h1,h2,h3,.inl c⟩
   ·rename_i c
    refine wpS_bind (hb _ (by omega) st' _ g ?_)
    dsimp only
    split
    ·rename_i d
     exact wpS_pure ⟨la,of,rfl,rfl,h1,h2,h3,.inr ⟨by omega,by simpa using d⟩⟩
    ·rename_i d
     exact wpS_pure ⟨of,2*of+1,rfl,rfl,by omega,by omega,by simpa using d,by omega⟩
  ·rintro c st' ⟨la,of,rfl,rfl,h1,h2,h3,h4⟩
   exact ⟨la,of,rfl,rfl,h1,h2,h3,.inl (by omega)⟩
  ·rintro c st' ⟨la,of,rfl,rfl,h1,h2,h3,h4⟩
   dsimp only
   refine third (hint+la+1) (hint+min of (n - hint)) ?_ (by omega) (fun i hi=>mono i _ (by omega) h2 h3) fun i hi hin=>?_
   ·rcases h4 with z | ⟨z,_⟩ <;> omega
   ·rcases h4 with z | ⟨z1,z2⟩
    ·omega
    ·cases z:Bd i with
     | false=>rfl
     | true=>rw [mono _ i (by omega) hin z] at z2;cases z2
 ·rename_i c0
  have c0':Bd hint=false:=by simpa using c0
  refine wpS_bind (wpS_mono (wpS_forRange (I:=fun x c st'=>∃ la of,c=(none,la,of)/\st'=st/\la<of/\la<=hint/\Bd (hint - la)=false/\x<of)
   (Q:=fun c st'=>∃ la of,c=(none,la,of)/\st'=st/\la<of/\la<=hint/\Bd (hint - la)=false/\(hint+1<=of\/(of<=hint/\Bd (hint - of)=true))) ?_ ?_ ⟨0,1,rfl,rfl,by omega,by omega,c0',by omega⟩) ?_)
  ·rintro x c st' _ hx ⟨la,of,rfl,rfl,h1,h2,h3,h4⟩
   dsimp only
   split
   ·rename_i c
    exact wpS_pure ⟨la,of,rfl,rfl,h1,h2,h3,.inl c⟩
   ·rename_i c
    refine wpS_bind (hb _ (by omega) st' _ g ?_)
    dsimp only
    split
    ·rename_i d
     exact wpS_pure ⟨la,of,rfl,rfl,h1,h2,h3,.inr ⟨by omega,by simpa using d⟩⟩
    ·rename_i d
     exact wpS_pure ⟨of,2*of+1,rfl,rfl,by omega,by omega,by simpa using d,by omega⟩
  ·rintro c st' ⟨la,of,rfl,rfl,h1,h2,h3,h4⟩
   exact ⟨la,of,rfl,rfl,h1,h2,h3,.inl (by omega)⟩
  ·rintro c st' ⟨la,of,rfl,rfl,h1,h2,h3,h4⟩
   dsimp only
   refine third (hint+1 - min of (hint+1)) (hint - la) ?_ (by omega) (fun i hi=>?_) fun i hi hin=>?_
   ·rcases h4 with z | ⟨z,_⟩ <;> omega
   ·rcases h4 with z | ⟨z1,z2⟩
    ·omega
    ·exact mono i _ (by omega) (by omega) z2
   ·cases z:Bd i with
    | false=>rfl
    | true=>rw [mono _ i hi hin z] at h3;cases h3
end
end L2
namespace L2
open PySem PySem.Spec PyProof.Rows
def qA3:Nat->StateT SortSt Sem Unit:=sortPriv% PySem.Builtin.setMinGallop
def mergeLo':Array Keyed->Array Keyed->StateT SortSt Sem (Array Keyed):=sortPriv% PySem.Builtin.mergeLo
def dnA (a b out:Array Keyed) (ia ib:Nat):Array Keyed:=out++a.extract ia a.size++b.extract ib b.size
def lsA (a b out:Array Keyed) (ia ib:Nat):Array Keyed:=out++b.extract ib b.size++a.extract ia a.size
theorem mergeLo'_eq (a b:Array Keyed):mergeLo' a b=(do
 rule "list.sort.merge-lo"
 let total:=a.size+b.size
 let mut out:Array Keyed:=#[<-elem' b 0]
 let mut ia:=0
 let mut ib:=1
 if ib == b.size then return dnA a b out ia ib
 if ia+1 == a.size then return lsA a b out ia ib
 let mut minGallop:=gallopOf (← get)
 for _ in [0:total] do
  let mut acount:=0
  let mut bcount:=0
  for _ in [0:total] do
   let some bWins ← lt' (← elem' b ib) (← elem' a ia) | return dnA a b out ia ib
   if bWins then
    out:=out.push (← elem' b ib);ib:=ib+1;bcount:=bcount+1;acount:=0
    if ib == b.size then return dnA a b out ia ib
    if bcount >= minGallop then break
   else
    out:=out.push (← elem' a ia);ia:=ia+1;acount:=acount+1;bcount:=0
    if ia+1 == a.size then return lsA a b out ia ib
    if acount >= minGallop then break
  rule "list.sort.gallop"
  minGallop:=minGallop+1
  for _ in [0:total] do
   if minGallop > 1 then minGallop:=minGallop - 1
   qA3 minGallop
   let some k ← gallop' false (← elem' b ib) a ia (a.size - ia) 0 | return dnA a b out ia ib
   acount:=k
   if k > 0 then
    out:=out++a.extract ia (ia+k);ia:=ia+k
    if ia+1 == a.size then return lsA a b out ia ib
    if ia == a.size then return dnA a b out ia ib
   out:=out.push (← elem' b ib);ib:=ib+1
   if ib == b.size then return dnA a b out ia ib
   let some k ← gallop' true (← elem' a ia) b ib (b.size - ib) 0 | return dnA a b out ia ib
   bcount:=k
   if k > 0 then
    out:=out++b.extract ib (ib+k);ib:=ib+k
    if ib == b.size then return dnA a b out ia ib
   out:=out.push (← elem' a ia);ia:=ia+1
   if ia+1 == a.size then return lsA a b out ia ib
   if acount<7 && bcount<7 then break
  minGallop:=minGallop+1
  qA3 minGallop
 unsupported "internal:list.sort.merge-bound"):=rfl
def Srd (rk:Keyed->Int) (l:List Keyed):Prop:=l.Pairwise fun x y=>rk x<=rk y
def Dn (rk:Keyed->Int) (all l:List Keyed):Prop:=l.Perm all/\Srd rk l
structure MI (rk:Keyed->Int) (all ra rb o:List Keyed):Prop where
 perm:(o++(ra++rb)).Perm all
 so:Srd rk o
 sa:Srd rk ra
 sb:Srd rk rb
 la:∀ x∈o,∀ y∈ra,rk x<=rk y
 lb:∀ x∈o,∀ y∈rb,rk x<=rk y
section
variable {rk:Keyed->Int} {all ra rb o xs:List Keyed}
theorem MI.symm (h:MI rk all ra rb o):MI rk all rb ra o:=⟨(List.perm_append_comm.append_left o).trans h.perm,h.so,h.sb,h.sa,h.lb,h.la⟩
theorem MI.as (h:MI rk all (xs++ra) rb o) (c:∀ x∈xs,∀ y∈rb,rk x<=rk y):MI rk all ra rb (o++xs):=by
 have p:=hAz.mp h.sa
 refine ⟨by simpa [hBg] using h.perm,hAz.mpr ⟨h.so,p.1,fun x hx y hy=>h.la x hx y (hAm _ hy)⟩,p.2.1,h.sb,fun x hx y hy=>?_,fun x hx y hy=>?_⟩
 ·rcases hAf.mp hx with z | z
  ·exact h.la x z y (hA6 _ hy)
  ·exact p.2.2 x z y hy
 ·rcases hAf.mp hx with z | z
  ·exact h.lb x z y hy
  ·exact c x z y hy
theorem MI.bs (h:MI rk all ra (xs++rb) o) (c:∀ x∈xs,∀ y∈ra,rk x<=rk y):MI rk all ra rb (o++xs):=(h.symm.as c).symm
theorem MI.fin (h:MI rk all ra rb o) (c:∀ x∈ra,∀ y∈rb,rk x<=rk y):Dn rk all (o++(ra++rb)):=by
 refine ⟨h.perm,hAz.mpr ⟨h.so,hAz.mpr ⟨h.sa,h.sb,c⟩,fun x hx y hy=>?_⟩⟩
 rcases hAf.mp hy with z | z
 ·exact h.la x hx y z
 ·exact h.lb x hx y z
theorem MI.len (h:MI rk all ra rb o):o.length+(ra.length+rb.length)=all.length:=by
 have:=h.perm.length_eq
 simpa using this
theorem qBx {x:Keyed} {l:List Keyed} (h:Srd rk (x :: l)):∀ y∈x :: l,rk x<=rk y:=fun y hy=>by
 rcases hA9.mp hy with z | z
 ·rw [z];exact hD9 _
 ·exact (hBm.mp h).1 y z
end
def Gal (st st':SortSt):Prop:=kindOf st'=kindOf st/\arrOf st'=arrOf st/\pendingOf st'=pendingOf st/\failedOf st'=failedOf st
theorem Gal.refl (st:SortSt):Gal st st:=⟨rfl,rfl,rfl,rfl⟩
theorem Gal.trans {a b c:SortSt} (h:Gal a b) (k:Gal b c):Gal a c:=⟨k.1.trans h.1,k.2.1.trans h.2.1,k.2.2.1.trans h.2.2.1,k.2.2.2.trans h.2.2.2⟩
theorem qC5 (a:Array Keyed) (i j:Nat):(a.extract i j).toList=(a.toList.drop i).take (j - i):=by
 rw [Array.toList_extract]
theorem ext_end (a:Array Keyed) (i:Nat):(a.extract i a.size).toList=a.toList.drop i:=by
 rw [qC5,hA8 (by simp)]
theorem dnA_list (a b out:Array Keyed) (ia ib:Nat):(dnA a b out ia ib).toList=out.toList++(a.toList.drop ia++b.toList.drop ib):=by
 unfold dnA
 rw [hBn,hBn,ext_end,ext_end,hBg]
theorem lsA_list (a b out:Array Keyed) (ia ib:Nat):(lsA a b out ia ib).toList=out.toList++(b.toList.drop ib++a.toList.drop ia):=by
 unfold lsA
 rw [hBn,hBn,ext_end,ext_end,hBg]
section
variable {prog:Program} {w:World} {A:Around} {E:Value->Shared->Prop} {s:Shared} {rk:Keyed->Int} {kd:SortKind} {D:Keyed->Prop}
def qF0 (prog:Program) (w:World) (A:Around) (E:Value->Shared->Prop) (s:Shared) (rk:Keyed->Int) (kd:SortKind) (D:Keyed->Prop):Prop :=
 ∀ x y,D x->D y->∀ (st:SortSt) (Q:Option Bool->SortSt->Prop),kindOf st=kd->Q (some (decide (rk x<rk y))) st->wpS (model prog w) A E s (lt' x y) Q st
theorem qAt {arr:Array Keyed} {i:Nat} {p:Keyed} {Q:Keyed->SortSt->Prop} {st:SortSt} (e:arr[i]?=some p) (h:Q p st):wpS (model prog w) A E s (elem' arr i) Q st:=by
 rw [elem'_eq,e];exact wpS_pure h
def gP (rk:Keyed->Int) (left:Bool) (key x:Keyed):Bool:=if left then decide (rk x<rk key) else !decide (rk key<rk x)
theorem wpS_beyond (ak:qF0 prog w A E s rk kd D) {left:Bool} {key x:Keyed} {arr:Array Keyed} {base i:Nat} {Q:Option Bool->SortSt->Prop} {st:SortSt} (hk:kindOf st=kd) (dk:D key) (dx:D x) (e:arr[base+i]?=some x)
  (h:Q (some (gP rk left key x)) st):wpS (model prog w) A E s (beyond' left key arr base i) Q st:=by
 unfold beyond'
 refine wpS_bind (qAt e ?_)
 cases left with
 | true=>exact ak x key dx dk st Q hk h
 | false=>exact wpS_bind (ak key x dk dx st _ hk (wpS_pure h))
theorem qDw (ak:qF0 prog w A E s rk kd D) {left:Bool} {key:Keyed} {arr:Array Keyed} {base n hint:Nat} {l:List Keyed} {Q:Option Nat->SortSt->Prop} {st:SortSt} (hk:kindOf st=kd) (dk:D key) (hl:(arr.toList.drop base).take n=l) (hn:l.length=n)
  (dl:∀ x∈l,D x) (sl:Srd rk l) (hh:hint<n) (h:∀ l1 l2,l=l1++l2->(∀ x∈l1,gP rk left key x=true)->(∀ x∈l2,gP rk left key x=false)->Q (some l1.length) st) :
  wpS (model prog w) A E s (gallop' left key arr base n hint) Q st:=by
 have at_:∀ i,(hi:i<n)->arr[base+i]?=some (l[i]'(by omega)):=fun i hi=>by
  subst hl
  rw [<-hAo]
  rw [List.getElem_take,List.getElem_drop,hA3]
 refine wpS_gallop (Bd:=fun i=>if c:i<l.length then gP rk left key (l[i]'c) else false) (G:=fun st=>kindOf st=kd) (fun i hi st Q g q=>?_) hk hh (fun i j hij hj q=>?_) fun k hk1 h1 h2=>?_
 ·refine wpS_beyond ak g dk (dl _ (hBf (by omega))) (at_ i hi) ?_
  rw [dif_pos (by omega)] at q
  exact q
 ·rw [dif_pos (by omega)] at q ⊢
  by_cases e:i=j
  ·subst e;exact q
  ·have:=List.pairwise_iff_getElem.mp sl i j (by omega) (by omega) (by omega)
   unfold gP at q ⊢
   cases left
   ·simp at q ⊢;omega
   ·simp at q ⊢;omega
 ·have e:=h (l.take k) (l.drop k) (List.take_append_drop k l).symm (fun x hx=>?_) fun x hx=>?_
  ·rw [hAh,Nat.min_eq_left (by omega)] at e
   exact e
  ·obtain ⟨i,hi,rfl⟩:=List.mem_iff_getElem.mp hx
   rw [hAh] at hi
   have:=h1 i (by omega)
   rw [dif_pos (by omega)] at this
   rw [List.getElem_take];exact this
  ·obtain ⟨i,hi,rfl⟩:=List.mem_iff_getElem.mp hx
   rw [hCe] at hi
   have:=h2 (k+i) (by omega) (by omega)
   rw [dif_pos (by omega)] at this
   rw [List.getElem_drop];exact this
theorem qEm (g:Nat):qA3 g=modify fun st=>SortSt.mk' (kindOf st) (arrOf st) (pendingOf st) g (failedOf st):=rfl
theorem qEq {g:Nat} {st:SortSt} {Q:Unit->SortSt->Prop} (h:∀ st',Gal st st'->Q () st'):wpS (model prog w) A E s (qA3 g) Q st:=by
 rw [qEm]
 exact wpS_modify (h _ ⟨rfl,rfl,rfl,rfl⟩)
abbrev G7:=ForInStep (Option (Array Keyed)×Array Keyed×Nat×Nat×Nat×Nat×Nat)
def gl4 (a b:Array Keyed) (ac bc mg:Nat) (out:Array Keyed) (ia ib:Nat):StateT SortSt Sem G7:=do
 let x ← elem' a ia
 if (ia+1+1 == a.size)=true then pure (.done (some (lsA a b (out.push x) (ia+1) ib),out.push x,ia+1,ib,mg,ac,bc))
 else if (decide (ac<7) && decide (bc<7))=true then pure (.done (none,out.push x,ia+1,ib,mg,ac,bc))
 else pure (.yield (none,out.push x,ia+1,ib,mg,ac,bc))
def gl3 (a b:Array Keyed) (ac mg:Nat) (out:Array Keyed) (ia ib bc0:Nat):StateT SortSt Sem G7:=do
 let y ← elem' b ib
 if (ib+1 == b.size)=true then pure (.done (some (dnA a b (out.push y) ia (ib+1)),out.push y,ia,ib+1,mg,ac,bc0))
 else
  let x ← elem' a ia
  let some k ← gallop' true x b (ib+1) (b.size - (ib+1)) 0 | pure (.done (some (dnA a b (out.push y) ia (ib+1)),out.push y,ia,ib+1,mg,ac,bc0))
  if k > 0 then
    if (ib+1+k == b.size)=true then pure (.done (some (dnA a b (out.push y++b.extract (ib+1) (ib+1+k)) ia (ib+1+k)),out.push y++b.extract (ib+1) (ib+1+k),ia,ib+1+k,mg,ac,k))
    else gl4 a b ac k mg (out.push y++b.extract (ib+1) (ib+1+k)) ia (ib+1+k)
  else gl4 a b ac k mg (out.push y) ia (ib+1)
def gl2 (a b:Array Keyed) (mg:Nat) (out:Array Keyed) (ia ib ac0 bc0:Nat):StateT SortSt Sem G7:=do
 qA3 mg
 let y ← elem' b ib
 let some k ← gallop' false y a ia (a.size - ia) 0 | pure (.done (some (dnA a b out ia ib),out,ia,ib,mg,ac0,bc0))
 if k > 0 then
   if (ia+k+1 == a.size)=true then pure (.done (some (lsA a b (out++a.extract ia (ia+k)) (ia+k) ib),out++a.extract ia (ia+k),ia+k,ib,mg,k,bc0))
   else if (ia+k == a.size)=true then pure (.done (some (dnA a b (out++a.extract ia (ia+k)) (ia+k) ib),out++a.extract ia (ia+k),ia+k,ib,mg,k,bc0))
   else gl3 a b k mg (out++a.extract ia (ia+k)) (ia+k) ib bc0
 else gl3 a b k mg out ia ib bc0
def glT (a b:Array Keyed) (c:Option (Array Keyed)×Array Keyed×Nat×Nat×Nat×Nat×Nat):StateT SortSt Sem G7 :=
 if c.2.2.2.2.1 > 1 then gl2 a b (c.2.2.2.2.1 - 1) c.2.1 c.2.2.1 c.2.2.2.1 c.2.2.2.2.2.1 c.2.2.2.2.2.2 else gl2 a b c.2.2.2.2.1 c.2.1 c.2.2.1 c.2.2.2.1 c.2.2.2.2.2.1 c.2.2.2.2.2.2
theorem qEk (a:Array Keyed) {i:Nat} (h:i<a.size):∃ x,a[i]?=some x/\x∈a.toList/\a.toList.drop i=x :: a.toList.drop (i+1):=by
 refine ⟨a[i],by simp [h],by simp,?_⟩
 rw [hCz (by simpa using h)]
 simp
structure Lo (rk:Keyed->Int) (a b out:Array Keyed) (ia ib:Nat):Prop where
 mi:MI rk (a.toList++b.toList) (a.toList.drop ia) (b.toList.drop ib) out.toList
 ha:ia+1<a.size
 hb:ib<b.size
def LoT (rk:Keyed->Int) (a b:Array Keyed) (st:SortSt) (r:Array Keyed) (st':SortSt):Prop:=Gal st st'/\Dn rk (a.toList++b.toList) r.toList
theorem Lo.dn {a b out:Array Keyed} {ia ib:Nat} (m:MI rk (a.toList++b.toList) (a.toList.drop ia) (b.toList.drop ib) out.toList) (h:a.size<=ia\/b.size<=ib):Dn rk (a.toList++b.toList) (dnA a b out ia ib).toList:=by
 rw [dnA_list]
 refine m.fin fun x hx y hy=>?_
 rcases h with h | h
 ·rw [List.drop_eq_nil_of_le (by simpa using h)] at hx;cases hx
 ·rw [List.drop_eq_nil_of_le (by simpa using h)] at hy;cases hy
theorem Lo.ls {a b out:Array Keyed} {ia ib:Nat} (m:MI rk (a.toList++b.toList) (a.toList.drop ia) (b.toList.drop ib) out.toList) (h:ia+1=a.size) (hi:∀ x∈a.toList.drop (a.size - 1),∀ y∈b.toList,rk y<=rk x):Dn rk (a.toList++b.toList) (lsA a b out ia ib).toList:=by
 rw [lsA_list]
 refine m.symm.fin fun y hy x hx=>hi x ?_ y (hDk hy)
 rw [show a.size - 1=ia by omega];exact hx
theorem wp_gl4 {a b out:Array Keyed} {ac bc mg ia ib:Nat} {st st0:SortSt} {Q:G7->SortSt->Prop} (L:Lo rk a b out ia ib) (lt:∀ x,a[ia]?=some x->∀ y∈b.toList.drop ib,rk x<=rk y) (hi:∀ x∈a.toList.drop (a.size - 1),∀ y∈b.toList,rk y<=rk x) (g:Gal st0 st)
  (hd:∀ r c,LoT rk a b st0 r st->Q (.done (some r,c)) st) (hn:∀ out' ia' mg ac bc,Lo rk a b out' ia' ib->out.size<out'.size->Q (.done (none,out',ia',ib,mg,ac,bc)) st/\Q (.yield (none,out',ia',ib,mg,ac,bc)) st) :
  wpS (model prog w) A E s (gl4 a b ac bc mg out ia ib) Q st:=by
 obtain ⟨x,e,ex,ed⟩:=qEk a (i:=ia) (by have:=L.ha;omega)
 have m:MI rk (a.toList++b.toList) (a.toList.drop (ia+1)) (b.toList.drop ib) (out.push x).toList:=by
  have m:=L.mi
  rw [ed] at m
  rw [hBq]
  exact MI.as (xs:=[x]) m fun z hz y hy=>by
   rw [hA7.mp hz]
   exact lt x e y hy
 unfold gl4
 refine wpS_bind (qAt e ?_)
 have h1:=L.ha
 by_cases c:(ia+1+1 == a.size)=true
 ·rw [if_pos c]
  exact wpS_pure (hd _ _ ⟨g,Lo.ls m (by simpa using c) hi⟩)
 ·rw [if_neg c]
  have c':ia+1+1≠a.size:=by simpa using c
  have:=hn (out.push x) (ia+1) mg ac bc ⟨m,by omega,L.hb⟩ (by simp)
  split
  ·exact wpS_pure this.1
  ·exact wpS_pure this.2
theorem beq_ge {i n:Nat} (h:(i == n)=true):n<=i:=Nat.le_of_eq (eq_of_beq h).symm
theorem ext_app {b:Array Keyed} {i:Nat} {l1 l2:List Keyed} (e:b.toList.drop i=l1++l2):(b.extract i (i+l1.length)).toList=l1/\b.toList.drop (i+l1.length)=l2:=by
 refine ⟨?_,?_⟩
 ·rw [qC5,e,show i+l1.length - i=l1.length by omega,hD3]
  rfl
 ·rw [<-List.drop_drop,e,hD4]
  rfl
theorem wp_gl3 (ak:qF0 prog w A E s rk kd D) {a b out:Array Keyed} {ac mg bc0 ia ib:Nat} {st st0:SortSt} {Q:G7->SortSt->Prop} (hk:kindOf st=kd) (da:∀ x∈a.toList,D x) (db:∀ x∈b.toList,D x) (L:Lo rk a b out ia ib) (lt:∀ y,b[ib]?=some y->∀ x∈a.toList.drop ia,rk y<=rk x) (hi:∀ x∈a.toList.drop (a.size - 1),∀ y∈b.toList,rk y<=rk x) (g:Gal st0 st)
  (hd:∀ r c,LoT rk a b st0 r st->Q (.done (some r,c)) st) (hn:∀ out' ia' ib' mg ac bc,Lo rk a b out' ia' ib'->out.size<out'.size->Q (.done (none,out',ia',ib',mg,ac,bc)) st/\Q (.yield (none,out',ia',ib',mg,ac,bc)) st) :
  wpS (model prog w) A E s (gl3 a b ac mg out ia ib bc0) Q st:=by
 have h1:=L.ha
 have h2:=L.hb
 obtain ⟨y,e,ey,ed⟩:=qEk b (i:=ib) h2
 obtain ⟨x,f,fx,fd⟩:=qEk a (i:=ia) (by omega)
 have m:MI rk (a.toList++b.toList) (a.toList.drop ia) (b.toList.drop (ib+1)) (out.push y).toList:=by
  have m:=L.mi
  rw [ed] at m
  rw [hBq]
  exact MI.bs (xs:=[y]) m fun z hz x hx=>by
   rw [hA7.mp hz]
   exact lt y e x hx
 have sh:=qBx (fd▸m.sa)
 unfold gl3
 refine wpS_bind (qAt e ?_)
 by_cases c:(ib+1 == b.size)=true
 ·rw [if_pos c]
  exact wpS_pure (hd _ _ ⟨g,Lo.dn m (.inr (beq_ge c))⟩)
 ·rw [if_neg c]
  have c':ib+1≠b.size:=by simpa using c
  refine wpS_bind (qAt f ?_)
  refine wpS_bind (qDw ak (l:=b.toList.drop (ib+1)) hk (da x fx) (hA8 (by simp)) (by simp) (fun z hz=>db z (hDk hz)) m.sb (by omega) fun l1 l2 el p1 p2=>?_)
  have q1:∀ z∈l1,rk z<rk x:=fun z hz=>by simpa [gP] using p1 z hz
  have q2:∀ z∈l2,rk x<=rk z:=fun z hz=>by
   have:=p2 z hz
   simp [gP] at this
   exact this
  have X:=ext_app el
  dsimp only
  by_cases k0:l1.length > 0
  ·rw [if_pos k0]
   have m2:MI rk (a.toList++b.toList) (a.toList.drop ia) (b.toList.drop (ib+1+l1.length)) (out.push y++b.extract (ib+1) (ib+1+l1.length)).toList:=by
    rw [hBn,X.1,X.2]
    rw [el] at m
    exact m.bs fun z hz x' hx'=>by
     have a1:=q1 z hz
     have a2:=sh x' (fd▸hx')
     omega
   by_cases d:(ib+1+l1.length == b.size)=true
   ·rw [if_pos d]
    exact wpS_pure (hd _ _ ⟨g,Lo.dn m2 (.inr (beq_ge d))⟩)
   ·rw [if_neg d]
    have d':ib+1+l1.length≠b.size:=by simpa using d
    have ll:(b.toList.drop (ib+1)).length=l1.length+l2.length:=by rw [el];simp
    rw [hCe] at ll
    have ll':b.size - (ib+1)=l1.length+l2.length:=by simpa using ll
    refine wp_gl4 ⟨m2,h1,by omega⟩ (fun z hz y hy=>?_) hi g hd fun o i mg ac bc L' hs=>hn o i _ mg ac bc L' ?_
    ·rw [X.2] at hy
     rw [f] at hz
     cases hz
     exact q2 y hy
    ·simp at hs;omega
  ·rw [if_neg k0]
   have n1:l1=[]:=hB1.mp (by omega)
   subst n1
   refine wp_gl4 ⟨m,h1,by omega⟩ (fun z hz y hy=>?_) hi g hd fun o i mg ac bc L' hs=>hn o i _ mg ac bc L' ?_
   ·rw [el] at hy
    rw [f] at hz
    cases hz
    exact q2 y hy
   ·simp at hs;omega
theorem wp_gl2 (ak:qF0 prog w A E s rk kd D) {a b out:Array Keyed} {mg ac0 bc0 ia ib:Nat} {st st0:SortSt} {Q:G7->SortSt->Prop} (hk:kindOf st0=kd) (da:∀ x∈a.toList,D x) (db:∀ x∈b.toList,D x) (L:Lo rk a b out ia ib) (hi:∀ x∈a.toList.drop (a.size - 1),∀ y∈b.toList,rk y<=rk x) (g:Gal st0 st)
  (hd:∀ r c st,LoT rk a b st0 r st->Q (.done (some r,c)) st) (hn:∀ out' ia' ib' mg ac bc st,Gal st0 st->Lo rk a b out' ia' ib'->out.size<out'.size->Q (.done (none,out',ia',ib',mg,ac,bc)) st/\Q (.yield (none,out',ia',ib',mg,ac,bc)) st) :
  wpS (model prog w) A E s (gl2 a b mg out ia ib ac0 bc0) Q st:=by
 have h1:=L.ha
 have h2:=L.hb
 have m:=L.mi
 obtain ⟨y,e,ey,ed⟩:=qEk b (i:=ib) h2
 have sh:=qBx (ed▸m.sb)
 unfold gl2
 refine wpS_bind (qEq fun st1 g1=>?_)
 have g':=g.trans g1
 refine wpS_bind (qAt e ?_)
 refine wpS_bind (qDw ak (l:=a.toList.drop ia) (g'.1.trans hk) (db y ey) (hA8 (by simp)) (by simp) (fun z hz=>da z (hDk hz)) m.sa (by omega) fun l1 l2 el p1 p2=>?_)
 have q1:∀ z∈l1,rk z<=rk y:=fun z hz=>by simpa [gP] using p1 z hz
 have q2:∀ z∈l2,rk y<rk z:=fun z hz=>by simpa [gP] using p2 z hz
 have X:=ext_app el
 dsimp only
 by_cases k0:l1.length > 0
 ·rw [if_pos k0]
  have m2:MI rk (a.toList++b.toList) (a.toList.drop (ia+l1.length)) (b.toList.drop ib) (out++a.extract ia (ia+l1.length)).toList:=by
   rw [hBn,X.1,X.2]
   rw [el] at m
   exact m.as fun z hz x' hx'=>by
    have a1:=q1 z hz
    have a2:=sh x' (ed▸hx')
    omega
  by_cases d:(ia+l1.length+1 == a.size)=true
  ·rw [if_pos d]
   exact wpS_pure (hd _ _ _ ⟨g',Lo.ls m2 (by simpa using d) hi⟩)
  ·rw [if_neg d]
   by_cases d2:(ia+l1.length == a.size)=true
   ·rw [if_pos d2]
    exact wpS_pure (hd _ _ _ ⟨g',Lo.dn m2 (.inl (beq_ge d2))⟩)
   ·rw [if_neg d2]
    have d':ia+l1.length+1≠a.size:=by simpa using d
    have d2':ia+l1.length≠a.size:=by simpa using d2
    have ll:(a.toList.drop ia).length=l1.length+l2.length:=by rw [el];simp
    rw [hCe] at ll
    have ll':a.size - ia=l1.length+l2.length:=by simpa using ll
    refine wp_gl3 ak (g'.1.trans hk) da db ⟨m2,by omega,h2⟩ (fun z hz x hx=>?_) hi g' (fun r c=>hd r c _) fun o i j mg ac bc L' hs=>hn o i j mg ac bc _ g' L' ?_
    ·rw [X.2] at hx
     rw [e] at hz
     cases hz
     exact hDi (q2 x hx)
    ·simp at hs;omega
 ·rw [if_neg k0]
  have n1:l1=[]:=hB1.mp (by omega)
  subst n1
  refine wp_gl3 ak (g'.1.trans hk) da db L (fun z hz x hx=>?_) hi g' (fun r c=>hd r c _) fun o i j mg ac bc L' hs=>hn o i j mg ac bc _ g' L' hs
  rw [el] at hx
  rw [e] at hz
  cases hz
  exact hDi (q2 x hx)
theorem wpS_mergeLo (ak:qF0 prog w A E s rk kd D) {a b:Array Keyed} {st:SortSt} {Q:Array Keyed->SortSt->Prop} (hk:kindOf st=kd) (da:∀ x∈a.toList,D x) (db:∀ x∈b.toList,D x) (sa:Srd rk a.toList) (sb:Srd rk b.toList) (h1:1<=a.size) (h2:1<=b.size)
  (lo:∀ y∈b.toList.take 1,∀ x∈a.toList,rk y<=rk x) (hi:∀ x∈a.toList.drop (a.size - 1),∀ y∈b.toList,rk y<=rk x) (h:∀ r st',Gal st st'->Dn rk (a.toList++b.toList) r.toList->Q r st'):wpS (model prog w) A E s (mergeLo' a b) Q st:=by
 rw [mergeLo'_eq]
 refine wpS_bind (wpS_lift (wpAny_rule ⟨rfl,?_⟩))
 obtain ⟨y,e,ey,ed⟩:=qEk b (i:=0) h2
 refine wpS_bind (qAt e ?_)
 have m:MI rk (a.toList++b.toList) (a.toList.drop 0) (b.toList.drop (0+1)) (#[y]:Array Keyed).toList:=by
  have m0:MI rk (a.toList++b.toList) (a.toList.drop 0) (b.toList.drop 0) []:=⟨by simp,List.Pairwise.nil,by simpa using sa,by simpa using sb,fun x hx=>(by cases hx),fun x hx=>(by cases hx)⟩
  rw [ed] at m0
  refine MI.bs (xs:=[y]) m0 fun z hz x hx=>?_
  rw [hA7.mp hz]
  refine lo y ?_ x (hDk hx)
  rw [List.drop_zero] at ed
  rw [ed]
  exact hA2 ..
 by_cases e1:(1 == b.size)=true
 ·rw [if_pos e1]
  exact wpS_pure (h _ _ (Gal.refl _) (Lo.dn m (.inr (beq_ge e1))))
 rw [if_neg e1]
 by_cases e2:(0+1 == a.size)=true
 ·rw [if_pos e2]
  exact wpS_pure (h _ _ (Gal.refl _) (Lo.ls m (by simpa using e2) hi))
 rw [if_neg e2]
 have e1':1≠b.size:=by simpa using e1
 have e2':0+1≠a.size:=by simpa using e2
 refine wpS_bind (wpS_get ?_)
 have tot:∀ {o:Array Keyed} {i j:Nat},Lo rk a b o i j->o.size+3<=a.size+b.size:=fun {o i j} L=>by
  have:=L.mi.len
  have:=L.ha
  have:=L.hb
  simp at *
  omega
 refine wpS_bind (wpS_mono (wpS_forRange (I:=fun x c st'=>∃ out ia ib mg,c=(none,out,ia,ib,mg)/\Lo rk a b out ia ib/\x+1<=out.size/\Gal st st')
  (Q:=fun c st'=>∃ r c',c=(some r,c')/\LoT rk a b st r st') ?_ ?_ ⟨_,_,_,_,rfl,⟨m,by omega,by omega⟩,by simp,Gal.refl _⟩) ?_)
 ·rintro x c st1 _ hx ⟨out,ia,ib,mg,rfl,L,hs,g⟩
  refine wpS_bind (wpS_mono (wpS_forRange (I:=fun y c st'=>∃ o ia ib ac bc,c=(none,o,ia,ib,ac,bc)/\Lo rk a b o ia ib/\out.size+y<=o.size/\Gal st st')
   (Q:=fun c st'=>(∃ r c',c=(some r,c')/\LoT rk a b st r st')\/∃ o ia ib ac bc,c=(none,o,ia,ib,ac,bc)/\Lo rk a b o ia ib/\out.size<o.size/\Gal st st') ?_ ?_ ⟨_,_,_,_,_,rfl,L,hA5 _,g⟩) ?_)
  ·rintro y c st2 _ hy ⟨o,ja,jb,ac,bc,rfl,L2,hs2,g2⟩
   have h1:=L2.ha
   have h2:=L2.hb
   have m:=L2.mi
   obtain ⟨v,f,fv,fd⟩:=qEk b (i:=jb) h2
   obtain ⟨u,p,pu,pd⟩:=qEk a (i:=ja) (by omega)
   refine wpS_bind (qAt f ?_)
   refine wpS_bind (qAt p ?_)
   refine wpS_bind (ak v u (db v fv) (da u pu) _ _ (g2.1.trans hk) ?_)
   have sv:=qBx (fd▸m.sb)
   have su:=qBx (pd▸m.sa)
   by_cases c:rk v<rk u
   ·rw [decide_eq_true c]
    have m2:MI rk (a.toList++b.toList) (a.toList.drop ja) (b.toList.drop (jb+1)) (o.push v).toList:=by
     rw [fd] at m
     rw [hBq]
     refine MI.bs (xs:=[v]) m fun z hz x hx=>?_
     rw [hA7.mp hz]
     have:=su x (pd▸hx)
     omega
    dsimp only
    rw [if_pos rfl]
    refine wpS_bind (qAt f ?_)
    by_cases q:(jb+1 == b.size)=true
    ·rw [if_pos q]
     exact wpS_pure (.inl ⟨_,_,rfl,g2,Lo.dn m2 (.inr (beq_ge q))⟩)
    ·rw [if_neg q]
     have q':jb+1≠b.size:=by simpa using q
     split
     ·exact wpS_pure (.inr ⟨_,_,_,_,_,rfl,⟨m2,h1,by omega⟩,by simp;omega,g2⟩)
     ·exact wpS_pure ⟨_,_,_,_,_,rfl,⟨m2,h1,by omega⟩,by simp;omega,g2⟩
   ·rw [decide_eq_false c]
    have m2:MI rk (a.toList++b.toList) (a.toList.drop (ja+1)) (b.toList.drop jb) (o.push u).toList:=by
     rw [pd] at m
     rw [hBq]
     refine MI.as (xs:=[u]) m fun z hz x hx=>?_
     rw [hA7.mp hz]
     have:=sv x (fd▸hx)
     omega
    dsimp only
    rw [if_neg (by decide)]
    refine wpS_bind (qAt p ?_)
    by_cases q:(ja+1+1 == a.size)=true
    ·rw [if_pos q]
     exact wpS_pure (.inl ⟨_,_,rfl,g2,Lo.ls m2 (eq_of_beq q) hi⟩)
    ·rw [if_neg q]
     have q':ja+1+1≠a.size:=by simpa using q
     split
     ·exact wpS_pure (.inr ⟨_,_,_,_,_,rfl,⟨m2,by omega,h2⟩,by simp;omega,g2⟩)
     ·exact wpS_pure ⟨_,_,_,_,_,rfl,⟨m2,by omega,h2⟩,by simp;omega,g2⟩
  ·rintro c st2 ⟨o,ja,jb,ac,bc,rfl,L2,hs2,g2⟩
   have:=tot L2
   omega
  ·rintro c st2 (⟨r,c',rfl,hr⟩ | ⟨o,ja,jb,ac,bc,rfl,L2,hs2,g2⟩)
   ·exact wpS_pure ⟨r,_,rfl,hr⟩
   ·refine wpS_bind (wpS_lift (wpAny_rule ⟨rfl,?_⟩))
    refine wpS_bind (wpS_mono (wpS_forRange (I:=fun y c st'=>∃ o' ia ib mg ac bc,c=(none,o',ia,ib,mg,ac,bc)/\Lo rk a b o' ia ib/\o.size+y<=o'.size/\Gal st st')
     (Q:=fun c st'=>(∃ r c',c=(some r,c')/\LoT rk a b st r st')\/∃ o' ia ib mg ac bc,c=(none,o',ia,ib,mg,ac,bc)/\Lo rk a b o' ia ib/\o.size<=o'.size/\Gal st st') ?_ ?_ ⟨_,_,_,_,_,_,rfl,L2,hA5 _,g2⟩) ?_)
    ·rintro y c st3 _ hy ⟨o',ka,kb,mg',ac',bc',rfl,L3,hs3,g3⟩
     have one:∀ mg,wpS (model prog w) A E s (gl2 a b mg o' ka kb ac' bc') (fun r st'=>match r with | .done c'=>(∃ r c'',c'=(some r,c'')/\LoT rk a b st r st')\/∃ o' ia ib mg ac bc,c'=(none,o',ia,ib,mg,ac,bc)/\Lo rk a b o' ia ib/\o.size<=o'.size/\Gal st st' | .yield c'=>∃ o' ia ib mg ac bc,c'=(none,o',ia,ib,mg,ac,bc)/\Lo rk a b o' ia ib/\o.size+(y+1)<=o'.size/\Gal st st') st3:=fun mg =>
      wp_gl2 ak hk da db L3 hi g3 (fun r c st5 hr=>.inl ⟨r,c,rfl,hr⟩) fun o6 i j mg6 ac6 bc6 st6 g6 L6 hs6=>⟨.inr ⟨_,_,_,_,_,_,rfl,L6,by omega,g6⟩,⟨_,_,_,_,_,_,rfl,L6,by omega,g6⟩⟩
     refine wpS_mono (m:=glT a b (none,o',ka,kb,mg',ac',bc')) ?_ (fun r st' hr=>?_) (Q:=fun r st'=>match r with | .done c'=>(∃ r c'',c'=(some r,c'')/\LoT rk a b st r st')\/∃ o' ia ib mg ac bc,c'=(none,o',ia,ib,mg,ac,bc)/\Lo rk a b o' ia ib/\o.size<=o'.size/\Gal st st' | .yield c'=>∃ o' ia ib mg ac bc,c'=(none,o',ia,ib,mg,ac,bc)/\Lo rk a b o' ia ib/\o.size+(y+1)<=o'.size/\Gal st st')
     ·unfold glT
      split
      ·exact one _
      ·exact one _
     ·cases r with
      | done c'=>exact hr
      | yield c'=>exact hr
    ·rintro c st3 ⟨o',ka,kb,mg',ac',bc',rfl,L3,hs3,g3⟩
     have:=tot L3
     omega
    ·rintro c st3 (⟨r,c',rfl,hr⟩ | ⟨o',ka,kb,mg',ac',bc',rfl,L3,hs3,g3⟩)
     ·exact wpS_pure ⟨r,_,rfl,hr⟩
     ·refine wpS_bind (qEq fun st4 g4=>?_)
      exact wpS_pure ⟨_,_,_,_,rfl,L3,by show _<=o'.size;omega,g3.trans g4⟩
 ·rintro c st1 ⟨out,ia,ib,mg,rfl,L,hs,g⟩
  have:=tot L
  omega
 ·rintro c st1 ⟨r,c',rfl,hr⟩
  exact wpS_pure (h _ _ hr.1 hr.2)
end
end L2
namespace L2
open PySem PySem.Spec PyProof.Rows
def mergeHi':Array Keyed->Array Keyed->StateT SortSt Sem (Array Keyed):=sortPriv% PySem.Builtin.mergeHi
def dnH (a b out:Array Keyed) (na nb:Nat):Array Keyed:=a.extract 0 na++b.extract 0 nb++out.reverse
def fsH (a b out:Array Keyed) (na nb:Nat):Array Keyed:=b.extract 0 nb++a.extract 0 na++out.reverse
theorem mergeHi'_eq (a b:Array Keyed):mergeHi' a b=(do
 rule "list.sort.merge-hi"
 let total:=a.size+b.size
 let mut na:=a.size - 1
 let mut nb:=b.size
 let mut out:Array Keyed:=#[<-elem' a na]
 if na == 0 then return dnH a b out na nb
 if nb == 1 then return fsH a b out na nb
 let mut minGallop:=gallopOf (← get)
 for _ in [0:total] do
  let mut acount:=0
  let mut bcount:=0
  for _ in [0:total] do
   let some aWins ← lt' (← elem' b (nb - 1)) (← elem' a (na - 1)) | return dnH a b out na nb
   if aWins then
    na:=na - 1;out:=out.push (← elem' a na);acount:=acount+1;bcount:=0
    if na == 0 then return dnH a b out na nb
    if acount >= minGallop then break
   else
    nb:=nb - 1;out:=out.push (← elem' b nb);bcount:=bcount+1;acount:=0
    if nb == 1 then return fsH a b out na nb
    if bcount >= minGallop then break
  rule "list.sort.gallop"
  minGallop:=minGallop+1
  for _ in [0:total] do
   if minGallop > 1 then minGallop:=minGallop - 1
   qA3 minGallop
   let some at_ ← gallop' false (← elem' b (nb - 1)) a 0 na (na - 1) | return dnH a b out na nb
   let k:=na - at_
   acount:=k
   if k > 0 then
    out:=out++(a.extract at_ na).reverse;na:=at_
    if na == 0 then return dnH a b out na nb
   nb:=nb - 1;out:=out.push (← elem' b nb)
   if nb == 1 then return fsH a b out na nb
   let some at_ ← gallop' true (← elem' a (na - 1)) b 0 nb (nb - 1) | return dnH a b out na nb
   let k:=nb - at_
   bcount:=k
   if k > 0 then
    out:=out++(b.extract at_ nb).reverse;nb:=at_
    if nb == 1 then return fsH a b out na nb
    if nb == 0 then return dnH a b out na nb
   na:=na - 1;out:=out.push (← elem' a na)
   if na == 0 then return dnH a b out na nb
   if acount<7 && bcount<7 then break
  minGallop:=minGallop+1
  qA3 minGallop
 unsupported "internal:list.sort.merge-bound"):=rfl
def ng (rk:Keyed->Int) (x:Keyed):Int:=-rk x
theorem Dn.turn {rk:Keyed->Int} {all l:List Keyed} (h:Dn (ng rk) all l):Dn rk all l.reverse:=by
 refine ⟨(List.reverse_perm l).trans h.1,List.pairwise_reverse.mpr (h.2.imp fun {x y} q=>?_)⟩
 unfold ng at q
 omega
theorem Srd.turn {rk:Keyed->Int} {l:List Keyed} (h:Srd rk l):Srd (ng rk) l.reverse:=by
 refine List.pairwise_reverse.mpr (h.imp fun {x y} q=>?_)
 unfold ng
 omega
theorem ext_from (a:Array Keyed) (n:Nat):(a.extract 0 n).toList=a.toList.take n:=by
 rw [qC5,List.drop_zero,Nat.sub_zero]
theorem dnH_list (a b out:Array Keyed) (na nb:Nat):(dnH a b out na nb).toList=(out.toList++((b.toList.take nb).reverse++(a.toList.take na).reverse)).reverse:=by
 unfold dnH
 simp [ext_from]
theorem fsH_list (a b out:Array Keyed) (na nb:Nat):(fsH a b out na nb).toList=(out.toList++((a.toList.take na).reverse++(b.toList.take nb).reverse)).reverse:=by
 unfold fsH
 simp [ext_from]
theorem qC9 (a:Array Keyed) {n:Nat} (h:n<a.size):∃ x,a[n]?=some x/\x∈a.toList/\(a.toList.take (n+1)).reverse=x :: (a.toList.take n).reverse:=by
 refine ⟨a[n],by simp [h],by simp,?_⟩
 rw [List.take_succ_eq_append_getElem (by simpa using h)]
 simp
theorem ext_hi {a:Array Keyed} {n:Nat} {l1 l2:List Keyed} (hn:n<=a.size) (e:a.toList.take n=l1++l2):(a.extract l1.length n).toList=l2/\a.toList.take l1.length=l1/\l1.length+l2.length=n:=by
 have ln:l1.length+l2.length=n:=by
  have:(a.toList.take n).length=l1.length+l2.length:=by rw [e];simp
  rw [hAh] at this
  simp at this
  omega
 refine ⟨?_,?_,ln⟩
 ·rw [qC5,<-List.drop_take,e,hD4]
  rfl
 ·have:(a.toList.take n).take l1.length=l1:=by rw [e,hD3];rfl
  rw [List.take_take,Nat.min_eq_left (by omega)] at this
  exact this
section
variable {prog:Program} {w:World} {A:Around} {E:Value->Shared->Prop} {s:Shared} {rk:Keyed->Int} {kd:SortKind} {D:Keyed->Prop}
abbrev H7:=ForInStep (Option (Array Keyed)×Nat×Nat×Array Keyed×Nat×Nat×Nat)
def gh4 (a b:Array Keyed) (ac bc mg:Nat) (out:Array Keyed) (na nb:Nat):StateT SortSt Sem H7:=do
 let x ← elem' a (na - 1)
 if (na - 1 == 0)=true then pure (.done (some (dnH a b (out.push x) (na - 1) nb),na - 1,nb,out.push x,mg,ac,bc))
 else if (decide (ac<7) && decide (bc<7))=true then pure (.done (none,na - 1,nb,out.push x,mg,ac,bc))
 else pure (.yield (none,na - 1,nb,out.push x,mg,ac,bc))
def gh3 (a b:Array Keyed) (ac mg:Nat) (out:Array Keyed) (na nb bc0:Nat):StateT SortSt Sem H7:=do
 let y ← elem' b (nb - 1)
 if (nb - 1 == 1)=true then pure (.done (some (fsH a b (out.push y) na (nb - 1)),na,nb - 1,out.push y,mg,ac,bc0))
 else
  let x ← elem' a (na - 1)
  let some k ← gallop' true x b 0 (nb - 1) (nb - 1 - 1) | pure (.done (some (dnH a b (out.push y) na (nb - 1)),na,nb - 1,out.push y,mg,ac,bc0))
  if nb - 1 - k > 0 then
    if (k == 1)=true then pure (.done (some (fsH a b (out.push y++(b.extract k (nb - 1)).reverse) na k),na,k,out.push y++(b.extract k (nb - 1)).reverse,mg,ac,nb - 1 - k))
    else if (k == 0)=true then pure (.done (some (dnH a b (out.push y++(b.extract k (nb - 1)).reverse) na k),na,k,out.push y++(b.extract k (nb - 1)).reverse,mg,ac,nb - 1 - k))
    else gh4 a b ac (nb - 1 - k) mg (out.push y++(b.extract k (nb - 1)).reverse) na k
  else gh4 a b ac (nb - 1 - k) mg (out.push y) na (nb - 1)
def gh2 (a b:Array Keyed) (mg:Nat) (out:Array Keyed) (na nb ac0 bc0:Nat):StateT SortSt Sem H7:=do
 qA3 mg
 let y ← elem' b (nb - 1)
 let some k ← gallop' false y a 0 na (na - 1) | pure (.done (some (dnH a b out na nb),na,nb,out,mg,ac0,bc0))
 if na - k > 0 then
   if (k == 0)=true then pure (.done (some (dnH a b (out++(a.extract k na).reverse) k nb),k,nb,out++(a.extract k na).reverse,mg,na - k,bc0))
   else gh3 a b (na - k) mg (out++(a.extract k na).reverse) k nb bc0
 else gh3 a b (na - k) mg out na nb bc0
def ghT (a b:Array Keyed) (c:Option (Array Keyed)×Nat×Nat×Array Keyed×Nat×Nat×Nat):StateT SortSt Sem H7 :=
 if c.2.2.2.2.1 > 1 then gh2 a b (c.2.2.2.2.1 - 1) c.2.2.2.1 c.2.1 c.2.2.1 c.2.2.2.2.2.1 c.2.2.2.2.2.2 else gh2 a b c.2.2.2.2.1 c.2.2.2.1 c.2.1 c.2.2.1 c.2.2.2.2.2.1 c.2.2.2.2.2.2
abbrev HM (rk:Keyed->Int) (a b out:Array Keyed) (na nb:Nat):Prop:=MI (ng rk) (a.toList++b.toList) (a.toList.take na).reverse (b.toList.take nb).reverse out.toList
structure Hi (rk:Keyed->Int) (a b out:Array Keyed) (na nb:Nat):Prop where
 mi:HM rk a b out na nb
 ha:0<na
 hb:1<nb
 za:na<=a.size
 zb:nb<=b.size
theorem Hi.dn {a b out:Array Keyed} {na nb:Nat} (m:HM rk a b out na nb) (h:na=0\/nb=0):Dn rk (a.toList++b.toList) (dnH a b out na nb).toList:=by
 rw [dnH_list]
 refine Dn.turn (m.symm.fin fun x hx y hy=>?_)
 rcases h with h | h
 ·subst h;cases hy
 ·subst h;cases hx
theorem Hi.fs {a b out:Array Keyed} {na nb:Nat} (m:HM rk a b out na nb) (h:nb=1) (lo:∀ y∈b.toList.take 1,∀ x∈a.toList,rk y<=rk x):Dn rk (a.toList++b.toList) (fsH a b out na nb).toList:=by
 rw [fsH_list]
 refine Dn.turn (m.fin fun x hx y hy=>?_)
 subst h
 have:=lo y (hCx.mp hy) x (hD1 (hCx.mp hx))
 unfold ng
 omega
theorem wp_gh4 {a b out:Array Keyed} {ac bc mg na nb:Nat} {st st0:SortSt} {Q:H7->SortSt->Prop} (L:Hi rk a b out na nb) (lt:∀ x,a[na - 1]?=some x->∀ y∈b.toList.take nb,rk y<=rk x) (g:Gal st0 st)
  (hd:∀ r c,LoT rk a b st0 r st->Q (.done (some r,c)) st) (hn:∀ out' na' mg ac bc,Hi rk a b out' na' nb->out.size<out'.size->Q (.done (none,na',nb,out',mg,ac,bc)) st/\Q (.yield (none,na',nb,out',mg,ac,bc)) st) :
  wpS (model prog w) A E s (gh4 a b ac bc mg out na nb) Q st:=by
 have h1:=L.ha
 have h3:=L.za
 obtain ⟨x,e,ex,ed⟩:=qC9 a (n:=na - 1) (by omega)
 rw [show na - 1+1=na by omega] at ed
 have m:HM rk a b (out.push x) (na - 1) nb:=by
  have m:=L.mi
  unfold HM at m ⊢
  rw [ed] at m
  rw [hBq]
  exact MI.as (xs:=[x]) m fun z hz y hy=>by
   rw [hA7.mp hz]
   have:=lt x e y (hCx.mp hy)
   unfold ng
   omega
 unfold gh4
 refine wpS_bind (qAt e ?_)
 by_cases c:(na - 1 == 0)=true
 ·rw [if_pos c]
  exact wpS_pure (hd _ _ ⟨g,Hi.dn m (.inl (eq_of_beq c))⟩)
 ·rw [if_neg c]
  have c':na - 1≠0:=by simpa using c
  have:=hn (out.push x) (na - 1) mg ac bc ⟨m,by omega,L.hb,by omega,L.zb⟩ (by simp)
  split
  ·exact wpS_pure this.1
  ·exact wpS_pure this.2
theorem wp_gh3 (ak:qF0 prog w A E s rk kd D) {a b out:Array Keyed} {ac mg bc0 na nb:Nat} {st st0:SortSt} {Q:H7->SortSt->Prop} (hk:kindOf st=kd) (da:∀ x∈a.toList,D x) (db:∀ x∈b.toList,D x) (sb:Srd rk b.toList) (L:Hi rk a b out na nb) (lt:∀ y,b[nb - 1]?=some y->∀ x∈a.toList.take na,rk x<=rk y) (lo:∀ y∈b.toList.take 1,∀ x∈a.toList,rk y<=rk x) (g:Gal st0 st)
  (hd:∀ r c,LoT rk a b st0 r st->Q (.done (some r,c)) st) (hn:∀ out' na' nb' mg ac bc,Hi rk a b out' na' nb'->out.size<out'.size->Q (.done (none,na',nb',out',mg,ac,bc)) st/\Q (.yield (none,na',nb',out',mg,ac,bc)) st) :
  wpS (model prog w) A E s (gh3 a b ac mg out na nb bc0) Q st:=by
 have h1:=L.ha
 have h2:=L.hb
 have h3:=L.za
 have h4:=L.zb
 obtain ⟨y,e,ey,ed⟩:=qC9 b (n:=nb - 1) (by omega)
 rw [show nb - 1+1=nb by omega] at ed
 obtain ⟨x,f,fx,fd⟩:=qC9 a (n:=na - 1) (by omega)
 rw [show na - 1+1=na by omega] at fd
 have m:HM rk a b (out.push y) na (nb - 1):=by
  have m:=L.mi
  unfold HM at m ⊢
  rw [ed] at m
  rw [hBq]
  exact MI.bs (xs:=[y]) m fun z hz x hx=>by
   rw [hA7.mp hz]
   have:=lt y e x (hCx.mp hx)
   unfold ng
   omega
 have sh:=qBx (fd▸m.sa)
 unfold gh3
 refine wpS_bind (qAt e ?_)
 by_cases c:(nb - 1 == 1)=true
 ·rw [if_pos c]
  exact wpS_pure (hd _ _ ⟨g,Hi.fs m (eq_of_beq c) lo⟩)
 ·rw [if_neg c]
  have c':nb - 1≠1:=by simpa using c
  refine wpS_bind (qAt f ?_)
  refine wpS_bind (qDw ak (l:=b.toList.take (nb - 1)) hk (da x fx) (by rw [List.drop_zero]) (by simp;omega) (fun z hz=>db z (hD1 hz)) (List.Pairwise.sublist (hDj _ _) sb) (by omega) fun l1 l2 el p1 p2=>?_)
  have q1:∀ z∈l1,rk z<rk x:=fun z hz=>by simpa [gP] using p1 z hz
  have q2:∀ z∈l2,rk x<=rk z:=fun z hz=>by
   have:=p2 z hz
   simp [gP] at this
   exact this
  obtain ⟨X1,X2,X3⟩:=ext_hi (by omega) el
  dsimp only
  by_cases k0:nb - 1 - l1.length > 0
  ·rw [if_pos k0]
   have m2:HM rk a b (out.push y++(b.extract l1.length (nb - 1)).reverse) na l1.length:=by
    unfold HM at m ⊢
    rw [hBn,Array.toList_reverse,X1,X2]
    rw [el,List.reverse_append] at m
    exact m.bs fun z hz x' hx'=>by
     have a1:=q2 z (hCx.mp hz)
     have a2:=sh x' (fd▸hx')
     unfold ng at a2 ⊢
     omega
   by_cases d:(l1.length == 1)=true
   ·rw [if_pos d]
    exact wpS_pure (hd _ _ ⟨g,Hi.fs m2 (eq_of_beq d) lo⟩)
   ·rw [if_neg d]
    by_cases d2:(l1.length == 0)=true
    ·rw [if_pos d2]
     exact wpS_pure (hd _ _ ⟨g,Hi.dn m2 (.inr (eq_of_beq d2))⟩)
    ·rw [if_neg d2]
     have d':l1.length≠1:=by simpa using d
     have d2':l1.length≠0:=fun z=>d2 (by rw [z];rfl)
     refine wp_gh4 ⟨m2,h1,by omega,h3,by omega⟩ (fun z hz y hy=>?_) g hd fun o i mg ac bc L' hs=>hn o i _ mg ac bc L' ?_
     ·rw [X2] at hy
      rw [f] at hz
      cases hz
      exact hDi (q1 y hy)
     ·simp at hs;omega
  ·rw [if_neg k0]
   have n1:l2=[]:=hB1.mp (by omega)
   subst n1
   refine wp_gh4 ⟨m,h1,by omega,h3,by omega⟩ (fun z hz y hy=>?_) g hd fun o i mg ac bc L' hs=>hn o i _ mg ac bc L' ?_
   ·rw [el,hC5] at hy
    rw [f] at hz
    cases hz
    exact hDi (q1 y hy)
   ·simp at hs;omega
theorem wp_gh2 (ak:qF0 prog w A E s rk kd D) {a b out:Array Keyed} {mg ac0 bc0 na nb:Nat} {st st0:SortSt} {Q:H7->SortSt->Prop} (hk:kindOf st0=kd) (da:∀ x∈a.toList,D x) (db:∀ x∈b.toList,D x) (sa:Srd rk a.toList) (sb:Srd rk b.toList) (L:Hi rk a b out na nb) (lo:∀ y∈b.toList.take 1,∀ x∈a.toList,rk y<=rk x) (g:Gal st0 st)
  (hd:∀ r c st,LoT rk a b st0 r st->Q (.done (some r,c)) st) (hn:∀ out' na' nb' mg ac bc st,Gal st0 st->Hi rk a b out' na' nb'->out.size<out'.size->Q (.done (none,na',nb',out',mg,ac,bc)) st/\Q (.yield (none,na',nb',out',mg,ac,bc)) st) :
  wpS (model prog w) A E s (gh2 a b mg out na nb ac0 bc0) Q st:=by
 have h1:=L.ha
 have h2:=L.hb
 have h3:=L.za
 have h4:=L.zb
 have m:=L.mi
 obtain ⟨y,e,ey,ed⟩:=qC9 b (n:=nb - 1) (by omega)
 rw [show nb - 1+1=nb by omega] at ed
 have sh:=qBx (ed▸m.sb)
 unfold gh2
 refine wpS_bind (qEq fun st1 g1=>?_)
 have g':=g.trans g1
 refine wpS_bind (qAt e ?_)
 refine wpS_bind (qDw ak (l:=a.toList.take na) (g'.1.trans hk) (db y ey) (by rw [List.drop_zero]) (by simp;omega) (fun z hz=>da z (hD1 hz)) (List.Pairwise.sublist (hDj _ _) sa) (by omega) fun l1 l2 el p1 p2=>?_)
 have q1:∀ z∈l1,rk z<=rk y:=fun z hz=>by simpa [gP] using p1 z hz
 have q2:∀ z∈l2,rk y<rk z:=fun z hz=>by simpa [gP] using p2 z hz
 obtain ⟨X1,X2,X3⟩:=ext_hi (by omega) el
 dsimp only
 by_cases k0:na - l1.length > 0
 ·rw [if_pos k0]
  have m2:HM rk a b (out++(a.extract l1.length na).reverse) l1.length nb:=by
   unfold HM at m ⊢
   rw [hBn,Array.toList_reverse,X1,X2]
   rw [el,List.reverse_append] at m
   exact m.as fun z hz x' hx'=>by
    have a1:=q2 z (hCx.mp hz)
    have a2:=sh x' (ed▸hx')
    unfold ng at a2 ⊢
    omega
  by_cases d2:(l1.length == 0)=true
  ·rw [if_pos d2]
   exact wpS_pure (hd _ _ _ ⟨g',Hi.dn m2 (.inl (eq_of_beq d2))⟩)
  ·rw [if_neg d2]
   have d2':l1.length≠0:=fun z=>d2 (by rw [z];rfl)
   refine wp_gh3 ak (g'.1.trans hk) da db sb ⟨m2,by omega,h2,by omega,h4⟩ (fun z hz x hx=>?_) lo g' (fun r c=>hd r c _) fun o i j mg ac bc L' hs=>hn o i j mg ac bc _ g' L' ?_
   ·rw [X2] at hx
    rw [e] at hz
    cases hz
    exact q1 x hx
   ·simp at hs;omega
 ·rw [if_neg k0]
  have n1:l2=[]:=hB1.mp (by omega)
  subst n1
  refine wp_gh3 ak (g'.1.trans hk) da db sb L (fun z hz x hx=>?_) lo g' (fun r c=>hd r c _) fun o i j mg ac bc L' hs=>hn o i j mg ac bc _ g' L' hs
  rw [el,hC5] at hx
  rw [e] at hz
  cases hz
  exact q1 x hx
theorem wpS_mergeHi (ak:qF0 prog w A E s rk kd D) {a b:Array Keyed} {st:SortSt} {Q:Array Keyed->SortSt->Prop} (hk:kindOf st=kd) (da:∀ x∈a.toList,D x) (db:∀ x∈b.toList,D x) (sa:Srd rk a.toList) (sb:Srd rk b.toList) (h1:1<=a.size) (h2:1<=b.size)
  (lo:∀ y∈b.toList.take 1,∀ x∈a.toList,rk y<=rk x) (hi:∀ x∈a.toList.drop (a.size - 1),∀ y∈b.toList,rk y<=rk x) (h:∀ r st',Gal st st'->Dn rk (a.toList++b.toList) r.toList->Q r st'):wpS (model prog w) A E s (mergeHi' a b) Q st:=by
 rw [mergeHi'_eq]
 refine wpS_bind (wpS_lift (wpAny_rule ⟨rfl,?_⟩))
 obtain ⟨x,e,ex,ed⟩:=qC9 a (n:=a.size - 1) (by omega)
 rw [show a.size - 1+1=a.size by omega] at ed
 refine wpS_bind (qAt e ?_)
 have m:HM rk a b #[x] (a.size - 1) b.size:=by
  have m0:MI (ng rk) (a.toList++b.toList) (a.toList.take a.size).reverse (b.toList.take b.size).reverse []:=by
   have ea:a.toList.take a.size=a.toList:=hA8 (by simp)
   have eb:b.toList.take b.size=b.toList:=hA8 (by simp)
   rw [ea,eb]
   refine ⟨?_,List.Pairwise.nil,sa.turn,sb.turn,fun x hx=>(by cases hx),fun x hx=>(by cases hx)⟩
   exact ((List.reverse_perm _).append (List.reverse_perm _))
  rw [ed] at m0
  refine MI.as (xs:=[x]) m0 fun z hz y hy=>?_
  rw [hA7.mp hz]
  have:=hi x ?_ y (hD1 (hCx.mp hy))
  ·unfold ng;omega
  ·obtain ⟨x',e',_,ed'⟩:=qEk a (i:=a.size - 1) (by omega)
   rw [e] at e'
   cases e'
   rw [ed']
   exact hA2 ..
 by_cases e1:(a.size - 1 == 0)=true
 ·rw [if_pos e1]
  exact wpS_pure (h _ _ (Gal.refl _) (Hi.dn m (.inl (eq_of_beq e1))))
 rw [if_neg e1]
 by_cases e2:(b.size == 1)=true
 ·rw [if_pos e2]
  exact wpS_pure (h _ _ (Gal.refl _) (Hi.fs m (eq_of_beq e2) lo))
 rw [if_neg e2]
 have e1':a.size - 1≠0:=fun z=>e1 (by rw [z];rfl)
 have e2':b.size≠1:=fun z=>e2 (by rw [z];rfl)
 refine wpS_bind (wpS_get ?_)
 have tot:∀ {o:Array Keyed} {i j:Nat},Hi rk a b o i j->o.size+3<=a.size+b.size:=fun {o i j} L=>by
  have:=L.mi.len
  have:=L.ha
  have:=L.hb
  have:=L.za
  have:=L.zb
  simp at *
  omega
 refine wpS_bind (wpS_mono (wpS_forRange (I:=fun x c st'=>∃ out na nb mg,c=(none,na,nb,out,mg)/\Hi rk a b out na nb/\x+1<=out.size/\Gal st st')
  (Q:=fun c st'=>∃ r c',c=(some r,c')/\LoT rk a b st r st') ?_ ?_ ⟨_,_,_,_,rfl,⟨m,by omega,by omega,by omega,hA5 _⟩,by simp,Gal.refl _⟩) ?_)
 ·rintro x c st1 _ hx ⟨out,ia,ib,mg,rfl,L,hs,g⟩
  refine wpS_bind (wpS_mono (wpS_forRange (I:=fun y c st'=>∃ o ia ib ac bc,c=(none,ia,ib,o,ac,bc)/\Hi rk a b o ia ib/\out.size+y<=o.size/\Gal st st')
   (Q:=fun c st'=>(∃ r c',c=(some r,c')/\LoT rk a b st r st')\/∃ o ia ib ac bc,c=(none,ia,ib,o,ac,bc)/\Hi rk a b o ia ib/\out.size<o.size/\Gal st st') ?_ ?_ ⟨_,_,_,_,_,rfl,L,hA5 _,g⟩) ?_)
  ·rintro y c st2 _ hy ⟨o,ja,jb,ac,bc,rfl,L2,hs2,g2⟩
   have h1:=L2.ha
   have h2:=L2.hb
   have h3:=L2.za
   have h4:=L2.zb
   have m:=L2.mi
   obtain ⟨v,f,fv,fd⟩:=qC9 b (n:=jb - 1) (by omega)
   rw [show jb - 1+1=jb by omega] at fd
   obtain ⟨u,p,pu,pd⟩:=qC9 a (n:=ja - 1) (by omega)
   rw [show ja - 1+1=ja by omega] at pd
   refine wpS_bind (qAt f ?_)
   refine wpS_bind (qAt p ?_)
   refine wpS_bind (ak v u (db v fv) (da u pu) _ _ (g2.1.trans hk) ?_)
   have sv:=qBx (fd▸m.sb)
   have su:=qBx (pd▸m.sa)
   unfold ng at sv su
   by_cases c:rk v<rk u
   ·rw [decide_eq_true c]
    have m2:HM rk a b (o.push u) (ja - 1) jb:=by
     unfold HM at m ⊢
     rw [pd] at m
     rw [hBq]
     refine MI.as (xs:=[u]) m fun z hz x hx=>?_
     rw [hA7.mp hz]
     have:=sv x (fd▸hx)
     unfold ng
     omega
    dsimp only
    rw [if_pos rfl]
    refine wpS_bind (qAt p ?_)
    by_cases q:(ja - 1 == 0)=true
    ·rw [if_pos q]
     exact wpS_pure (.inl ⟨_,_,rfl,g2,Hi.dn m2 (.inl (eq_of_beq q))⟩)
    ·rw [if_neg q]
     have q':ja - 1≠0:=fun z=>q (by rw [z];rfl)
     split
     ·exact wpS_pure (.inr ⟨_,_,_,_,_,rfl,⟨m2,by omega,h2,by omega,h4⟩,by simp;omega,g2⟩)
     ·exact wpS_pure ⟨_,_,_,_,_,rfl,⟨m2,by omega,h2,by omega,h4⟩,by simp;omega,g2⟩
   ·rw [decide_eq_false c]
    have m2:HM rk a b (o.push v) ja (jb - 1):=by
     unfold HM at m ⊢
     rw [fd] at m
     rw [hBq]
     refine MI.bs (xs:=[v]) m fun z hz x hx=>?_
     rw [hA7.mp hz]
     have:=su x (pd▸hx)
     unfold ng
     omega
    dsimp only
    rw [if_neg (by decide)]
    refine wpS_bind (qAt f ?_)
    by_cases q:(jb - 1 == 1)=true
    ·rw [if_pos q]
     exact wpS_pure (.inl ⟨_,_,rfl,g2,Hi.fs m2 (eq_of_beq q) lo⟩)
    ·rw [if_neg q]
     have q':jb - 1≠1:=fun z=>q (by rw [z];rfl)
     split
     ·exact wpS_pure (.inr ⟨_,_,_,_,_,rfl,⟨m2,h1,by omega,h3,by omega⟩,by simp;omega,g2⟩)
     ·exact wpS_pure ⟨_,_,_,_,_,rfl,⟨m2,h1,by omega,h3,by omega⟩,by simp;omega,g2⟩
  ·rintro c st2 ⟨o,ja,jb,ac,bc,rfl,L2,hs2,g2⟩
   have:=tot L2
   omega
  ·rintro c st2 (⟨r,c',rfl,hr⟩ | ⟨o,ja,jb,ac,bc,rfl,L2,hs2,g2⟩)
   ·exact wpS_pure ⟨r,_,rfl,hr⟩
   ·refine wpS_bind (wpS_lift (wpAny_rule ⟨rfl,?_⟩))
    refine wpS_bind (wpS_mono (wpS_forRange (I:=fun y c st'=>∃ o' ia ib mg ac bc,c=(none,ia,ib,o',mg,ac,bc)/\Hi rk a b o' ia ib/\o.size+y<=o'.size/\Gal st st')
     (Q:=fun c st'=>(∃ r c',c=(some r,c')/\LoT rk a b st r st')\/∃ o' ia ib mg ac bc,c=(none,ia,ib,o',mg,ac,bc)/\Hi rk a b o' ia ib/\o.size<=o'.size/\Gal st st') ?_ ?_ ⟨_,_,_,_,_,_,rfl,L2,hA5 _,g2⟩) ?_)
    ·rintro y c st3 _ hy ⟨o',ka,kb,mg',ac',bc',rfl,L3,hs3,g3⟩
     have one:∀ mg,wpS (model prog w) A E s (gh2 a b mg o' ka kb ac' bc') (fun r st'=>match r with | .done c'=>(∃ r c'',c'=(some r,c'')/\LoT rk a b st r st')\/∃ o' ia ib mg ac bc,c'=(none,ia,ib,o',mg,ac,bc)/\Hi rk a b o' ia ib/\o.size<=o'.size/\Gal st st' | .yield c'=>∃ o' ia ib mg ac bc,c'=(none,ia,ib,o',mg,ac,bc)/\Hi rk a b o' ia ib/\o.size+(y+1)<=o'.size/\Gal st st') st3:=fun mg =>
      wp_gh2 ak hk da db sa sb L3 lo g3 (fun r c st5 hr=>.inl ⟨r,c,rfl,hr⟩) fun o6 i j mg6 ac6 bc6 st6 g6 L6 hs6=>⟨.inr ⟨_,_,_,_,_,_,rfl,L6,by omega,g6⟩,⟨_,_,_,_,_,_,rfl,L6,by omega,g6⟩⟩
     refine wpS_mono (m:=ghT a b (none,ka,kb,o',mg',ac',bc')) ?_ (fun r st' hr=>?_) (Q:=fun r st'=>match r with | .done c'=>(∃ r c'',c'=(some r,c'')/\LoT rk a b st r st')\/∃ o' ia ib mg ac bc,c'=(none,ia,ib,o',mg,ac,bc)/\Hi rk a b o' ia ib/\o.size<=o'.size/\Gal st st' | .yield c'=>∃ o' ia ib mg ac bc,c'=(none,ia,ib,o',mg,ac,bc)/\Hi rk a b o' ia ib/\o.size+(y+1)<=o'.size/\Gal st st')
     ·unfold ghT
      split
      ·exact one _
      ·exact one _
     ·cases r with
      | done c'=>exact hr
      | yield c'=>exact hr
    ·rintro c st3 ⟨o',ka,kb,mg',ac',bc',rfl,L3,hs3,g3⟩
     have:=tot L3
     omega
    ·rintro c st3 (⟨r,c',rfl,hr⟩ | ⟨o',ka,kb,mg',ac',bc',rfl,L3,hs3,g3⟩)
     ·exact wpS_pure ⟨r,_,rfl,hr⟩
     ·refine wpS_bind (qEq fun st4 g4=>?_)
      exact wpS_pure ⟨_,_,_,_,rfl,L3,by show _<=o'.size;omega,g3.trans g4⟩
 ·rintro c st1 ⟨out,ia,ib,mg,rfl,L,hs,g⟩
  have:=tot L
  omega
 ·rintro c st1 ⟨r,c',rfl,hr⟩
  exact wpS_pure (h _ _ hr.1 hr.2)
end
end L2
namespace L2
open PySem PySem.Spec PyProof.Rows
def wrA (m:Array Keyed) (s:Nat) (a:Array Keyed):Array Keyed:=m.toList.zipIdx.foldl (fun a (p,j)=>a.setIfInBounds (s+j) p) a
theorem mergeAt'_eq (i:Nat):mergeAt' i=(do
 let s ← get
 let (some (sa,na,power),some (sb,nb,_)):=((pendingOf s)[i]?,(pendingOf s)[i+1]?) | unsupported "internal:list.sort.pending"
 set (setPending s (((pendingOf s).setIfInBounds i (sa,na+nb,power)).eraseIdxIfInBounds (i+1)))
 let some k ← gallop' false (← elem' (arrOf s) sb) (arrOf s) sa na 0 | return false
 let (sa,na):=(sa+k,na - k)
 if na == 0 then return true
 let some nb ← gallop' true (← elem' (arrOf s) (sa+na - 1)) (arrOf s) sb nb (nb - 1) | return false
 if nb == 0 then return true
 let x:=(arrOf s).extract sa sb
 let y:=(arrOf s).extract sb (sb+nb)
 let merged ← if na<=nb then mergeLo' x y else mergeHi' x y
 modify fun s=>setArr s (wrA merged sa (arrOf s))
 return (failedOf (← get)).isNone):=rfl
theorem wr_list (s:Nat):∀ (l:List Keyed) (k:Nat) (a:Array Keyed),s+k+l.length<=a.size->((l.zipIdx k).foldl (fun a (p,j)=>a.setIfInBounds (s+j) p) a).toList=a.toList.take (s+k)++(l++a.toList.drop (s+k+l.length))
 | [],k,a,h=>by simp
 | p :: l,k,a,h=>by
  rw [List.zipIdx_cons,List.foldl_cons]
  have hl:s+k+(l.length+1)<=a.size:=h
  rw [wr_list s l (k+1) _ (by simp;omega)]
  have e:(a.setIfInBounds (s+k) p).toList=a.toList.set (s+k) p:=Array.toList_setIfInBounds ..
  rw [e]
  have hs:s+k<a.toList.length:=by simp;omega
  have e1:(a.toList.set (s+k) p).take (s+(k+1))=a.toList.take (s+k)++[p]:=by
   rw [show s+(k+1)=s+k+1 by omega,List.take_succ_eq_append_getElem (by simpa using hs),List.take_set_of_le (hA5 _)]
   simp
  have e2:(a.toList.set (s+k) p).drop (s+(k+1)+l.length)=a.toList.drop (s+k+(p :: l).length):=by
   rw [List.drop_set_of_lt (by omega)]
   congr 1
   simp
   omega
  rw [e1,e2]
  simp
theorem wr_app {P X S M:List Keyed} {a m:Array Keyed} (e:a.toList=P++(X++S)) (hm:m.toList=M) (hl:M.length=X.length):(wrA m P.length a).toList=P++(M++S):=by
 subst hm
 have sz:a.size=P.length+(X.length+S.length):=by
  rw [<-hB2,e];simp
 unfold wrA
 rw [wr_list P.length m.toList 0 a (by omega),e,Nat.add_zero,hD3,hl]
 ·congr 2
  rw [<-hBg,hD4]
  simp
 ·rfl
section
variable {prog:Program} {w:World} {A:Around} {E:Value->Shared->Prop} {s:Shared} {rk:Keyed->Int} {kd:SortKind} {D:Keyed->Prop}
theorem wpS_set {σ:Type} {M:Model} {st st':σ} {Q:PUnit->σ->Prop} (h:Q ⟨⟩ st'):wpS M A E s (set st':StateT σ Sem PUnit) Q st:=by
 unfold wpS;rw [StateT.run_set];exact wpAny_pure ⟨rfl,h⟩
theorem at_app {a:Array Keyed} {P S:List Keyed} {x:Keyed} (e:a.toList=P++x :: S):a[P.length]?=some x:=by
 rw [<-hAo,e,hC2 (hA5 _)]
 simp
theorem wpS_mergeAt (ak:qF0 prog w A E s rk kd D) {i:Nat} {st:SortSt} {Q:Bool->SortSt->Prop} {P X Y S:List Keyed} {pw q:Nat} (hk:kindOf st=kd) (hf:failedOf st=none) (e:(arrOf st).toList=P++(X++(Y++S))) (d:∀ x∈(arrOf st).toList,D x)
  (p1:(pendingOf st)[i]?=some (P.length,X.length,pw)) (p2:(pendingOf st)[i+1]?=some (P.length+X.length,Y.length,q)) (sX:Srd rk X) (sY:Srd rk Y) (nX:X≠[]) (nY:Y≠[])
  (h:∀ st' M,kindOf st'=kd->failedOf st'=none->pendingOf st'=((pendingOf st).setIfInBounds i (P.length,X.length+Y.length,pw)).eraseIdxIfInBounds (i+1)->(arrOf st').toList=P++(M++S)->Dn rk (X++Y) M->Q true st'):wpS (model prog w) A E s (mergeAt' i) Q st:=by
 rw [mergeAt'_eq]
 refine wpS_bind (wpS_get ?_)
 rw [p1,p2]
 dsimp only
 refine wpS_bind (wpS_set ?_)
 obtain ⟨b0,Y',eY⟩:=List.exists_cons_of_ne_nil nY
 have sb0:=qBx (eY▸sY)
 rw [<-eY] at sb0
 have eb:(arrOf st)[P.length+X.length]?=some b0:=by
  have:=at_app (a:=arrOf st) (P:=P++X) (x:=b0) (S:=Y'++S) (by rw [e,eY];simp)
  simpa using this
 have dX:∀ x∈X,D x:=fun x hx=>d x (by rw [e];simp [hx])
 have dY:∀ x∈Y,D x:=fun x hx=>d x (by rw [e];simp [hx])
 have mb:b0∈Y:=by rw [eY];exact hA2 ..
 refine wpS_bind (qAt eb ?_)
 refine wpS_bind (qDw ak (l:=X) hk (dY _ mb) (by rw [e,hD4 rfl,hD3 rfl]) rfl dX sX (List.length_pos_iff.mpr nX) fun l1 l2 el q1 q2=>?_)
 have r1:∀ z∈l1,rk z<=rk b0:=fun z hz=>by simpa [gP] using q1 z hz
 have r2:∀ z∈l2,rk b0<rk z:=fun z hz=>by simpa [gP] using q2 z hz
 have lX:X.length=l1.length+l2.length:=by rw [el];simp
 have plain:(∀ x∈X,∀ y∈Y,rk x<=rk y)->Dn rk (X++Y) (X++Y):=fun c=>⟨hCi _,hAz.mpr ⟨sX,sY,c⟩⟩
 dsimp only
 by_cases c:(X.length - l1.length == 0)=true
 ·rw [if_pos c]
  have c':X.length - l1.length=0:=eq_of_beq c
  have n2:l2=[]:=hB1.mp (by omega)
  rw [n2,hC5] at el
  exact wpS_pure (h _ (X++Y) hk hf rfl (by rw [hBg];exact e) (plain fun x hx y hy=>Int.le_trans (r1 x (el▸hx)) (sb0 y hy)))
 ·rw [if_neg c]
  have c':X.length - l1.length≠0:=fun z=>c (by rw [z];rfl)
  obtain ⟨l3,z,e3⟩:∃ l3 z,l2=l3++[z]:=by
   rcases List.eq_nil_or_concat l2 with z | ⟨l3,z,hz⟩
   ·rw [z] at lX;simp at lX;omega
   ·exact ⟨l3,z,by simpa using hz⟩
  have ez:(arrOf st)[P.length+l1.length+(X.length - l1.length) - 1]?=some z:=by
   have:=at_app (a:=arrOf st) (P:=P++l1++l3) (x:=z) (S:=Y++S) (by rw [e,el,e3];simp)
   rw [<-this]
   congr 1
   have:l2.length=l3.length+1:=by rw [e3];simp
   simp
   omega
  have mz:z∈X:=by rw [el,e3];simp
  have topz:∀ x∈X,rk x<=rk z:=fun x hx=>by
   have e4:X=(l1++l3)++[z]:=by rw [el,e3];simp
   rw [e4] at hx sX
   rcases hAf.mp hx with hx | hx
   ·exact (hAz.mp sX).2.2 x hx z (hA7.mpr rfl)
   ·rw [hA7.mp hx];exact hD9 _
  refine wpS_bind (qAt ez ?_)
  refine wpS_bind (qDw ak (l:=Y) hk (dX _ mz) (by rw [e,<-hBg,hD4 (by simp),hD3 rfl]) rfl dY sY (by have:=List.length_pos_iff.mpr nY;omega) fun m1 m2 em t1 t2=>?_)
  have u1:∀ y∈m1,rk y<rk z:=fun y hy=>by simpa [gP] using t1 y hy
  have u2:∀ y∈m2,rk z<=rk y:=fun y hy=>by
   have:=t2 y hy
   simp [gP] at this
   exact this
  dsimp only
  by_cases f:(m1.length == 0)=true
  ·rw [if_pos f]
   have n1:m1=[]:=hB1.mp (eq_of_beq f)
   rw [n1,List.nil_append] at em
   exact wpS_pure (h _ (X++Y) hk hf rfl (by rw [hBg];exact e) (plain fun x hx y hy=>Int.le_trans (topz x hx) (u2 y (em▸hy))))
  ·rw [if_neg f]
   have f':m1.length≠0:=fun z=>f (by rw [z];rfl)
   have ex:((arrOf st).extract (P.length+l1.length) (P.length+X.length)).toList=l2:=by
    rw [qC5,e,el,show P++((l1++l2)++(Y++S))=(P++l1)++(l2++(Y++S)) by simp,hD4 (by simp),hD3 (by simp;omega)]
   have ey:((arrOf st).extract (P.length+X.length) (P.length+X.length+m1.length)).toList=m1:=by
    rw [qC5,e,em,show P++(X++((m1++m2)++S))=(P++X)++(m1++(m2++S)) by simp,hD4 (by simp),hD3 (by omega)]
   have sx:((arrOf st).extract (P.length+l1.length) (P.length+X.length)).size=l2.length:=by rw [<-hB2,ex]
   have sy:((arrOf st).extract (P.length+X.length) (P.length+X.length+m1.length)).size=m1.length:=by rw [<-hB2,ey]
   have s2:Srd rk l2:=(hAz.mp (el▸sX)).2.1
   have t2':Srd rk m1:=(hAz.mp (em▸sY)).1
   have i1:∀ x∈l2,x∈X:=fun x hx=>by rw [el];exact hA6 _ hx
   have i2:∀ x∈m1,x∈Y:=fun x hx=>by rw [em];exact hAm _ hx
   have lo:∀ y∈m1.take 1,∀ x∈l2,rk y<=rk x:=fun y hy x hx=>by
    have:y=b0:=by
     cases m1 with
     | nil=>cases hy
     | cons v m1 =>
      rw [eY] at em
      injection em with e5 _
      rw [e5]
      simpa using hy
    rw [this]
    exact hDi (r2 x hx)
   have hi:∀ x∈l2.drop (l2.length - 1),∀ y∈m1,rk y<=rk x:=fun x hx y hy=>by
    have:x=z:=by
     rw [e3] at hx
     simpa using hx
    rw [this]
    exact hDi (u1 y hy)
   have post:∀ (r:Array Keyed) (st':SortSt),Gal (setPending st (((pendingOf st).setIfInBounds i (P.length,X.length+Y.length,pw)).eraseIdxIfInBounds (i+1))) st'->Dn rk (l2++m1) r.toList->wpS (model prog w) A E s (do modify fun s=>setArr s (wrA r (P.length+l1.length) (arrOf s));return (failedOf (← get)).isNone) Q st':=fun r st' g dn=>by
    refine wpS_bind (wpS_modify ?_)
    refine wpS_bind (wpS_get ?_)
    have ef:failedOf st'=none:=g.2.2.2.trans hf
    have ea:(arrOf st').toList=(P++l1)++((l2++m1)++(m2++S)):=by
     rw [g.2.1]
     show (arrOf st).toList=_
     rw [e,el,em];simp
    have ew:=wr_app (m:=r) ea rfl dn.1.length_eq
    rw [hAc] at ew
    have fin:=h (setArr st' (wrA r (P.length+l1.length) (arrOf st'))) (l1++(r.toList++m2)) (g.1.trans hk) ef g.2.2.1 (by
     show (wrA r (P.length+l1.length) (arrOf st')).toList=_
     rw [ew];simp) ?_
    ·have et:(failedOf (setArr st' (wrA r (P.length+l1.length) (arrOf st')))).isNone=true:=by
      show (failedOf st').isNone=true
      rw [ef];rfl
     rw [et]
     exact wpS_pure fin
    ·refine ⟨?_,?_⟩
     ·rw [el,em,hBg]
      refine List.Perm.append_left l1 ?_
      rw [<-hBg]
      exact List.Perm.append_right m2 dn.1
     ·have mem:∀ x∈r.toList,x∈l2\/x∈m1:=fun x hx=>hAf.mp (dn.1.mem_iff.mp hx)
      have sp:=hAz.mp (el▸sX)
      have sq:=hAz.mp (em▸sY)
      have am:∀ y∈m2,y∈Y:=fun y hy=>by rw [em];exact hA6 _ hy
      refine hAz.mpr ⟨sp.1,hAz.mpr ⟨dn.2,sq.2.1,fun x hx y hy=>?_⟩,fun x hx y hy=>?_⟩
      ·rcases mem x hx with k | k
       ·exact Int.le_trans (topz x (i1 x k)) (u2 y hy)
       ·exact sq.2.2 x k y hy
      ·rcases hAf.mp hy with k | k
       ·rcases mem y k with k | k
        ·exact sp.2.2 x hx y k
        ·exact Int.le_trans (r1 x hx) (sb0 y (i2 y k))
       ·exact Int.le_trans (r1 x hx) (sb0 y (am y k))
   by_cases sm:X.length - l1.length<=m1.length
   ·rw [if_pos sm]
    refine wpS_bind (wpS_mergeLo ak hk (fun x hx=>dX x (i1 x (ex▸hx))) (fun x hx=>dY x (i2 x (ey▸hx))) (ex.symm▸s2) (ey.symm▸t2') (by omega) (by omega) (by rw [ex,ey];exact lo) (by rw [ex,ey,sx];exact hi) fun r st' g dn=>?_)
    rw [ex,ey] at dn
    exact post r st' g dn
   ·rw [if_neg sm]
    refine wpS_bind (wpS_mergeHi ak hk (fun x hx=>dX x (i1 x (ex▸hx))) (fun x hx=>dY x (i2 x (ey▸hx))) (ex.symm▸s2) (ey.symm▸t2') (by omega) (by omega) (by rw [ex,ey];exact lo) (by rw [ex,ey,sx];exact hi) fun r st' g dn=>?_)
    rw [ex,ey] at dn
    exact post r st' g dn
end
end L2
namespace L2
open PySem PySem.Spec PyProof.Rows
def kr (rk:Keyed->Int) (xs:Array Keyed) (i:Nat):Int:=match xs[i]? with
 | some p=>rk p
 | none=>0
theorem kr_congr {rk:Keyed->Int} {xs ys:Array Keyed} {i j:Nat} (h:xs[i]?=ys[j]?):kr rk xs i=kr rk ys j:=by unfold kr;rw [h]
theorem kr_rev {rk:Keyed->Int} {xs:Array Keyed} {i j:Nat} (hj:j<=xs.size) (k:Nat):kr rk (mirror xs i j ((j - i) / 2)) k=if i<=k/\k<j then kr rk xs (i+j - 1 - k) else kr rk xs k:=by
 have e:=getElem?_mirror_all (i:=i) hj k
 split
 ·rename_i h;rw [if_pos h] at e;exact kr_congr e
 ·rename_i h;rw [if_neg h] at e;exact kr_congr e
theorem kr_bub {rk:Keyed->Int} {xs:Array Keyed} {src d:Nat} (hs:src<xs.size) (hd:d<=src) (k:Nat):kr rk (bubble xs src d) k=if k=src - d then kr rk xs src else if src - d<k/\k<=src then kr rk xs (k - 1) else kr rk xs k:=by
 have e:=getElem?_bubble hs d hd k
 split
 ·rename_i h;rw [if_pos h] at e;exact kr_congr e
 ·rename_i h
  rw [if_neg h] at e
  split
  ·rename_i h;rw [if_pos h] at e;exact kr_congr e
  ·rename_i h;rw [if_neg h] at e;exact kr_congr e
def Up (rk:Keyed->Int) (xs:Array Keyed) (lo n:Nat):Prop:=∀ i j,i<=j->j<n->kr rk xs (lo+i)<=kr rk xs (lo+j)
def Dw (rk:Keyed->Int) (xs:Array Keyed) (lo n:Nat):Prop:=∀ i j,i<=j->j<n->kr rk xs (lo+j)<=kr rk xs (lo+i)
structure Sf (a₀:Array Keyed) (lo:Nat) (kd:SortKind) (pd:Array (Nat×Nat×Nat)) (st:SortSt):Prop where
 perm:(arrOf st).Perm a₀
 kind:kindOf st=kd
 failed:failedOf st=none
 pend:pendingOf st=pd
 low:∀ i,i<lo->(arrOf st)[i]?=a₀[i]?
section
variable {prog:Program} {w:World} {A:Around} {E:Value->Shared->Prop} {s:Shared} {rk:Keyed->Int} {kd:SortKind} {D:Keyed->Prop} {a₀:Array Keyed} {lo:Nat} {pd:Array (Nat×Nat×Nat)}
theorem Sf.size {st:SortSt} (h:Sf a₀ lo kd pd st):(arrOf st).size=a₀.size:=h.perm.size_eq
theorem Sf.arr {st:SortSt} (h:Sf a₀ lo kd pd st) {xs:Array Keyed} (p:xs.Perm (arrOf st)) (l:∀ i,i<lo->xs[i]?=(arrOf st)[i]?):Sf a₀ lo kd pd (setArr st xs):=⟨p.trans h.perm,h.kind,h.failed,h.pend,fun i hi=>(l i hi).trans (h.low i hi)⟩
theorem Sf.rev {st:SortSt} (h:Sf a₀ lo kd pd st) {i j:Nat} (hi:lo<=i) (hj:j<=a₀.size):Sf a₀ lo kd pd (setArr st (mirror (arrOf st) i j ((j - i) / 2))):=h.arr (mirror_perm _ _ _ _) fun k hk=>by
 rw [getElem?_mirror_all (by rw [h.size];exact hj),if_neg (by omega)]
theorem qEy (ak:qF0 prog w A E s rk kd D) (d:∀ x∈a₀.toList,D x) {st:SortSt} {i j:Nat} {Q:Option Bool->SortSt->Prop} (F:Sf a₀ lo kd pd st) (hi:i<a₀.size) (hj:j<a₀.size)
  (h:Q (some (decide (kr rk (arrOf st) i<kr rk (arrOf st) j))) st):wpS (model prog w) A E s (ltAt' i j) Q st:=by
 have get:∀ k,k<a₀.size->∃ p,(arrOf st)[k]?=some p/\D p:=fun k hk=>by
  have hk':k<(arrOf st).size:=by rw [F.size];exact hk
  exact ⟨(arrOf st)[k],getElem?_pos _ k hk',d _ ((hBc.mp F.perm).mem_iff.mp (by simp))⟩
 obtain ⟨p,e1,d1⟩:=get i hi
 obtain ⟨q,e2,d2⟩:=get j hj
 rw [ltAt'_eq]
 refine wpS_bind (wpS_get ?_)
 refine wpS_bind (qAt e1 ?_)
 refine wpS_bind (qAt e2 ?_)
 refine ak p q d1 d2 st Q F.kind ?_
 unfold kr at h
 rw [e1,e2] at h
 exact h
def ascO (lo a nrem:Nat):StateT SortSt Sem AscSt :=
 forIn [a:nrem] ((none,a):AscSt) fun _ c=>do
  let some smaller ← ltAt' (lo+c.2) (lo+c.2 - 1) | pure (ForInStep.done (some none,c.2))
  if smaller then pure (ForInStep.done (none,c.2)) else pure (ForInStep.yield (none,c.2+1))
def tailO (lo n0 nrem:Nat):StateT SortSt Sem (Option Nat):=do
 reverseSlice' lo (lo+n0)
 let mut n:=n0
 for _ in [n:nrem] do
  let some smaller ← ltAt' (lo+n) (lo+n - 1) | return none
  if smaller then break
  n:=n+1
 return some n
def descO (lo n0 nrem:Nat):StateT SortSt Sem (Option Nat):=do
 rule "list.sort.descending-run"
 let mut n:=n0+1
 let mut neq:=0
 for _ in [n:nrem] do
  let some smaller ← ltAt' (lo+n) (lo+n - 1) | return none
  if smaller then
   if neq > 0 then reverseSlice' (lo+n - (neq+1)) (lo+n)
   neq:=0
  else
   let some larger ← ltAt' (lo+n - 1) (lo+n) | return none
   if larger then break
   neq:=neq+1
  n:=n+1
 if neq > 0 then reverseSlice' (lo+n - (neq+1)) (lo+n)
 reverseSlice' lo (lo+n)
 for _ in [n:nrem] do
  let some smaller ← ltAt' (lo+n) (lo+n - 1) | return none
  if smaller then break
  n:=n+1
 return some n
theorem wp_ascO (ak:qF0 prog w A E s rk kd D) (d:∀ x∈a₀.toList,D x) {st:SortSt} {a nrem:Nat} {Q:AscSt->SortSt->Prop} (hn:lo+nrem<=a₀.size) (ha:1<=a) (han:a<=nrem) (F:Sf a₀ lo kd pd st) (u:Up rk (arrOf st) lo a)
  (h:∀ n,a<=n->n<=nrem->Up rk (arrOf st) lo n->(n=nrem\/kr rk (arrOf st) (lo+n)<kr rk (arrOf st) (lo+(n - 1)))->Q (none,n) st):wpS (model prog w) A E s (ascO lo a nrem) Q st:=by
 unfold ascO
 refine wpS_forRange (I:=fun x c st'=>st'=st/\c=(none,x)/\Up rk (arrOf st) lo x) ?step ?fin ⟨rfl,rfl,u⟩
 case fin =>
  rintro c st' ⟨rfl,rfl,u'⟩
  rw [show max a nrem=nrem by omega] at u' ⊢
  exact h nrem han (hA5 _) u' (.inl rfl)
 case step =>
  rintro x c st' hax hxn ⟨rfl,rfl,u'⟩
  refine wpS_bind (qEy ak d F (by show lo+x<_;omega) (by show lo+x - 1<_;omega) ?_)
  dsimp only
  rw [show lo+x - 1=lo+(x - 1) by omega]
  by_cases c:kr rk (arrOf st') (lo+x)<kr rk (arrOf st') (lo+(x - 1))
  ·rw [decide_eq_true c]
   exact wpS_pure (h x hax (by omega) u' (.inr c))
  ·rw [decide_eq_false c]
   refine wpS_pure ⟨rfl,rfl,fun i j hij hj=>?_⟩
   by_cases e:j<x
   ·exact u' i j hij e
   ·have e':j=x:=by omega
    subst e'
    by_cases e2:i=j
    ·subst e2;exact hD9 _
    ·have:=u' i (j - 1) (by omega) (by omega)
     omega
theorem wp_tailO (ak:qF0 prog w A E s rk kd D) (d:∀ x∈a₀.toList,D x) {st:SortSt} {n nrem:Nat} {Q:Option Nat->SortSt->Prop} (hn:lo+nrem<=a₀.size) (h1:1<=n) (hnn:n<=nrem) (F:Sf a₀ lo kd pd st) (u:Dw rk (arrOf st) lo n)
  (h:∀ m st',Sf a₀ lo kd pd st'->1<=m->m<=nrem->Up rk (arrOf st') lo m->Q (some m) st'):wpS (model prog w) A E s (tailO lo n nrem) Q st:=by
 unfold tailO
 have sz:=F.size
 refine wpS_bind (wpS_reverse ?_)
 have F':=F.rev (i:=lo) (j:=lo+n) (hA5 _) (by omega)
 refine wpS_bind (wpS_mono (m:=ascO lo n nrem) (wp_ascO ak d (Q:=fun c st'=>∃ m,c=(none,m)/\Sf a₀ lo kd pd st'/\1<=m/\m<=nrem/\Up rk (arrOf st') lo m) hn h1 hnn F' (fun i j hij hj=>?_) fun m hm1 hm2 hu _=>⟨m,rfl,F',by omega,hm2,hu⟩) ?_)
 ·show kr rk (mirror (arrOf st) lo (lo+n) ((lo+n - lo) / 2)) _<=kr rk (mirror (arrOf st) lo (lo+n) ((lo+n - lo) / 2)) _
  rw [kr_rev (by omega),kr_rev (by omega),if_pos (by omega),if_pos (by omega)]
  have:=u (n - 1 - j) (n - 1 - i) (by omega) (by omega)
  rw [show lo+(lo+n) - 1 - (lo+i)=lo+(n - 1 - i) by omega,show lo+(lo+n) - 1 - (lo+j)=lo+(n - 1 - j) by omega]
  exact this
 ·rintro c st' ⟨m,rfl,F2,a1,a2,a3⟩
  exact wpS_pure (h m st' F2 a1 a2 a3)
theorem dw_snoc {xs:Array Keyed} {n:Nat} (u:Dw rk xs lo n) (h1:1<=n) (h:kr rk xs (lo+n)<=kr rk xs (lo+(n - 1))):Dw rk xs lo (n+1):=fun i j hij hj=>by
 by_cases e:j<n
 ·exact u i j hij e
 ·have e':j=n:=by omega
  subst e'
  by_cases e2:i=j
  ·subst e2;exact hD9 _
  ·have:=u i (j - 1) (by omega) (by omega)
   omega
theorem qFj {xs:Array Keyed} {i j:Nat} (hj:j<=xs.size) (h:∀ k,i<=k->k<j->kr rk xs k=kr rk xs (j - 1)) (k:Nat):kr rk (mirror xs i j ((j - i) / 2)) k=kr rk xs k:=by
 rw [kr_rev hj]
 split
 ·rw [h _ (by omega) (by omega),h k (by omega) (by omega)]
 ·rfl
theorem wp_descO (ak:qF0 prog w A E s rk kd D) (d:∀ x∈a₀.toList,D x) {st:SortSt} {n nrem:Nat} {Q:Option Nat->SortSt->Prop} (hn:lo+nrem<=a₀.size) (hnn:n+1<=nrem) (F:Sf a₀ lo kd pd st) (u:Dw rk (arrOf st) lo (n+1))
  (h:∀ m st',Sf a₀ lo kd pd st'->1<=m->m<=nrem->Up rk (arrOf st') lo m->Q (some m) st'):wpS (model prog w) A E s (descO lo n nrem) Q st:=by
 unfold descO
 refine wpS_bind (wpS_lift (wpAny_rule ⟨rfl,?_⟩))
 refine wpS_bind (wpS_mono (wpS_forRange (I:=fun x c st'=>∃ neq,c=(none,x,neq)/\Sf a₀ lo kd pd st'/\1<=x/\x<=nrem/\Dw rk (arrOf st') lo x/\neq+1<=x/\∀ k,lo+x - (neq+1)<=k->k<lo+x->kr rk (arrOf st') k=kr rk (arrOf st') (lo+x - 1))
  (Q:=fun c st'=>∃ x neq,c=(none,x,neq)/\Sf a₀ lo kd pd st'/\1<=x/\x<=nrem/\Dw rk (arrOf st') lo x/\neq+1<=x/\∀ k,lo+x - (neq+1)<=k->k<lo+x->kr rk (arrOf st') k=kr rk (arrOf st') (lo+x - 1)) ?_ ?_ ⟨0,rfl,F,by omega,hnn,u,by omega,fun k k1 k2=>by congr 1;omega⟩) ?_)
 ·rintro x c st' hx1 hx2 ⟨neq,rfl,F',x1,xn,u',q1,q2⟩
  have sz:=F'.size
  refine wpS_bind (qEy ak d F' (by show lo+x<_;omega) (by show lo+x - 1<_;omega) ?_)
  dsimp only
  have ex:lo+x - 1=lo+(x - 1):=by omega
  by_cases c:kr rk (arrOf st') (lo+x)<kr rk (arrOf st') (lo+x - 1)
  ·rw [decide_eq_true c]
   have u2:∀ ys:Array Keyed,(∀ k,kr rk ys k=kr rk (arrOf st') k)->Dw rk ys lo (x+1):=fun ys hy i j hij hj=>by
    rw [hy,hy]
    exact dw_snoc u' x1 (by rw [<-ex];omega) i j hij hj
   show wpS _ _ _ _ (if neq > 0 then _ else _) _ _
   by_cases n0:neq > 0
   ·rw [if_pos n0]
    refine wpS_bind (wpS_reverse (wpS_pure ⟨0,rfl,F'.rev (by omega) (by omega),by omega,by omega,u2 _ (qFj (by omega) q2),by omega,fun k k1 k2=>by congr 1;omega⟩))
   ·rw [if_neg n0]
    exact wpS_pure ⟨0,rfl,F',by omega,by omega,u2 _ (fun _=>rfl),by omega,fun k k1 k2=>by congr 1;omega⟩
  ·rw [decide_eq_false c]
   refine wpS_bind (qEy ak d F' (by show lo+x - 1<_;omega) (by show lo+x<_;omega) ?_)
   dsimp only
   by_cases c2:kr rk (arrOf st') (lo+x - 1)<kr rk (arrOf st') (lo+x)
   ·rw [decide_eq_true c2]
    exact wpS_pure ⟨x,neq,rfl,F',x1,xn,u',q1,q2⟩
   ·rw [decide_eq_false c2]
    have e:kr rk (arrOf st') (lo+x)=kr rk (arrOf st') (lo+x - 1):=by omega
    refine wpS_pure ⟨neq+1,rfl,F',by omega,by omega,dw_snoc u' x1 (by rw [<-ex];omega),by omega,fun k k1 k2=>?_⟩
    rw [show lo+(x+1) - 1=lo+x by omega]
    by_cases ek:k=lo+x
    ·subst ek;rfl
    ·rw [e];exact q2 k (by omega) (by omega)
 ·rintro c st' ⟨neq,rfl,F',x1,xn,u',q1,q2⟩
  exact ⟨_,neq,rfl,F',x1,xn,u',q1,q2⟩
 ·rintro c st' ⟨x,neq,rfl,F',x1,xn,u',q1,q2⟩
  have sz:=F'.size
  show wpS _ _ _ _ (if neq > 0 then _ else _) _ _
  by_cases n0:neq > 0
  ·rw [if_pos n0]
   refine wpS_bind (wpS_reverse ?_)
   refine wpS_mono (m:=tailO lo x nrem) (wp_tailO ak d hn x1 xn (F'.rev (i:=lo+x - (neq+1)) (j:=lo+x) (by omega) (by omega)) (fun i j hij hj=>?_) h) fun _ _ q=>q
   show kr rk (mirror (arrOf st') _ _ _) _<=kr rk (mirror (arrOf st') _ _ _) _
   rw [qFj (i:=lo+x - (neq+1)) (j:=lo+x) (by omega) q2,qFj (i:=lo+x - (neq+1)) (j:=lo+x) (by omega) q2]
   exact u' i j hij hj
  ·rw [if_neg n0]
   exact wpS_mono (m:=tailO lo x nrem) (wp_tailO ak d hn x1 xn F' u' h) fun _ _ q=>q
theorem wp_count (ak:qF0 prog w A E s rk kd D) (d:∀ x∈a₀.toList,D x) {st:SortSt} {nrem:Nat} {Q:Option Nat->SortSt->Prop} (hn:lo+nrem<=a₀.size) (h1:1<=nrem) (F:Sf a₀ lo kd pd st)
  (h:∀ m st',Sf a₀ lo kd pd st'->1<=m->m<=nrem->Up rk (arrOf st') lo m->Q (some m) st'):wpS (model prog w) A E s (countRun' lo nrem) Q st:=by
 rw [countRun'_eq]
 have sz:=F.size
 refine wpS_bind (wpS_mono (m:=ascO lo 1 nrem) (wp_ascO ak d (Q:=fun c st'=>st'=st/\∃ n,c=(none,n)/\1<=n/\n<=nrem/\Up rk (arrOf st) lo n/\(n=nrem\/kr rk (arrOf st) (lo+n)<kr rk (arrOf st) (lo+(n - 1)))) hn (hA5 _) h1 F (fun i j hij hj=>?_) fun n a1 a2 a3 a4=>⟨rfl,n,rfl,a1,a2,a3,a4⟩) ?_)
 ·have:i=j:=by omega
  subst this;exact hD9 _
 rintro c st' ⟨rfl,n,rfl,n1,n2,u,hor⟩
 show wpS _ _ _ _ (if (n == nrem)=true then _ else _) _ _
 by_cases e:(n == nrem)=true
 ·rw [if_pos e]
  exact wpS_pure (h n _ F n1 n2 u)
 ·rw [if_neg e]
  have e':n≠nrem:=by simpa using e
  have lt:=hor.resolve_left e'
  by_cases g:n > 1
  ·show wpS _ _ _ _ (if n > 1 then _ else _) _ _
   rw [if_pos g]
   refine wpS_bind (qEy ak d F (by omega) (by omega) ?_)
   have ex:lo+n - 1=lo+(n - 1):=by omega
   by_cases c:kr rk (arrOf st') lo<kr rk (arrOf st') (lo+n - 1)
   ·rw [decide_eq_true c]
    exact wpS_pure (h n _ F n1 n2 u)
   ·rw [decide_eq_false c]
    have all:∀ k,lo<=k->k<lo+n->kr rk (arrOf st') k=kr rk (arrOf st') (lo+n - 1):=fun k k1 k2=>by
     have a1:=u 0 (k - lo) (by omega) (by omega)
     have a2:=u (k - lo) (n - 1) (by omega) (by omega)
     rw [show lo+(k - lo)=k by omega] at a1 a2
     rw [Nat.add_zero] at a1
     rw [ex] at c ⊢
     omega
    refine wpS_bind (wpS_reverse ?_)
    refine wpS_mono (m:=descO lo n nrem) (wp_descO ak d hn (by omega) (F.rev (hA5 _) (by omega)) (fun i j hij hj=>?_) h) fun _ _ q=>q
    show kr rk (mirror (arrOf st') _ _ _) _<=kr rk (mirror (arrOf st') _ _ _) _
    rw [qFj (i:=lo) (j:=lo+n) (by omega) all,qFj (i:=lo) (j:=lo+n) (by omega) all]
    by_cases ej:j<n
    ·rw [all (lo+i) (by omega) (by omega),all (lo+j) (by omega) (by omega)];exact hD9 _
    ·have ej':j=n:=by omega
     subst ej'
     by_cases ei:i=j
     ·subst ei;exact hD9 _
     ·rw [all (lo+i) (by omega) (by omega),ex];omega
  ·show wpS _ _ _ _ (if n > 1 then _ else _) _ _
   rw [if_neg g]
   have e1:n=1:=by omega
   subst e1
   refine wpS_mono (m:=descO lo 1 nrem) (wp_descO ak d hn (by omega) F (fun i j hij hj=>?_) h) fun _ _ q=>q
   by_cases ei:i=j
   ·subst ei;exact hD9 _
   ·have ei':i=0:=by omega
    have ej':j=1:=by omega
    subst ei' ej'
    exact hDi lt
theorem wp_bins (ak:qF0 prog w A E s rk kd D) (d:∀ x∈a₀.toList,D x) {st:SortSt} {n ok:Nat} {Q:Bool->SortSt->Prop} (hn:lo+n<=a₀.size) (hok:ok<=n) (F:Sf a₀ lo kd pd st) (u:Up rk (arrOf st) lo ok)
  (h:∀ st',Sf a₀ lo kd pd st'->Up rk (arrOf st') lo n->Q true st'):wpS (model prog w) A E s (binarySort' lo n ok) Q st:=by
 rw [binarySort'_eq]
 refine wpS_bind (wpS_mono (wpS_forRange (I:=fun k c st'=>c=(none,())/\Sf a₀ lo kd pd st'/\Up rk (arrOf st') lo (min k n))
  (Q:=fun c st'=>c=(none,())/\Sf a₀ lo kd pd st'/\Up rk (arrOf st') lo n) ?_ ?_ ⟨rfl,F,fun i j hij hj=>?_⟩) ?_)
 ·rintro k c st' hak hkn ⟨rfl,F',u'⟩
  rw [show min k n=k by omega] at u'
  have sz:=F'.size
  refine wpS_bind (wpS_mono (wpS_forRange (I:=fun x c st''=>st''=st'/\∃ l r,c=(none,l,r)/\l<=r/\r<=k/\r - l<=k - x/\(∀ i,i<l->kr rk (arrOf st') (lo+i)<=kr rk (arrOf st') (lo+k))/\(∀ i,r<=i->i<k->kr rk (arrOf st') (lo+k)<kr rk (arrOf st') (lo+i)))
   (Q:=fun c st''=>st''=st'/\∃ l r,c=(none,l,r)/\l<=k/\(∀ i,i<l->kr rk (arrOf st') (lo+i)<=kr rk (arrOf st') (lo+k))/\(∀ i,l<=i->i<k->kr rk (arrOf st') (lo+k)<kr rk (arrOf st') (lo+i))) ?_ ?_ ⟨rfl,0,k,rfl,by omega,by omega,by omega,fun i hi=>by omega,fun i h1 h2=>by omega⟩) ?_)
  ·rintro x c st2 _ hx ⟨rfl,l,r,rfl,lr,rk',m,a1,a2⟩
   show wpS _ _ _ _ (if l >= r then _ else _) _ _
   by_cases g:l >= r
   ·rw [if_pos g]
    have:l=r:=by omega
    subst this
    exact wpS_pure ⟨rfl,l,l,rfl,rk',a1,a2⟩
   ·rw [if_neg g]
    refine wpS_bind (qEy ak d F' (by omega) (by show lo+(l+r) / 2<_;omega) ?_)
    dsimp only
    by_cases c:kr rk (arrOf st2) (lo+k)<kr rk (arrOf st2) (lo+(l+r) / 2)
    ·rw [decide_eq_true c]
     refine wpS_pure ⟨rfl,l,(l+r) / 2,rfl,by omega,by omega,by omega,a1,fun i h1 h2=>?_⟩
     exact Int.lt_of_lt_of_le c (u' _ _ h1 h2)
    ·rw [decide_eq_false c]
     refine wpS_pure ⟨rfl,(l+r) / 2+1,r,rfl,by omega,by omega,by omega,fun i h1=>?_,a2⟩
     exact Int.le_trans (u' i ((l+r) / 2) (by omega) (by omega)) (Int.not_lt.mp c)
  ·rintro c st2 ⟨rfl,l,r,rfl,lr,rk',m,a1,a2⟩
   have:l=r:=by omega
   subst this
   exact ⟨rfl,l,l,rfl,rk',a1,a2⟩
  ·rintro c st2 ⟨rfl,l,r,rfl,lk,a1,a2⟩
   show wpS _ _ _ _ (do moveDown' (lo+k) (lo+l);pure (ForInStep.yield (none,()))) _ _
   rw [moveDown'_eq]
   have ed:lo+k - (lo+l)=k - l:=by omega
   refine wpS_bind (wpS_modify (wpS_pure ⟨rfl,F'.arr (bubble_perm _ _ _) fun i hi=>?_,fun i j hij hj=>?_⟩))
   ·rw [getElem?_bubble (by omega) _ (by omega),if_neg (by omega),if_neg (by omega)]
   ·rw [show min (k+1) n=k+1 by omega] at hj
    show kr rk (bubble (arrOf st2) (lo+k) (lo+k - (lo+l))) _<=kr rk (bubble (arrOf st2) (lo+k) (lo+k - (lo+l))) _
    rw [kr_bub (by omega) (by omega),kr_bub (by omega) (by omega),ed,show lo+k - (k - l)=lo+l by omega]
    have p1:∀ z,z<k+1->lo+z - 1=lo+(z - 1)\/z=0:=fun z hz=>by omega
    by_cases ej:j=l
    ·subst ej
     rw [if_pos rfl]
     by_cases ei:i=j
     ·subst ei;rw [if_pos rfl];exact hD9 _
     ·rw [if_neg (by omega),if_neg (by omega)]
      exact a1 i (by omega)
    ·rw [if_neg (c:=lo+j=lo+l) (by omega)]
     by_cases ej2:l<j
     ·rw [if_pos (c:=lo+l<lo+j/\lo+j<=lo+k) (by omega),show lo+j - 1=lo+(j - 1) by omega]
      by_cases ei:i=l
      ·subst ei
       rw [if_pos rfl]
       exact hDi (a2 _ (by omega) (by omega))
      ·rw [if_neg (c:=lo+i=lo+l) (by omega)]
       by_cases ei2:l<i
       ·rw [if_pos (by omega),show lo+i - 1=lo+(i - 1) by omega]
        exact u' _ _ (by omega) (by omega)
       ·rw [if_neg (by omega)]
        exact u' _ _ (by omega) (by omega)
     ·rw [if_neg (c:=lo+l<lo+j/\lo+j<=lo+k) (by omega),if_neg (by omega),if_neg (by omega)]
      exact u' _ _ (by omega) (by omega)
 ·rintro c st' ⟨hc,F',u'⟩
  refine ⟨hc,F',?_⟩
  rwa [show min (max (max ok 1) n) n=n by omega] at u'
 ·by_cases o0:ok=0
  ·have:i=j:=by omega
   subst this;exact hD9 _
  ·exact u i j hij (by omega)
 ·rintro c st' ⟨rfl,F',u'⟩
  exact wpS_pure (h st' F' u')
end
end L2
namespace L2
open PySem PySem.Spec PyProof.Rows
def offs:Nat->List (List Keyed)->List (Nat×Nat)
 | _,[]=>[]
 | k,R :: Rs=>(k,R.length) :: offs (k+R.length) Rs
theorem qEu:∀ (k:Nat) (U V:List (List Keyed)),offs k (U++V)=offs k U++offs (k+U.flatten.length) V
 | k,[],V=>by simp [offs]
 | k,R :: U,V=>by
  show (k,R.length) :: offs (k+R.length) (U++V)=(k,R.length) :: (offs (k+R.length) U++_)
  rw [qEu (k+R.length) U V]
  congr 3
  simp
  omega
theorem offs_len:∀ (k:Nat) (U:List (List Keyed)),(offs k U).length=U.length
 | _,[]=>rfl
 | k,R :: U=>by simp [offs,offs_len]
def pr2 (t:Nat×Nat×Nat):Nat×Nat:=(t.1,t.2.1)
def RI (rk:Keyed->Int) (kd:SortKind) (a₀:Array Keyed) (rest:List Keyed) (m:Nat) (st:SortSt):Prop:=∃ Rs:List (List Keyed),(arrOf st).toList=Rs.flatten++rest/\(pendingOf st).toList.map pr2=offs 0 Rs/\(∀ R∈Rs,R≠[]/\Srd rk R)/\Rs.length=m/\kindOf st=kd/\failedOf st=none/\(arrOf st).toList.Perm a₀.toList
section
variable {prog:Program} {w:World} {A:Around} {E:Value->Shared->Prop} {s:Shared} {rk:Keyed->Int} {kd:SortKind} {D:Keyed->Prop} {a₀:Array Keyed} {rest:List Keyed}
theorem RI.psize {m:Nat} {st:SortSt} (h:RI rk kd a₀ rest m st):(pendingOf st).size=m:=by
 obtain ⟨Rs,_,e,_,rfl,_⟩:=h
 have:=congrArg List.length e
 rw [offs_len] at this
 simpa using this
theorem qDv (ak:qF0 prog w A E s rk kd D) (d:∀ x∈a₀.toList,D x) {i m:Nat} {st:SortSt} {Q:Bool->SortSt->Prop} (h:RI rk kd a₀ rest m st) (hi:i+1<m) (hq:∀ st',RI rk kd a₀ rest (m - 1) st'->Q true st'):wpS (model prog w) A E s (mergeAt' i) Q st:=by
 obtain ⟨Rs,e,ep,hR,rfl,hk,hf,hp⟩:=h
 obtain ⟨U,X,Y,V,rfl,hU⟩:∃ U X Y V,Rs=U++X :: Y :: V/\U.length=i:=by
  refine ⟨Rs.take i,Rs[i],Rs[i+1],Rs.drop (i+2),?_,by simp;omega⟩
  rw [<-hCz,<-hCz,List.take_append_drop]
 rw [qEu] at ep
 obtain ⟨pu,pt,ept,epu,e2⟩:=List.map_eq_append_iff.mp ep
 obtain ⟨p,pt2,rfl,ep1,e3⟩:=List.map_eq_cons_iff.mp e2
 obtain ⟨q,pv,rfl,eq1,e4⟩:=List.map_eq_cons_iff.mp e3
 obtain ⟨a,b,c⟩:=p
 obtain ⟨a',b',c'⟩:=q
 injection ep1 with ea eb
 injection eq1 with ea' eb'
 have eb:b=X.length:=eb
 have ea:a=0+U.flatten.length:=ea
 have ea':a'=0+U.flatten.length+X.length:=ea'
 have eb':b'=Y.length:=eb'
 rw [Nat.zero_add] at ea ea'
 subst ea eb ea' eb'
 have lu:pu.length=i:=by
  have:=congrArg List.length epu
  rw [offs_len] at this
  simpa [hU] using this
 have g1:(pendingOf st)[i]?=some (U.flatten.length,X.length,c):=by
  rw [<-hAo,ept,hC2 (by omega),lu,Nat.sub_self]
  rfl
 have g2:(pendingOf st)[i+1]?=some (U.flatten.length+X.length,Y.length,c'):=by
  rw [<-hAo,ept,hC2 (by omega),lu,show i+1 - i=1 by omega]
  rfl
 have hX:=hR X (by simp)
 have hY:=hR Y (by simp)
 refine wpS_mergeAt ak (P:=U.flatten) (X:=X) (Y:=Y) (S:=V.flatten++rest) hk hf (by rw [e];simp) (fun x hx=>d x (hp.mem_iff.mp hx)) g1 g2 hX.2 hY.2 hX.1 hY.1 fun st' M hk' hf' hp' ea' dn=>?_
 refine hq st' ⟨U++M :: V,by rw [ea'];simp,?_,fun R hR'=>?_,by simp,hk',hf',?_⟩
 ·rw [hp',Array.toList_eraseIdxIfInBounds,Array.toList_setIfInBounds,ept,qEu,List.set_append_right _ _ (by omega),lu,Nat.sub_self,List.eraseIdx_append_of_length_le (by omega),lu,show i+1 - i=1 by omega]
  rw [hAa,epu]
  congr 1
  show (pr2 (U.flatten.length,X.length+Y.length,c)) :: pv.map pr2=(0+U.flatten.length,M.length) :: offs (0+U.flatten.length+M.length) V
  have lm:M.length=X.length+Y.length:=by rw [dn.1.length_eq];simp
  rw [e4,lm]
  unfold pr2
  rw [Nat.zero_add,Nat.add_assoc]
 ·rcases hAf.mp hR' with z | z
  ·exact hR R (by simp [z])
  ·rcases hA9.mp z with z | z
   ·subst z
    refine ⟨fun z=>hX.1 ?_,dn.2⟩
    have:=dn.1.length_eq
    rw [z] at this
    simp at this
    exact hB1.mp (by omega)
   ·exact hR R (by simp [z])
 ·rw [ea']
  refine List.Perm.trans ?_ hp
  rw [e]
  have:(U++X :: Y :: V).flatten++rest=U.flatten++((X++Y)++(V.flatten++rest)):=by simp
  rw [this]
  exact List.Perm.append_left _ (List.Perm.append_right _ dn.1)
theorem up_srd {xs:Array Keyed} {P T:List Keyed} {n:Nat} (e:xs.toList=P++T) (u:Up rk xs P.length n) (hn:n<=T.length):Srd rk (T.take n):=by
 refine List.pairwise_iff_getElem.mpr fun i j hi hj hij=>?_
 rw [hAh] at hi hj
 have g:∀ k,(h:k<T.length)->kr rk xs (P.length+k)=rk T[k]:=fun k h=>by
  unfold kr
  rw [<-hAo,e,hC2 (by omega),show P.length+k - P.length=k by omega,hA3 h]
 have:=u i j (by omega) (by omega)
 rw [g i (by omega),g j (by omega)] at this
 rw [List.getElem_take,List.getElem_take]
 exact this
theorem RI.found {m n:Nat} {st st':SortSt} {pd:Array (Nat×Nat×Nat)} {lo:Nat} (h:RI rk kd a₀ rest m st) (hl:lo+rest.length=a₀.size) (F:Sf (arrOf st) lo kd (pendingOf st) st') (u:Up rk (arrOf st') lo n) (hn:n<=rest.length) :
  ∃ rest',RI rk kd a₀ rest' m st'/\rest'.length=rest.length/\Srd rk (rest'.take n):=by
 obtain ⟨Rs,e,ep,hR,rfl,hk,hf,hp⟩:=h
 have sz:(arrOf st).toList.length=a₀.size:=by rw [hp.length_eq];simp
 have lf:Rs.flatten.length=lo:=by rw [e] at sz;simp at sz ⊢;omega
 have et:(arrOf st').toList.take lo=Rs.flatten:=by
  refine hCs fun k=>?_
  by_cases c:k<lo
  ·rw [List.getElem?_take_of_lt c,hAo,F.low k c,<-hAo,e,hBp (by omega)]
  ·rw [List.getElem?_take_eq_none (by omega),hBi (by omega)]
 have ed:(arrOf st').toList=Rs.flatten++(arrOf st').toList.drop lo:=by rw [<-et,List.take_append_drop]
 have pt:(arrOf st').toList.Perm (arrOf st).toList:=hBc.mp F.perm
 have ld:((arrOf st').toList.drop lo).length=rest.length:=by
  have:=pt.length_eq
  rw [hCe,this,sz]
  omega
 refine ⟨(arrOf st').toList.drop lo,⟨Rs,ed,by rw [F.pend];exact ep,hR,rfl,F.kind,F.failed,pt.trans hp⟩,ld,?_⟩
 exact up_srd (P:=Rs.flatten) ed (by rw [lf];exact u) (by rw [ld];exact hn)
theorem RI.pushed {m n:Nat} {st:SortSt} {lo:Nat} (h:RI rk kd a₀ rest m st) (hl:lo+rest.length=a₀.size) (sr:Srd rk (rest.take n)) (h1:1<=n) (hn:n<=rest.length):RI rk kd a₀ (rest.drop n) (m+1) (setPending st ((pendingOf st).push (lo,n,0))):=by
 obtain ⟨Rs,e,ep,hR,rfl,hk,hf,hp⟩:=h
 have sz:(arrOf st).toList.length=a₀.size:=by rw [hp.length_eq];simp
 have lf:Rs.flatten.length=lo:=by rw [e] at sz;simp at sz ⊢;omega
 refine ⟨Rs++[rest.take n],?_,?_,fun R hR'=>?_,by simp,hk,hf,hp⟩
 ·show (arrOf st).toList=_
  rw [e];simp
 ·show ((pendingOf st).push (lo,n,0)).toList.map pr2=_
  rw [hBq,hAa,ep,qEu,lf]
  simp [offs,pr2]
  try omega
 ·rcases hAf.mp hR' with z | z
  ·exact hR R z
  ·rw [hA7.mp z]
   refine ⟨fun z=>?_,sr⟩
   have:=congrArg List.length z
   rw [hAh,List.length_nil] at this
   omega
theorem RI.power {m pw:Nat} {st:SortSt} (h:RI rk kd a₀ rest m st):RI rk kd a₀ rest m (setPending st ((pendingOf st).modify ((pendingOf st).size - 1) fun (st,len,_)=>(st,len,pw))):=by
 obtain ⟨Rs,e,ep,hR,rfl,hk,hf,hp⟩:=h
 refine ⟨Rs,e,?_,hR,rfl,hk,hf,hp⟩
 rw [<-ep]
 show ((pendingOf st).modify ((pendingOf st).size - 1) fun (st,len,_)=>(st,len,pw)).toList.map pr2=_
 refine hCs fun k=>?_
 rw [hAj,hAj,hAo,hAo,Array.getElem?_modify]
 split
 ·rename_i z
  cases (pendingOf st)[k]? with
  | none=>rfl
  | some t=>rfl
 ·rfl
theorem qGf:∀ (f n r:Nat),1<=n->1<=minRun' f n r
 | 0,n,r,h=>by show 1<=n+r;omega
 | f+1,n,r,h=>by
  rw [minRun'_succ]
  split
  ·omega
  ·exact qGf f _ _ (by omega)
theorem wp_sortRuns (ak:qF0 prog w A E s rk kd D) (d:∀ x∈a₀.toList,D x) {st:SortSt} {Q:Unit->SortSt->Prop} (h0:arrOf st=a₀) (hk:kindOf st=kd) (hf:failedOf st=none) (hp:pendingOf st=#[])
  (h:∀ st',failedOf st'=none->Dn rk a₀.toList (arrOf st').toList->Q () st'):wpS (model prog w) A E s sortRuns' Q st:=by
 rw [sortRuns'_eq]
 refine wpS_bind (wpS_get ?_)
 rw [h0]
 have I0:RI rk kd a₀ a₀.toList 0 st:=⟨[],by rw [h0];rfl,by rw [hp];rfl,fun R hR=>(by cases hR),rfl,hk,hf,by rw [h0]⟩
 refine wpS_bind (wpS_mono (wpS_forRange (I:=fun x c st'=>∃ rest m lo,c=(none,lo)/\RI rk kd a₀ rest m st'/\lo+rest.length=a₀.size/\x<=lo)
  (Q:=fun c st'=>∃ m lo,c=(none,lo)/\RI rk kd a₀ [] m st') ?_ ?_ ⟨_,0,0,rfl,I0,by simp,hA5 _⟩) ?_)
 ·rintro x c st' _ hx ⟨rest,m,lo,rfl,R,hl,hxl⟩
  by_cases g:lo >= a₀.size
  ·show wpS _ _ _ _ (if lo >= a₀.size then _ else _) _ _
   rw [if_pos g]
   have:rest=[]:=hB1.mp (by omega)
   subst this
   exact wpS_pure ⟨m,lo,rfl,R⟩
  ·show wpS _ _ _ _ (if lo >= a₀.size then _ else _) _ _
   rw [if_neg g]
   obtain ⟨Rs,eR,ep,hR,eM,hk',hf',hp'⟩:=R
   have R:RI rk kd a₀ rest m st':=⟨Rs,eR,ep,hR,eM,hk',hf',hp'⟩
   have sz:(arrOf st').size=a₀.size:=by
    have:=hp'.length_eq
    simpa using this
   have F:Sf (arrOf st') lo kd (pendingOf st') st':=⟨Array.Perm.refl _,hk',hf',rfl,fun _ _=>rfl⟩
   refine wpS_bind (wp_count ak (fun x hx=>d x (hp'.mem_iff.mp hx)) (lo:=lo) (nrem:=a₀.size - lo) (by omega) (by omega) F fun n st2 F2 n1 n2 u2=>?_)
   have mp:=qGf a₀.size a₀.size 0 (by omega)
   have key:∀ (n:Nat) (st2:SortSt),Sf (arrOf st') lo kd (pendingOf st') st2->Up rk (arrOf st2) lo n->1<=n->n<=rest.length->∃ rest',RI rk kd a₀ rest' m st2/\rest'.length=rest.length/\Srd rk (rest'.take n)/\1<=n/\n<=rest'.length:=fun n st2 F2 u2 h1 hn=>by
    obtain ⟨rest',R2,l2,s2⟩:=R.found (pd:=#[]) hl F2 u2 hn
    exact ⟨rest',R2,l2,s2,h1,by omega⟩
   by_cases c:n<minRun' a₀.size a₀.size 0
   ·show wpS _ _ _ _ (if n<minRun' a₀.size a₀.size 0 then _ else _) _ _
    rw [if_pos c]
    refine wpS_bind (wpS_lift (wpAny_rule ⟨rfl,?_⟩))
    refine wpS_bind (wp_bins ak (fun x hx=>d x (hp'.mem_iff.mp hx)) (lo:=lo) (n:=min (a₀.size - lo) (minRun' a₀.size a₀.size 0)) (by omega) (by omega) F2 u2 fun st3 F3 u3=>?_)
    rw [if_neg (by decide)]
    obtain ⟨rest',R2,l2,s2,b1,b2⟩:=key _ st3 F3 u3 (by omega) (by omega)
    dsimp only
    generalize min (a₀.size - lo) (minRun' a₀.size a₀.size 0)=nn at s2 b1 b2 ⊢
    refine wpS_bind (wpS_get ?_)
    have fin:∀ (m':Nat) (st4:SortSt),RI rk kd a₀ rest' m' st4->∃ rest m lo',((none,lo+nn):Option Unit×Nat)=(none,lo')/\RI rk kd a₀ rest m (setPending st4 ((pendingOf st4).push (lo,nn,0)))/\lo'+rest.length=a₀.size/\x+1<=lo':=fun m' st4 R4=>⟨_,_,_,rfl,RI.pushed R4 (by omega) s2 b1 b2,by rw [hCe];omega,by omega⟩
    generalize (pendingOf st3).back?=bk
    rcases bk with _ | ⟨s1,n1,p3⟩
    ·refine wpS_bind (wpS_modify ?_)
     exact wpS_pure (fin _ _ R2)
    ·dsimp only
     refine wpS_bind (wpS_mono (wpS_forRange (I:=fun _ c st'=>c=(none,())/\∃ m,RI rk kd a₀ rest' m st') (Q:=fun c st'=>c=(none,())/\∃ m,RI rk kd a₀ rest' m st') ?_ (fun _ _ z=>z) ⟨rfl,m,R2⟩) ?_)
     ·rintro x c st5 _ hx ⟨rfl,m',R'⟩
      refine wpS_bind (wpS_get ?_)
      have sz:=R'.psize
      have m2:∀ t,(if (pendingOf st5).size > 1 then (pendingOf st5)[(pendingOf st5).size - 2]? else none)=some t->2<=m':=fun t eo=>by
       rcases hD5 1 (pendingOf st5).size with z | z
       ·omega
       ·rw [if_neg (by omega)] at eo;cases eo
      revert m2
      generalize (if (pendingOf st5).size > 1 then (pendingOf st5)[(pendingOf st5).size - 2]? else none)=bo
      intro m2
      rcases bo with _ | ⟨q1,q2,older⟩
      ·exact wpS_pure ⟨rfl,m',R'⟩
      ·dsimp only
       split
       ·exact wpS_pure ⟨rfl,m',R'⟩
       ·have:=m2 _ rfl
        refine wpS_bind (qDv ak d R' (by omega) fun st2 R2=>?_)
        rw [if_neg (by decide)]
        exact wpS_pure ⟨rfl,m' - 1,R2⟩
     ·rintro c st5 ⟨rfl,m',R'⟩
      refine wpS_bind (wpS_modify ?_)
      refine wpS_bind (wpS_modify ?_)
      exact wpS_pure (fin _ _ R'.power)
   ·show wpS _ _ _ _ (if n<minRun' a₀.size a₀.size 0 then _ else _) _ _
    rw [if_neg c]
    obtain ⟨rest',R2,l2,s2,b1,b2⟩:=key _ st2 F2 u2 (by omega) (by omega)
    dsimp only
    refine wpS_bind (wpS_get ?_)
    have fin:∀ (m':Nat) (st4:SortSt),RI rk kd a₀ rest' m' st4->∃ rest m lo',((none,lo+n):Option Unit×Nat)=(none,lo')/\RI rk kd a₀ rest m (setPending st4 ((pendingOf st4).push (lo,n,0)))/\lo'+rest.length=a₀.size/\x+1<=lo':=fun m' st4 R4=>⟨_,_,_,rfl,RI.pushed R4 (by omega) s2 b1 b2,by rw [hCe];omega,by omega⟩
    generalize (pendingOf st2).back?=bk
    rcases bk with _ | ⟨s1,n1,p3⟩
    ·refine wpS_bind (wpS_modify ?_)
     exact wpS_pure (fin _ _ R2)
    ·dsimp only
     refine wpS_bind (wpS_mono (wpS_forRange (I:=fun _ c st'=>c=(none,())/\∃ m,RI rk kd a₀ rest' m st') (Q:=fun c st'=>c=(none,())/\∃ m,RI rk kd a₀ rest' m st') ?_ (fun _ _ z=>z) ⟨rfl,m,R2⟩) ?_)
     ·rintro x c st3 _ hx ⟨rfl,m',R'⟩
      refine wpS_bind (wpS_get ?_)
      have sz:=R'.psize
      have m2:∀ t,(if (pendingOf st3).size > 1 then (pendingOf st3)[(pendingOf st3).size - 2]? else none)=some t->2<=m':=fun t eo=>by
       rcases hD5 1 (pendingOf st3).size with z | z
       ·omega
       ·rw [if_neg (by omega)] at eo;cases eo
      revert m2
      generalize (if (pendingOf st3).size > 1 then (pendingOf st3)[(pendingOf st3).size - 2]? else none)=bo
      intro m2
      rcases bo with _ | ⟨q1,q2,older⟩
      ·exact wpS_pure ⟨rfl,m',R'⟩
      ·dsimp only
       split
       ·exact wpS_pure ⟨rfl,m',R'⟩
       ·have:=m2 _ rfl
        refine wpS_bind (qDv ak d R' (by omega) fun st2 R2=>?_)
        rw [if_neg (by decide)]
        exact wpS_pure ⟨rfl,m' - 1,R2⟩
     ·rintro c st3 ⟨rfl,m',R'⟩
      refine wpS_bind (wpS_modify ?_)
      refine wpS_bind (wpS_modify ?_)
      exact wpS_pure (fin _ _ R'.power)
 ·rintro c st' ⟨rest,m,lo,rfl,R,hl,hxl⟩
  have:rest=[]:=hB1.mp (by omega)
  subst this
  exact ⟨m,lo,rfl,R⟩
 ·rintro c st' ⟨m,lo,rfl,R⟩
  have mle:m<=a₀.size:=by
   obtain ⟨Rs,eR,ep,hR,rfl,hk',hf',hp'⟩:=R
   have:∀ (L:List (List Keyed)),(∀ R∈L,R≠[])->L.length<=L.flatten.length:=fun L=>by
    induction L with
    | nil=>intro _;simp
    | cons a L ih =>
     intro h
     have:=ih fun R hR=>h R (hA4 _ hR)
     have:=List.length_pos_iff.mpr (h a (hA2 ..))
     simp at *
     omega
   have h1:=this Rs fun R hR'=>(hR R hR').1
   have h2:=hp'.length_eq
   rw [eR] at h2
   simp at h1 h2
   omega
  refine wpS_bind (wpS_mono (wpS_forRange (I:=fun x c st'=>c=(none,())/\∃ m,RI rk kd a₀ [] m st'/\(m+x<=a₀.size\/m<=1)) (Q:=fun c st'=>c=(none,())/\∃ m,RI rk kd a₀ [] m st'/\m<=1) ?_ ?_ ⟨rfl,m,R,.inl (by omega)⟩) ?_)
  ·rintro x c st2 _ hx ⟨rfl,m',R',hm⟩
   have sz:=R'.psize
   refine wpS_bind (wpS_get ?_)
   show wpS _ _ _ _ (if (pendingOf st2).size<=1 then _ else _) _ _
   by_cases g:(pendingOf st2).size<=1
   ·rw [if_pos g]
    exact wpS_pure ⟨rfl,m',R',by omega⟩
   ·rw [if_neg g]
    refine wpS_bind (qDv ak d R' ?_ fun st3 R3=>?_)
    ·have le:∀ (c:Prop) [Decidable c] (i:Nat),(if c then i - 1 else i)<=i:=fun c _ i=>by split <;> omega
     exact hDd (Nat.succ_le_succ (le _ _)) (by omega)
    ·exact wpS_pure ⟨rfl,m' - 1,R3,by omega⟩
  ·rintro c st2 ⟨rfl,m',R',hm⟩
   exact ⟨rfl,m',R',by omega⟩
  ·rintro c st2 ⟨rfl,m',R',hm⟩
   refine wpS_pure (h _ ?_ ?_)
   ·obtain ⟨Rs,eR,ep,hR,eM,hk',hf',hp'⟩:=R'
    exact hf'
   ·obtain ⟨Rs,eR,ep,hR,rfl,hk',hf',hp'⟩:=R'
    refine ⟨hp',?_⟩
    rw [eR]
    match Rs,hm,hR with
    | [],_,_=>exact List.Pairwise.nil
    | [X],_,hR=>simpa using (hR X (by simp)).2
    | _ :: _ :: _,hm,_=>simp at hm
end
end L2
namespace L2
open PySem PySem.Spec PyProof.Rows PySem.W
section
variable {P:Program} {w:World} {A:Around} {E:Value->Shared->Prop} {s:Shared} {rk:Keyed->Int} {kd:SortKind} {D:Keyed->Prop}
theorem asks_of (h:∀ x y:Keyed,D x->D y->∀ Q:Bool->Shared->Prop,Q (decide (rk x<rk y)) s->wpAny (model P w) A (keyLt' kd x.1 y.1) Q (fun _ _=>False) s):qF0 P w A E s rk kd D:=fun x y dx dy st Q hk hq=>by
 rw [lt'_eq]
 refine wpS_bind (wpS_get ?_)
 rw [hk]
 refine wpS_bind (wpS_lift (wpAny_attempt (wpAny_mono (h x y dx dy (fun b s'=>s'=s/\b=decide (rk x<rk y)) ⟨rfl,rfl⟩) (fun b s' z=>?_) fun _ _ (z:False)=>z.elim)))
 obtain ⟨rfl,rfl⟩:=z
 exact ⟨rfl,wpS_pure hq⟩
theorem run_sort (ak:qF0 P w A E s rk kd D) {pz:Array Keyed} (d:∀ x∈pz.toList,D x) {Q:Unit×SortSt->Shared->Prop} (h:∀ st',failedOf st'=none->Dn rk pz.toList (arrOf st').toList->Q ((),st') s) :
  wpAny (model P w) A (sortRuns'.run (SortSt.mk' kd pz #[] 7 none)) Q E s:=by
 have:=wp_sortRuns (a₀:=pz) (st:=SortSt.mk' kd pz #[] 7 none) (Q:=fun _ st'=>Q ((),st') s) ak d rfl rfl rfl rfl h
 unfold wpS at this
 exact wpAny_mono this (fun r s' ⟨e,q⟩=>by subst e;exact q) fun _ _ e=>e
end
def kLt (x y:List Str):Bool:=decide (x.length<y.length) || (decide (x.length=y.length) && ltL x y)
theorem kLt_irr (x:List Str):kLt x x=false:=by simp [kLt,ltL_irr]
theorem kLt_trans {x y z:List Str} (h:kLt x y=true) (h':kLt y z=true):kLt x z=true:=by
 simp only [kLt,Bool.or_eq_true,hBa,decide_eq_true_eq] at *
 rcases h with h | ⟨h,q⟩
 ·rcases h' with h' | ⟨h',q'⟩
  ·exact .inl (by omega)
  ·exact .inl (by omega)
 ·rcases h' with h' | ⟨h',q'⟩
  ·exact .inl (by omega)
  ·exact .inr ⟨by omega,qDp _ _ _ q q'⟩
theorem kLt_tri (x y:List Str):kLt x y=true\/x=y\/kLt y x=true:=by
 simp only [kLt,Bool.or_eq_true,hBa,decide_eq_true_eq]
 rcases Nat.lt_trichotomy x.length y.length with h | h | h
 ·exact .inl (.inl h)
 ·rcases ltL_tri x y with q | q | q
  ·exact .inl (.inr ⟨h,q⟩)
  ·exact .inr (.inl q)
  ·exact .inr (.inr (.inr ⟨h.symm,q⟩))
 ·exact .inr (.inr (.inl h))
theorem cnt_le {α:Type} {p q:α->Bool}:∀ (l:List α),(∀ x∈l,p x=true->q x=true)->l.countP p<=l.countP q
 | [],_=>hA5 _
 | a :: l,h=>by
  rw [List.countP_cons,List.countP_cons]
  have:=cnt_le l fun x hx=>h x (hA4 _ hx)
  have:=h a (hA2 ..)
  cases hp:p a <;> cases hq:q a <;> simp_all <;> omega
theorem cnt_lt {α:Type} {p q:α->Bool}:∀ (l:List α),(∀ x∈l,p x=true->q x=true)->(∃ x∈l,q x=true/\p x=false)->l.countP p<l.countP q
 | [],_,⟨_,h,_⟩=>by cases h
 | a :: l,h,⟨x,hx,h1,h2⟩=>by
  rw [List.countP_cons,List.countP_cons]
  have le:=cnt_le l fun x hx=>h x (hA4 _ hx)
  have ha:=h a (hA2 ..)
  rcases hA9.mp hx with e | e
  ·subst e
   rw [h1,h2]
   simp
   omega
  ·have:=cnt_lt l (fun x hx=>h x (hA4 _ hx)) ⟨x,e,h1,h2⟩
   cases hp:p a <;> cases hq:q a <;> simp_all <;> omega
def rankT (ts:List (List Str)) (t:List Str):Nat:=ts.countP fun u=>kLt u t
theorem rankT_lt {ts:List (List Str)} {x y:List Str} (hx:x∈ts) (h:kLt x y=true):rankT ts x<rankT ts y:=cnt_lt ts (fun u _ q=>kLt_trans q h) ⟨x,hx,h,kLt_irr x⟩
theorem rankT_eq {ts:List (List Str)} {x y:List Str} (hx:x∈ts) (hy:y∈ts):decide ((rankT ts x:Int)<(rankT ts y:Int))=kLt x y:=by
 rcases kLt_tri x y with h | h | h
 ·have:=rankT_lt hx h
  rw [h];simp;omega
 ·subst h
  rw [kLt_irr];simp
 ·have:=rankT_lt hy h
  have z:kLt x y=false:=by
   cases q:kLt x y with
   | false=>rfl
   | true=>have:=kLt_trans q h;rw [kLt_irr] at this;cases this
  rw [z];simp;omega
theorem perm_lift {α β:Type} {f:α->β} {m l0:List β} (h:m.Perm l0):∀ l:List α,l0=l.map f->∃ l':List α,l'.Perm l/\l'.map f=m:=by
 induction h with
 | nil =>
  intro l e
  cases l with
  | nil=>exact ⟨[],List.Perm.nil,rfl⟩
  | cons _ _=>cases e
 | cons x p ih =>
  intro l e
  cases l with
  | nil=>cases e
  | cons a l =>
   injection e with e1 e2
   obtain ⟨l',p',q⟩:=ih l e2
   exact ⟨a :: l',p'.cons a,by rw [hAl,q,<-e1]⟩
 | swap x y l1 =>
  intro l e
  match l,e with
  | a :: b :: l,e =>
   injection e with e1 e2
   injection e2 with e2 e3
   exact ⟨b :: a :: l,List.Perm.swap a b l,by rw [hAl,hAl,<-e1,<-e2,e3]⟩
 | trans p1 p2 ih1 ih2 =>
  intro l e
  obtain ⟨l1,q1,q2⟩:=ih2 l e
  obtain ⟨l2,q3,q4⟩:=ih1 l1 q2.symm
  exact ⟨l2,q3.trans q1,q4⟩
def qEc (h:Heap) (v:Value) (t:List Str):Prop:=∃ (k a:Addr) (tok:Tok) (its:Array Value),v = .ref k/\IsTup h k #[.int t.length tok,.ref a]/\h.IsList a its/\StrsAre its.toList t
theorem qEc.uniq {h:Heap} {v:Value} {t u:List Str} (a:qEc h v t) (b:qEc h v u):t=u:=by
 obtain ⟨k,p,tok,its,rfl,⟨o,e,c,n,d⟩,⟨o1,e1,c1,n1,d1⟩,st⟩:=a
 obtain ⟨k2,p2,tok2,its2,ek,⟨o',e',c',n',d'⟩,⟨o2,e2,c2,n2,d2⟩,st2⟩:=b
 cases ek
 rw [e] at e';cases e'
 rw [d] at d'
 injection d' with d' _
 have:[Value.int t.length tok,Value.ref p]=[Value.int u.length tok2,Value.ref p2]:=congrArg Array.toList d'
 injection this with _ h2
 injection h2 with h2 _
 cases h2
 rw [e1] at e2;cases e2
 rw [d1] at d2
 injection d2 with d2 _
 subst d2
 rw [<-st.strs,<-st2.strs]
section
variable {P:Program} {w:World} {A:Around} {E:Value->Shared->Prop} {s:Shared}
open SeqAt in
theorem eqAt_strs {a b:Addr} {i1 i2:Array Value} {x y:List Str} (hu:A.units<cLine) (ha:s.heap.IsList a i1) (hb:s.heap.IsList b i2) (hx:StrsAre i1.toList x) (hy:StrsAre i2.toList y):EqAt A s (.ref a) (.ref b) (decide (x=y)):=by
 by_cases e:a=b
 ·subst e
  obtain ⟨o1,e1,c1,n1,d1⟩:=ha
  obtain ⟨o2,e2,c2,n2,d2⟩:=hb
  rw [e1] at e2;cases e2
  rw [d1] at d2
  injection d2 with d2 _
  subst d2
  have:x=y:=by rw [<-hx.strs,<-hy.strs]
  rw [decide_eq_true this]
  exact EqAt.same _
 ·have l1:i1.size=x.length:=by rw [<-hx.strs];simp
  have l2:i2.size=y.length:=by rw [<-hy.strs];simp
  by_cases hs:i1.size=i2.size
  ·have q:=RcAt.lists (e:=fun j=>x.getD j "" == y.getD j "") ha hb hs hu fun j h1 h2=>by
    obtain ⟨t1,q1⟩:=strs_at hx (i:=j) (by simpa using h1)
    obtain ⟨t2,q2⟩:=strs_at hy (i:=j) (by simpa using h2)
    rw [hAo,hBr h1] at q1
    rw [hAo,hBr h2] at q2
    rw [hAs q1,hAs q2]
    exact EqAt.str_str _ _ _ _
   have eb:(List.range i1.size).all (fun j=>x.getD j "" == y.getD j "")=decide (x=y):=by
    rw [Bool.eq_iff_iff]
    simp only [hCw,hBj,beq_iff_eq,decide_eq_true_eq]
    constructor
    ·intro h
     refine List.ext_getElem (by omega) fun j h1 h2=>?_
     have:=h j (by omega)
     rw [hAe,hAe,hA3 h1,hA3 h2] at this
     exact this
    ·intro h j _;rw [h]
   rw [eb] at q
   exact EqAt.of_refs e q
  ·have ne:x≠y:=fun z=>hs (by rw [l1,l2,z])
   rw [decide_eq_false ne]
   exact EqAt.of_refs e (RcAt.lists_lengths ha hb (by simpa using hs) hu)
theorem ltAt_strs {l b:Addr} {items items2:Array Value} {x y:List Str} {Q:Bool->Shared->Prop} (hu:A.units<cLine) (hl:s.heap.IsList l items) (hb:s.heap.IsList b items2) (hx:StrsAre items.toList x) (hy:StrsAre items2.toList y)
  (h:Q (ltL x y) s):wpAny (model P w) A (oneLt' false (.ref l) (.ref b)) Q E s:=by
 obtain ⟨⟨cls,dd,data,sl⟩,ho,hc,n,hd⟩:=hl
 obtain ⟨⟨cls2,dd2,data2,sl2⟩,ho2,hc2,n2,hd2⟩:=hb
 simp only at hc hd hc2 hd2
 subst hc hd hc2 hd2
 rw [oneLt'_eq]
 simp only [hCk,if_false]
 refine wpAny_bind (richCompare_meets_room (op:=.Lt) ⟨_,ho,rfl⟩ ⟨_,ho2,rfl⟩ F.slot_list_lt F.entry_list_lt (F.args_list_lt_2 _ _) (list_ltS l b items items2 n n2 dd dd2 sl sl2 x y hx hy) ⟨⟨ho,ho2⟩,?_⟩ hu)
 refine ⟨(fun z=>nomatch z),?_⟩
 exact wpAny_truthy_bool h
theorem keyLt_T {x y:Value} {t u:List Str} {Q:Bool->Shared->Prop} (hu:A.units<cLine) (hx:qEc s.heap x t) (hy:qEc s.heap y u) (h:Q (kLt t u) s):wpAny (model P w) A (keyLt' (tuples' true) x y) Q E s:=by
 obtain ⟨k,a,tok,its,rfl,⟨o,e,c,n,d⟩,ha,st⟩:=hx
 obtain ⟨k2,a2,tok2,its2,rfl,⟨o',e',c',n',d'⟩,ha2,st2⟩:=hy
 refine kat_lt e d e' d' (kat_cons (wpAny_eqBool_int (kat_go (fun q=>kat_yes (kat_cons (eqAt_strs hu ha ha2 st st2 _ _ _ _ (kat_go (fun q2=>kat_yes (kat_nil ?_)) fun q2=>kat_no ?_)))) fun q=>kat_no ?_)))
 ·have e1:t.length=u.length:=Int.ofNat.inj (eq_of_beq q)
  have e2:t=u:=of_decide_eq_true q2
  subst e2
  rw [kLt_irr] at h
  exact h
 ·have e1:t.length=u.length:=Int.ofNat.inj (eq_of_beq q)
  refine ltAt_strs hu ha ha2 st st2 ?_
  have:kLt t u=ltL t u:=by simp [kLt,e1]
  rw [this] at h
  exact h
 ·have e1:t.length≠u.length:=by
   intro z
   rw [z] at q
   simp at q
  refine oneLt_int ?_
  have:kLt t u=decide ((t.length:Int)<(u.length:Int)):=by
   simp only [kLt]
   rw [decide_eq_false e1]
   simp
  rw [this] at h
  exact h
end
end L2
namespace L2
open PySem PySem.Spec PyProof.Rows PySem.W
def ExtH (H H':Hp):Prop:=∀ b o,H b=some o->H' b=some o
theorem sq_ext {K:PySem.W.Frag} {H H':Hp} {l:Addr} {xs:List V} (e:ExtH H H') (hq:SqL K H l xs):SqL K H' l xs:=by
 rcases hq with (hq | ⟨o,hq⟩) | hq
 ·exact .inl (.inl (e _ _ hq))
 ·exact .inl (.inr ⟨o,e _ _ hq⟩)
 ·exact .inr hq
theorem qD3 {α β:Type} {R:α->β->Prop}:∀ {l:List α} {m:List β},Paired R l m->l.length=m.length
 | _,_,.nil=>rfl
 | _,_,.cons _ t=>by rw [hAy,hAy,qD3 t]
theorem qGb {α β:Type} {R R':α->β->Prop} (h:∀ a b,R a b->R' a b):∀ {l:List α} {m:List β},Paired R l m->Paired R' l m
 | _,_,.nil=>.nil
 | _,_,.cons a t=>.cons (h _ _ a) (qGb h t)
theorem paired_mem {α β:Type} {R R':α->β->Prop}:∀ {l:List α} {m:List β},Paired R l m->(∀ a b,b∈m->R a b->R' a b)->Paired R' l m
 | _,_,.nil,_=>.nil
 | _,_,.cons a t,h=>.cons (h _ _ (hA2 ..) a) (paired_mem t fun a b hb=>h a b (hA4 _ hb))
theorem qFe {α β:Type} {R:α->β->Prop} {a:α} {b:β}:∀ {l:List α} {m:List β},Paired R l m->R a b->Paired R (l++[a]) (m++[b])
 | _,_,.nil,h=>.cons h .nil
 | _,_,.cons q t,h=>.cons q (qFe t h)
theorem qC2 {α β:Type} {R:α->β->Prop}:∀ {l:List α} {m:List β},Paired R l m->∀ z∈l.zip m,R z.1 z.2
 | _,_,.nil,z,h=>by cases h
 | _,_,.cons q t,z,h=>by
  rcases hA9.mp h with e | e
  ·rw [e];exact q
  ·exact qC2 t z e
theorem qFk {h:Heap}:∀ {kA:List Value} {ps:List (Addr×List Str)},Paired (fun v p=>qEc h v p.2) kA ps->∃ fs:List Value,KatTups h kA fs/\fs.length=kA.length/\∀ f∈fs,∃ n t,f=Value.int n t
 | _,_,.nil=>⟨[],KatTups.nil,rfl,fun f hf=>by cases hf⟩
 | _,_,.cons a t=>by
  obtain ⟨fs,k1,k2,k3⟩:=qFk t
  obtain ⟨k,p,tok,its,rfl,⟨o,e,c,n,d⟩,_,_⟩:=a
  refine ⟨_ :: fs,KatTups.cons e c d rfl k1,by rw [hAy,hAy,k2],fun f hf=>?_⟩
  rcases hA9.mp hf with z | z
  ·exact ⟨_,tok,z⟩
  ·exact k3 f z
section
variable {X:Cx}
theorem sk_endT {pins:List (Addr×Obj)} {σ:St} {H:Hp} {s:Shared} {a kS:Addr} {e1:Nat} {kA:List Value} {ps:List (Addr×List Str)} {P:PySem.Fin->Shared->Prop} {A:Around} {E':Value->Shared->Prop} {en:Nat}
  (I:Inv X ((kS,seqObj "list" kA.toArray en) :: (a,seqObj "list" #[] e1) :: pins) σ H s) (hk:kS≠a) (Hk:H kS=none) (Ha:H a=none) (wa:Aw X pins a) (wk:Aw X pins kS) (hu:A.units<cLine)
  (keys:Paired (fun v p=>qEc s.heap v p.2) kA ps) (hn:ps.length<=5000)
  (h:∀ (s':Shared) (ps':List (Addr×List Str)),ps'.Perm ps->ps'.Pairwise (fun p q=>kLt q.2 p.2=false)->Inv X pins σ (upd H a (.lst (ps'.map fun p=>V.ref p.1))) s'->P (.done (.ret .none)) s') :
  wpAny (model X.prog X.w) A (ksk_end a false (ps.map fun p=>Value.ref p.1).toArray e1 (.ref kS) kA.toArray) P E' s:=by
 have lk:=qD3 keys
 have ok:s.heap.get? kS=some (seqObj "list" kA.toArray en):=(I.pin (kS,_) (hA6 _ (.head _))).1
 have ez:(kA.toArray.zip (ps.map fun p=>Value.ref p.1).toArray).toList=(kA.zip ps).map fun z=>((z.1,Value.ref z.2.1):Keyed):=by
  rw [hDn]
  show kA.zip (ps.map fun p=>Value.ref p.1)=_
  rw [List.zip_map_right]
  rfl
 have fin:∀ (st:SortSt) (Z:List (Value×(Addr×List Str))),(arrOf st).toList=Z.map (fun z=>((z.1,Value.ref z.2.1):Keyed))->Z.Perm (kA.zip ps)->(Z.map Prod.snd).Pairwise (fun p q=>kLt q.2 p.2=false)->failedOf st=none->wpAny (model X.prog X.w) A (ksk_tail a false e1 (.ref kS) st) P E' s:=by
  intro st Z hZ hp ho hf
  have lz:Z.length=ps.length:=by rw [hp.length_eq,List.length_zip];omega
  have es:((arrOf st).map (·.2)).toList=(Z.map Prod.snd).map fun p=>Value.ref p.1:=by
   rw [hDm,hZ,hB4,hB4]
   rfl
  have sz:(arrOf st).size=ps.length:=by rw [<-hB2,hZ,hA1,lz]
  obtain ⟨n1,I1,_⟩:=Inv.repinL (fun _=>(#[]:Array Value)) I.unpin (wk.cons (Ne.symm hk)) Hk ok
  have oa1:(s.heap.update kS (Obj.mapSeq fun _=>(#[]:Array Value))).get? a=some (seqObj "list" #[] e1):=(I1.pin (a,_) (hA6 _ (.head _))).1
  obtain ⟨n2,I2,oa2⟩:=Inv.repinL (s:={ s with heap:=s.heap.update kS (Obj.mapSeq fun _=>(#[]:Array Value)) }) (fun _=>(arrOf st).map (·.2)) I1.unpin wa Ha oa1
  unfold ksk_tail
  try dsimp only
  refine wpAny_bind (listUpdate_at ok rfl ?_ (by rw [hAd,sizeLine_eq];omega) (hAt _))
  refine wpAny_bind (wpAny_letGo ?_)
  refine wpAny_bind (seqEpoch_at oa1 rfl ?_)
  refine wpAny_bind (listUpdate_at oa1 rfl ?_ (hAt _) (by simp only [hCk,if_false,Array.size_map];rw [sz,sizeLine_eq];omega))
  rw [hf]
  simp only [bne_self_eq_false,hCk,if_false]
  refine wpAny_pure (h _ (Z.map Prod.snd) ?_ ho ?_)
  ·have:=hp.map Prod.snd
   rw [hDb (by omega)] at this
   exact this
  ·refine I2.adoptL (its:=(Z.map Prod.snd).map fun p=>Value.ref p.1) (n:=n2) wa Ha ?_ (by rw [hA1,hA1,lz,sizeLine_eq];omega) ?_
   ·have:=qDg ((Z.map Prod.snd).map Prod.fst)
    rw [hB4,hB4 (g:=Value.ref)] at this
    exact this
   ·rw [<-es,Array.toArray_toList];exact oa2
 unfold ksk_end
 try dsimp only
 simp only [hCk,if_false]
 by_cases h2:((ps.map fun p=>Value.ref p.1).toArray).size<2
 ·rw [if_pos h2,if_pos h2]
  refine wpAny_bind (wpAny_pure ?_)
  rw [StateT.run_pure]
  refine wpAny_bind (wpAny_pure ?_)
  try dsimp only
  refine fin (SortSt.mk' general' (kA.toArray.zip (ps.map fun p=>Value.ref p.1).toArray) #[] 7 none) (kA.zip ps) ez (hCi _) ?_ rfl
  rw [hDb (by omega)]
  rw [hAd,hA1] at h2
  match ps,h2 with
  | [],_=>exact List.Pairwise.nil
  | [p],_=>exact hCp ..
 ·rw [if_neg h2,if_neg h2]
  rw [hAd,hA1] at h2
  obtain ⟨fs,kt,fl,fa⟩:=qFk keys
  refine wpAny_bind (kat_kind (T:=.type "int") kt (by omega) (fun v hv=>?_) (by decide) ?_)
  ·obtain ⟨x,t,rfl⟩:=fa v hv
   exact .now
  show wpAny _ _ (sortRuns'.run (SortSt.mk' (tuples' true) _ #[] 7 none) >>= _) _ _ _
  have ex:∀ x:Keyed,∃ r:Int,∀ t,qEc s.heap x.1 t->r=(rankT (ps.map Prod.snd) t:Int):=fun x=>by
   by_cases c:∃ t,qEc s.heap x.1 t
   ·obtain ⟨t,ht⟩:=c
    exact ⟨(rankT (ps.map Prod.snd) t:Int),fun u hu=>by rw [ht.uniq hu]⟩
   ·exact ⟨0,fun t ht=>absurd ⟨t,ht⟩ c⟩
  obtain ⟨rk,hrk⟩:∃ rk:Keyed->Int,∀ x t,qEc s.heap x.1 t->rk x=(rankT (ps.map Prod.snd) t:Int):=⟨fun x=>Classical.choose (ex x),fun x=>Classical.choose_spec (ex x)⟩
  have at_:∀ z∈kA.zip ps,qEc s.heap z.1 z.2.2/\z.2.2∈ps.map Prod.snd:=fun z hz=>⟨qC2 keys z hz,hAb.mpr ⟨z.2,(List.of_mem_zip hz).2,rfl⟩⟩
  have ak:qF0 X.prog X.w A E' s rk (tuples' true) (fun x=>∃ t∈ps.map Prod.snd,qEc s.heap x.1 t):=asks_of fun x y ⟨t,ht,kx⟩ ⟨u,hu',ky⟩ Q hq=>by
   rw [hrk x t kx,hrk y u ky,rankT_eq ht hu'] at hq
   exact keyLt_T hu kx ky hq
  refine wpAny_bind (run_sort ak (fun x hx=>?_) fun st' hf dn=>?_)
  ·rw [ez] at hx
   obtain ⟨z,hz,rfl⟩:=hAb.mp hx
   exact ⟨_,(at_ z hz).2,(at_ z hz).1⟩
  ·obtain ⟨Z,pZ,eZ⟩:=perm_lift dn.1 (kA.zip ps) ez
   refine fin st' Z eZ.symm pZ ?_ hf
   have so:=dn.2
   rw [<-eZ] at so
   have so:=hBt.mp so
   refine hBt.mpr (so.imp_of_mem fun {x y} hx hy le=>?_)
   have ax:=at_ x (pZ.mem_iff.mp hx)
   have ay:=at_ y (pZ.mem_iff.mp hy)
   rw [hrk _ _ ax.1,hrk _ _ ay.1] at le
   cases c:kLt y.2.2 x.2.2 with
   | false=>rfl
   | true =>
    have:=rankT_lt ay.2 c
    omega
theorem sortKeyT_core {pins:List (Addr×Obj)} {σ:St} {H1:Hp} {s1:Shared} {l f:Addr} {ps:List (Addr×List Str)} {Q:VK} (I1:Inv X pins σ H1 s1) (hq:SqL X.K H1 l (ps.map fun p=>V.ref p.1)) (hrow:∀ p∈ps,SqL X.K H1 p.1 (p.2.map V.str)) (hn:ps.length<=5000) (hu:X.A.in1.in1.units<cLine)
  (hcall:∀ p∈ps,∀ (pins':List (Addr×Obj)) (s':Shared) (H':Hp),(∀ q∈pins,q∈pins')->ExtH H1 H'->Inv X pins' σ H' s'->wpAny (model X.prog X.w) X.A.in1.in1 (call (.ref f) [.ref p.1]) (EP X pins' σ (fun v H2=>∃ k,v = .ref k/\H' k=none/\H2=upd H' k (.tup [.int p.2.length,.ref p.1]))) (fun _ _=>False) s')
  (q:∀ (r:Addr) (ps':List (Addr×List Str)) (H2:Hp),H1 r=none->ExtH H1 H2->H2 r=some (.lst (ps'.map fun p=>V.ref p.1))->ps'.Perm ps->ps'.Pairwise (fun p q=>kLt q.2 p.2=false)->Q (.ref r) H2) :
  wpAny (model X.prog X.w) X.A (call (.builtin "sorted") [.ref l] [(Str.ofString "key",.ref f)]) (EP X pins σ Q) X.xe s1:=by
 obtain ⟨its,rv,pl,hz⟩:=I1.list hq
 have ei:its=ps.map fun p=>Value.ref p.1:=by
  have rv':qA6 ((ps.map Prod.fst).map V.ref) its:=by rw [hB4];exact rv
  have:=refs_of rv'
  rw [hB4] at this
  exact this
 have hl:its.length=ps.length:=by rw [ei,hA1]
 refine call_function_entry_kw kind_sorted plain_sorted entry_sorted (ksk_s1 _ _) ?_
 unfold Builtin.«sorted»
 refine wpAny_bind (m:=checkCount "sorted" 1 1 _) (wpAny_pure ?_)
 refine wpAny_bind (collect_list pl.isList ?_ (by rw [sizeLine_eq];omega))
 refine wpAny_bind (wpAny_newList ?_ (by rw [sizeLine_eq];omega))
 have hsz:((s1.heap.push (seqObj "list" #[] 0)).update s1.heap.objs.size (Obj.mapSeq (·++its.toArray))).objs.size=s1.heap.objs.size+1:=by
  rw [Heap.size_update,size_push']
 have keep:∀ b o,s1.heap.get? b=some o->((s1.heap.push (seqObj "list" #[] 0)).update s1.heap.objs.size (Obj.mapSeq (·++its.toArray))).get? b=some o:=fun b o q=>by
  have hlt:b<s1.heap.objs.size:=Heap.lt_size q
  rw [Heap.get?_update_ne _ _ _ _ (hAk hlt),Heap.get?_push_ne _ _ _ (hAk hlt)]
  exact q
 have hoL:(((s1.heap.push (seqObj "list" #[] 0)).update s1.heap.objs.size (Obj.mapSeq (·++its.toArray))).push (seqObj "list" its.toArray 0)).get? (s1.heap.objs.size+1)=some (seqObj "list" its.toArray 0):=by
  rw [<-hsz];exact Heap.get?_push_size _ rfl
 have I2:Inv X pins σ H1 { s1 with heap:=((s1.heap.push (seqObj "list" #[] 0)).update s1.heap.objs.size (Obj.mapSeq (·++its.toArray))).push (seqObj "list" its.toArray 0) } :=
  I1.kept (t':=s1.toks) fun b o q=>Heap.get?_push_of_some _ (keep b o q)
 show wpAny _ _ _ _ _ { s1 with heap:=((s1.heap.push (seqObj "list" #[] 0)).update s1.heap.objs.size (Obj.mapSeq (·++its.toArray))).push (seqObj "list" its.toArray 0) }
 rw [hsz]
 have nA:H1 (s1.heap.objs.size+1)=none:=I1.hok.fresh (hAx _)
 have wA:Aw X pins (s1.heap.objs.size+1):=I1.aw (hAx _)
 generalize s1.heap.objs.size+1=a at hoL nA wA
 generalize hS:({ s1 with heap:=((s1.heap.push (seqObj "list" #[] 0)).update s1.heap.objs.size (Obj.mapSeq (·++its.toArray))).push (seqObj "list" its.toArray 0) }:Shared)=s2 at I2
 have ho2:s2.heap.get? a=some (seqObj "list" its.toArray 0):=by rw [<-hS];exact hoL
 clear hoL hS
 refine wpAny_bind (wpAny_holding (wpAny_call_entry_kw slot_list_sort ⟨_,ho2,rfl⟩ entry_list_sort ?body (ksk_l1 _ _)))
 show wpAny (model X.prog X.w) X.A.in1.in1 (Builtin.«list.sort» ⟨[.ref a],[(Str.ofString "key",.ref f)]⟩) _ _ _
 rw [ksk_t1]
 unfold ksk_tree
 refine wpAny_bind (listItems_at ho2 rfl ?_)
 refine wpAny_bind (listUpdate_at ho2 rfl ?_ (by rw [hAd,sizeLine_eq];omega) (hAt _))
 obtain ⟨e1,I3,ho3⟩:=I2.repinL (fun _=>#[]) wA nA ho2
 refine wpAny_bind (seqEpoch_at ho3 rfl ?_)
 refine wpAny_bind (wpAny_newTuple ?_ (by show its.length<=_;rw [sizeLine_eq];omega))
 refine wpAny_bind (wpAny_newList ?_ (hAt _))
 refine wpAny_holding ?_
 have I4:Inv X pins σ H1 { s2 with heap:=((s2.heap.update a (Obj.mapSeq fun _=>(#[]:Array Value))).push (seqObj "tuple" its.toArray 0)) }:=I3.kept (t':=s2.toks) fun b o q=>Heap.get?_push_of_some _ q
 have nK:=I4.fresh
 have wK:=I4.aw (hA5 _)
 have ho4:((s2.heap.update a (Obj.mapSeq fun _=>(#[]:Array Value))).push (seqObj "tuple" its.toArray 0)).get? a=some (seqObj "list" #[] e1):=Heap.get?_push_of_some _ ho3
 have nka:((s2.heap.update a (Obj.mapSeq fun _=>(#[]:Array Value))).push (seqObj "tuple" its.toArray 0)).objs.size≠a:=hCd (Heap.lt_size ho4)
 have I5:Inv X pins σ H1 { s2 with heap:=((s2.heap.update a (Obj.mapSeq fun _=>(#[]:Array Value))).push (seqObj "tuple" its.toArray 0)).push (seqObj "list" #[] 0) }:=I4.kept (t':=s2.toks) fun b o q=>Heap.get?_push_of_some _ q
 have ho5:(((s2.heap.update a (Obj.mapSeq fun _=>(#[]:Array Value))).push (seqObj "tuple" its.toArray 0)).push (seqObj "list" #[] 0)).get? a=some (seqObj "list" #[] e1):=Heap.get?_push_of_some _ ho4
 have hk5:(((s2.heap.update a (Obj.mapSeq fun _=>(#[]:Array Value))).push (seqObj "tuple" its.toArray 0)).push (seqObj "list" #[] 0)).get? ((s2.heap.update a (Obj.mapSeq fun _=>(#[]:Array Value))).push (seqObj "tuple" its.toArray 0)).objs.size=some (seqObj "list" #[] 0):=Heap.get?_push_size _ rfl
 show wpAny _ _ (ksk_rest a (.ref f) false its.toArray e1 (.ref ((s2.heap.update a (Obj.mapSeq fun _=>(#[]:Array Value))).push (seqObj "tuple" its.toArray 0)).objs.size)) _ _ { s2 with heap:=((s2.heap.update a (Obj.mapSeq fun _=>(#[]:Array Value))).push (seqObj "tuple" its.toArray 0)).push (seqObj "list" #[] 0) }
 change H1 ((s2.heap.update a (Obj.mapSeq fun _=>(#[]:Array Value))).push (seqObj "tuple" its.toArray 0)).objs.size=none at nK
 change Aw X pins ((s2.heap.update a (Obj.mapSeq fun _=>(#[]:Array Value))).push (seqObj "tuple" its.toArray 0)).objs.size at wK
 have I6:=(I5.pinL wA nA ho5).pinL (wK.cons (Ne.symm nka)) nK hk5
 generalize ((s2.heap.update a (Obj.mapSeq fun _=>(#[]:Array Value))).push (seqObj "tuple" its.toArray 0)).objs.size=kS at nK wK nka I6 ⊢
 generalize ({ s2 with heap:=((s2.heap.update a (Obj.mapSeq fun _=>(#[]:Array Value))).push (seqObj "tuple" its.toArray 0)).push (seqObj "list" #[] 0) }:Shared)=s6 at I6 ⊢
 unfold ksk_rest
 refine wpAny_bind (wpAny_rule ?_)
 first
  | rw [List.forIn_toArray]
  | (rw [<-Array.forIn_toList];simp only [List.toList_toArray])
  | rw [<-Array.forIn_toList]
 refine wpAny_bind (ksk_fold (fun i s'=>∃ (kA:List Value) (e:Nat) (H':Hp),Inv X ((kS,seqObj "list" kA.toArray e) :: (a,seqObj "list" #[] e1) :: pins) σ H' s'/\ExtH H1 H'/\Paired (fun v p=>∃ k,v=Value.ref k/\H' k=some (.tup [.int (p.2.length:Int),.ref p.1])) kA (ps.take i)) its 0 s6 ⟨[],0,H1,I6,fun _ _ z=>z,by simpa using Paired.nil⟩ ?step ?done)
 case step =>
  rintro j x s' hx ⟨kA,e,H',I',ex,hk⟩
  simp only [Nat.zero_add] at hk ⊢
  have hj:j<its.length:=(hAp.mp hx).1
  have hjn:j<ps.length:=by omega
  have hxe:x = .ref ps[j].1:=by
   rw [ei,hAj,hA3 hjn] at hx
   exact (hAs hx).symm
  subst hxe
  have hz:kA.length<=its.length:=by
   have h1:=qD3 hk
   rw [hAh] at h1
   omega
  refine wpAny_bind (wpAny_attempt (wpAny_mono (hcall ps[j] (hBf hjn) _ s' H' (fun p hp=>hA4 _ (hA4 _ hp)) ex I') (fun v s'' he=>?_) fun _ _ (hF:False)=>hF.elim))
  obtain ⟨w,H'',I8,rw',k,rfl,nk,e8⟩:=he
  cases rw'
  subst e8
  try dsimp only
  have ok2:s''.heap.get? kS=some (seqObj "list" kA.toArray e):=(I8.pin (kS,_) (hA6 _ (.head _))).1
  have nK8:upd H' k (.tup [.int ps[j].2.length,.ref ps[j].1]) kS=none:=(I8.pin (kS,_) (hA6 _ (.head _))).2.1
  obtain ⟨n3,I3,ok3⟩:=I8.unpin.repinL (·.push (.ref k)) (wK.cons (Ne.symm nka)) nK8 ok2
  have ek:ps.take (j+1)=ps.take j++[ps[j]]:=by rw [List.take_add_one,hA3 hjn];rfl
  refine wpAny_bind (listUpdate_at ok2 rfl ?_ (by rw [hAd,sizeLine_eq];omega) (hAv (Nat.le_of_eq (Array.size_push ..)) (by rw [hAd,sizeLine_eq];omega)))
  have ea:kA.toArray.push (Value.ref k)=(kA++[Value.ref k]).toArray:=by simp
  rw [ea] at ok3
  refine wpAny_pure ⟨rfl,kA++[.ref k],n3,_,I3.pinL (wK.cons (Ne.symm nka)) nK8 ok3,fun b o z=>?_,?_⟩
  ·have:=ex b o z
   rw [qAe (qAd this nk)];exact this
  ·rw [ek]
   refine qFe (qGb (fun v p ⟨k2,z1,z2⟩=>⟨k2,z1,?_⟩) hk) ⟨k,rfl,upd_same⟩
   rw [qAe (qAd z2 nk)];exact z2
 case done =>
  rintro s' ⟨kA,e,H',I',ex,hk⟩
  have e3:ps.take (0+its.length)=ps:=hA8 (by omega)
  rw [e3] at hk
  have ok2:s'.heap.get? kS=some (seqObj "list" kA.toArray e):=(I'.pin (kS,_) (hA6 _ (.head _))).1
  have nK':H' kS=none:=(I'.pin (kS,_) (hA6 _ (.head _))).2.1
  have nA':H' a=none:=(I'.pin (a,_) (hA6 _ (.tail _ (.head _)))).2.1
  try dsimp only
  refine wpAny_bind (listItems_at ok2 rfl ?_)
  have keys:Paired (fun v p=>qEc s'.heap v p.2) kA ps:=paired_mem hk fun v p hp ⟨k,ev,hH⟩=>by
   obtain ⟨i1,r1,t1,_⟩:=I'.tuple (Or.inl (.inl hH))
   obtain ⟨i2,r2,⟨o,n,g1,g2,_,g4⟩,_⟩:=I'.list (sq_ext ex (hrow p hp))
   cases r1 with
   | cons r1 rr =>
    cases rr with
    | cons r3 rr =>
     cases rr
     obtain ⟨tok,rfl⟩:=r1
     cases r3
     exact ⟨k,p.1,tok,i2.toArray,ev,t1,⟨o,g1,g2,n,g4⟩,by simpa using qCe r2⟩
  subst ei
  refine sk_endT I' nka nK' nA' wA wK hu keys hn fun s7 ps' hp ho I7=>⟨_,rfl,?_⟩
  refine wpAny_pure ⟨_,rfl,⟨.ref a,_,I7,rfl,q a ps' _ nA (fun b o z=>?_) upd_same hp ho⟩⟩
  have:=ex b o z
  rw [qAe (qAd this nA')];exact this
end
end L2
namespace L2
open PySem PySem.Spec PyProof.Rows PySem.W
theorem zip_dup:∀ vs:List Value,vs.zip vs=vs.map fun v=>((v,v):Keyed)
 | []=>rfl
 | v :: vs=>by rw [List.zip_cons_cons,hAl,zip_dup vs]
section
variable {P:Program} {w:World} {A:Around} {E:Value->Shared->Prop} {s:Shared}
theorem sort_intsN {a:Addr} {vs:List Value} {ns:List Int} {n:Nat} {R:PySem.Fin->Shared->Prop} (ho:s.heap.get? a=some (seqObj "list" vs.toArray n)) (hi:IntsAre vs ns) (hn:vs.length<=5000)
  (h:∀ (out:List Value),out.Perm vs->(out.map numOf).Pairwise (·<=·)->R (.done (.ret .none)) { s with heap:=sortedHeap s.heap a vs out.toArray }):wpAny (model P w) A (Builtin.«list.sort» ⟨[.ref a],[]⟩) R E s:=by
 rw [list_sort_plain]
 have ha:a<s.heap.objs.size:=Heap.lt_size ho
 refine wpAny_bind (listItems_at ho rfl (wpAny_bind (listUpdate_at ho rfl ?_ (by rw [hAd,sizeLine_eq];omega) (hAt _))))
 obtain ⟨e1,ho1⟩:∃ e1,(s.heap.update a (Obj.mapSeq fun _=>#[])).get? a=some (seqObj "list" #[] e1):=⟨_,get?_update_seq ho (fun _=>#[])⟩
 refine wpAny_bind (seqEpoch_at ho1 rfl (wpAny_bind (wpAny_newTuple ?_ (by show vs.length<=_;rw [sizeLine_eq];omega))))
 refine wpAny_bind (wpAny_newList ?_ (hAt _))
 refine wpAny_holding ?_
 have ho6:(((s.heap.update a (Obj.mapSeq fun _=>#[])).push (seqObj "tuple" vs.toArray 0)).push (seqObj "list" #[] 0)).get? a=some (seqObj "list" #[] e1):=Heap.get?_push_of_some _ (Heap.get?_push_of_some _ ho1)
 have keep:∀ b o,b≠a->s.heap.get? b=some o->(((s.heap.update a (Obj.mapSeq fun _=>#[])).push (seqObj "tuple" vs.toArray 0)).push (seqObj "list" #[] 0)).get? b=some o:=fun b o hb e=>by
  refine Heap.get?_push_of_some _ (Heap.get?_push_of_some _ ?_)
  rw [Heap.get?_update_ne _ _ _ _ hb];exact e
 show wpAny (model P w) A _ R E { s with heap:=((s.heap.update a (Obj.mapSeq fun _=>#[])).push (seqObj "tuple" vs.toArray 0)).push (seqObj "list" #[] 0) }
 dsimp only
 have fin:∀ (st':SortSt) (out:List Value),(arrOf st').map (·.2)=out.toArray->failedOf st'=none->out.Perm vs->(out.map numOf).Pairwise (·<=·)->wpAny (model P w) A (do
   let touched:=(← seqEpoch a) != e1
   Builtin.List.listUpdate (.ref a) fun _=>(arrOf st').map (·.2)
   if let some e:=failedOf st' then rule "list.sort.comparison-raised";throw e
   if touched then rule "list.sort.modified";raiseError "ValueError" "list modified during sort"
   ret .none) R E { s with heap:=((s.heap.update a (Obj.mapSeq fun _=>#[])).push (seqObj "tuple" vs.toArray 0)).push (seqObj "list" #[] 0) }:=by
  intro st' out e hf hp hs
  refine wpAny_bind (seqEpoch_at ho6 rfl ?_)
  refine wpAny_bind (listUpdate_at ho6 rfl ?_ (hAt _) (by rw [e,hAd,hp.length_eq,sizeLine_eq];omega))
  rw [hf]
  simp only [bne_self_eq_false,hCk,if_false]
  rw [e]
  exact wpAny_pure (h out hp hs)
 have ez:(vs.toArray.zip vs.toArray).toList=vs.map fun v=>((v,v):Keyed):=by
  rw [hDn]
  exact zip_dup vs
 by_cases h2:vs.toArray.size<2
 ·rw [if_pos h2,if_pos h2]
  refine wpAny_bind (wpAny_pure ?_)
  rw [StateT.run_pure]
  refine wpAny_bind (wpAny_pure (fin _ vs ?_ rfl (hCi _) ?_))
  ·show (vs.toArray.zip vs.toArray).map (·.2)=vs.toArray
   apply hDl.mp
   rw [hDm,hDn]
   exact hDb (hA5 _)
  ·rw [hAd] at h2
   match vs,h2 with
   | [],_=>exact List.Pairwise.nil
   | [p],_=>exact hCp ..
 ·rw [if_neg h2,if_neg h2]
  have hl2:2<=vs.length:=by rw [hAd] at h2;omega
  rw [ksk_kind (keys:=vs.toArray) (kz:=ns) (by simpa using hi) (by rw [hAd];omega)]
  refine wpAny_bind (wpAny_pure ?_)
  have ak:qF0 P w A E { s with heap:=((s.heap.update a (Obj.mapSeq fun _=>#[])).push (seqObj "tuple" vs.toArray 0)).push (seqObj "list" #[] 0) } (fun x=>numOf x.1) oneType' (fun x=>∃ n t,x.1=Value.int n t):=asks_of fun x y ⟨n,t,ex⟩ ⟨m,u,ey⟩ Q hq=>by
   rw [ex,ey] at hq
   rw [ex,ey,keyLt'_oneType]
   exact oneLt_int hq
  refine wpAny_bind (run_sort ak (fun x hx=>?_) fun st' hf dn=>?_)
  ·rw [ez] at hx
   obtain ⟨v,hv,rfl⟩:=hAb.mp hx
   exact hi.all v hv
  ·obtain ⟨L,pL,eL⟩:=perm_lift dn.1 vs ez
   refine fin st' L ?_ hf pL ?_
   ·apply hDl.mp
    rw [hDm,<-eL,hB4]
    show L.map _=L
    exact List.map_id' L
   ·have so:=dn.2
    rw [<-eL] at so
    have so2:=hBt.mp so
    exact hBt.mpr so2
end
section
variable {X:Cx}
theorem call_sortedN:qBq X (.builtin "sorted") (fun xs H Q=>∃ (p:Addr) (ns:List Int),xs=[.ref p]/\SqL X.K H p (ns.map V.int)/\ns.length<=5000/\∀ (r:Addr) (ns':List Int),H r=none->ns'.Perm ns->ns'.Pairwise (·<=·)->Q (.ref r) (upd H r (.lst (ns'.map V.int)))):=by
 intro pins s σ H xs us Q I r h
 obtain ⟨p,ns,rfl,hq,hn,q⟩:=h
 obtain ⟨u,rfl,rx⟩:=qCa r
 cases rx
 obtain ⟨its,rv,pl,hz⟩:=I.list hq
 have hi:=qFn rv
 have hl:=hi.length
 refine Calls.call_function_entry kind_sorted plain_sorted entry_sorted (args_sorted1 _) ?_
 unfold Builtin.«sorted»
 refine wpAny_bind (m:=checkCount "sorted" 1 1 _) (wpAny_pure (wpAny_bind (collect_list pl.isList ?_ (by rw [sizeLine_eq];omega))))
 refine wpAny_bind (wpAny_newList ?_ (by rw [sizeLine_eq];omega))
 have hsz:((s.heap.push (seqObj "list" #[] 0)).update s.heap.objs.size (Obj.mapSeq (·++its.toArray))).objs.size=s.heap.objs.size+1:=by rw [Heap.size_update,size_push']
 have hoL:(((s.heap.push (seqObj "list" #[] 0)).update s.heap.objs.size (Obj.mapSeq (·++its.toArray))).push (seqObj "list" its.toArray 0)).get? (s.heap.objs.size+1)=some (seqObj "list" its.toArray 0):=by
  rw [<-hsz];exact Heap.get?_push_size _ rfl
 have keep:∀ b o,s.heap.get? b=some o->(((s.heap.push (seqObj "list" #[] 0)).update s.heap.objs.size (Obj.mapSeq (·++its.toArray))).push (seqObj "list" its.toArray 0)).get? b=some o:=fun b o e=>by
  have hlt:b<s.heap.objs.size:=Heap.lt_size e
  rw [Heap.get?_push_ne _ _ _ (by rw [hsz];exact hAk (hB8 hlt)),Heap.get?_update_ne _ _ _ _ (hAk hlt),Heap.get?_push_ne _ _ _ (hAk hlt)]
  exact e
 show wpAny _ _ _ _ _ { s with heap:=((s.heap.push (seqObj "list" #[] 0)).update s.heap.objs.size (Obj.mapSeq (·++its.toArray))).push (seqObj "list" its.toArray 0) }
 rw [hsz]
 refine wpAny_bind (wpAny_holding (wpAny_call_entry slot_list_sort ⟨_,hoL,rfl⟩ entry_list_sort (sort_intsN hoL hi (by omega) fun out hp hs=>⟨_,rfl,?_⟩) (args_list_sort _)))
 have nz:H (s.heap.objs.size+1)=none:=I.hok.fresh (hAx _)
 obtain ⟨e,he⟩:=sortedAll_at s.heap its out.toArray
 have ho:IntsAre out (out.map numOf):=intsAre_map out fun v hv=>hi.all v (hp.mem_iff.mp hv)
 have hpn:(out.map numOf).Perm ns:=by
  have:=hp.map numOf
  rw [hi.nums] at this
  exact this
 refine wpAny_pure ⟨_,rfl,.ref (s.heap.objs.size+1),_,I.laid (t':=s.toks) (a:=s.heap.objs.size+1) (o:=.lst ((out.map numOf).map V.int)) (h':=sortedAll s.heap its out.toArray) (fun b o eb=>sortedAll_old eb) (hAx _) ⟨?_,out,e,qEz ho,he⟩,rfl,q _ (out.map numOf) nz hpn hs⟩
 rw [hA1,hA1,hp.length_eq,sizeLine_eq]
 omega
end
def tSortLamT (K:PySem.W.Frag) (P:Addr) (lpos:Pos) (q:Str) (t:TA):TE:=fun σ H Q=>t σ H fun vs H1=>∃ (p:Addr) (ps:List (Addr×List Str)),vs=[.ref p]/\SqL K H1 p (ps.map fun p=>V.ref p.1)/\(∀ x∈ps,SqL K H1 x.1 (x.2.map V.str))/\ps.length<=5000/\TabW H1 P lpos q /\
 ∀ (r:Addr) (ps':List (Addr×List Str)) (H2:Hp),H1 r=none->ExtB P H1 H2->H2 r=some (.lst (ps'.map fun p=>V.ref p.1))->ps'.Perm ps->ps'.Pairwise (fun p q=>kLt q.2 p.2=false)->TabW H2 P lpos q->Q (.ref r) H2
section
variable {X:Cx} {k:Nat}
theorem pe_sortLamT {e body:Expr} {params:Arguments} {scope:Scope} {t:TA} {te:TE} {p pos kp lpos:Pos} {x:Str} {c P:Addr} (L:LamAt X c P) (hr:Room (k+2) X.A) (hg:Gl X "sorted") (hm:X.mg "sorted" = none) (ha:PA X [e] t)
  (S:FnScope [x] [x] scope) (hcl:closureFor scope X.env=pure []) (hdef:defaultsOf params X.env=([],[]))
  (hb:∀ (nm ql:Str) (pm cd ct u:Value),bindArgs { name:=nm,qualname:=ql,params,body:=.expr body,scope,globals:=mainGlobals,closure:=[],defaults:=.none,kwdefaults:=.none,doc:=.none,pyModule:=pm,annotations:=none,code:=cd,closureTuple:=ct,builtins:=builtinsNs } ⟨[u],[]⟩=pure [(x,u)])
  (hbody:∀ (A:Around) (s:Shared) (H:Hp) (f:Addr) (cd:Value) (qual:Str),PE (cxOf CX0 X.prog X.w X.K X.mg X.base [x] qual scope f cd A X.stack s H E0) body te)
  (hte:∀ (a:Addr) (t:List Str) (H:Hp) (Q:VK),SqL X.K H a (t.map V.str)->(∀ k,H k=none->Q (.ref k) (upd H k (.tup [.int t.length,.ref a])))->te [some (.ref a)] H Q)
  (he:backTo pos (starEach [e] X.env)=(false,eval e X.env) :: backTo pos (starEach [] X.env):=by rfl)
  (hplain:(backTo pos (starEach [e] X.env)).any (·.1)=false:=by rfl):PE X (.Call (.Name "sorted" p) [e] [⟨some "key",.Lambda params body scope lpos,kp⟩] pos) (tSortLamT X.K P lpos (X.env.qual++"<lambda>") t):=by
 intro pins s σ H Q I h
 refine wpAny_Call_Name_kw (qEh I hg hm (by decide +kernel:bootBuiltins "sorted" = some (.builtin "sorted")) ?_ (by decide) (by decide))
 refine PyProof.Rows.callWith_kw (thn (ha pos pins s σ H _ I h) fun us s1 ⟨vs,H1,I1,r1,q1⟩=>?_) he hplain
 obtain ⟨l,ps,rfl,hq,hrow,hn,tw,q⟩:=q1
 obtain ⟨u,rfl,rx⟩:=qCa r1
 cases rx
 have hgs:s1.heap.Ns mainGlobals X.mg:=I1.ok.mod.glob.keeps I1.bk
 obtain ⟨bm,ob,b1,b2,b3,b4,b5,b6⟩:=L.bl
 have rest:∀ (c':Addr) (ctv:Value) (h':Heap) (tk:Nat) (H2:Hp),Inv X pins σ H2 { s1 with heap:=h'.push (PySem.W.kla_obj "<lambda>" (X.env.qual++"<lambda>") params body scope [] ((X.mg "__name__").getD .none) c' ctv),toks:=tk }->H2 c'=some (codeO c' (X.env.qual++"<lambda>"))->H2 h'.objs.size=none->Aw X pins h'.objs.size->(∃ ps,H1 P=some (.tbl ps))->ExtB P H1 H2->TabW H2 P lpos (X.env.qual++"<lambda>")->(∀ r,H2 r=none->H1 r=none) ->
   wpAny (model X.prog X.w) X.A (call (.builtin "sorted") [.ref l] [(Str.ofString "key",.ref h'.objs.size)]) (EP X pins σ Q) X.xe { s1 with heap:=h'.push (PySem.W.kla_obj "<lambda>" (X.env.qual++"<lambda>") params body scope [] ((X.mg "__name__").getD .none) c' ctv),toks:=tk }:=by
  intro c' ctv h' tk H2 I2 hc' nF wF ⟨ps,hP⟩ eB tw2 back
  have I3:Inv X ((h'.objs.size,PySem.W.kla_obj "<lambda>" (X.env.qual++"<lambda>") params body scope [] ((X.mg "__name__").getD .none) c' ctv) :: pins) σ H2
    { s1 with heap:=h'.push (PySem.W.kla_obj "<lambda>" (X.env.qual++"<lambda>") params body scope [] ((X.mg "__name__").getD .none) c' ctv),toks:=tk }:=I2.pins_of fun p hp=>by
   rcases hA9.mp hp with rfl | hp
   ·exact ⟨Heap.get?_push_size _ rfl,nF,wF.loc,wF.fs,fun v z=>by cases z⟩
   ·exact I2.pin p (hA6 _ hp)
  refine wpAny_mono (sortKeyT_core (Q:=Q) I3 (sq_B hP eB hq) (fun p hp=>sq_B hP eB (hrow p hp)) hn (by have:=(Room.in1 (Room.in1 hr)).un;omega) (fun p hp pins' s' H' sub ex I'=>?_) (fun r ps' H3 nr ex e3 hp ho=>?_)) (fun v s' ⟨y,H',J,ry,qq⟩=>⟨y,H',J.unpin,ry,qq⟩) fun _ _ z=>z
  ·have ho:=(I'.pin _ (hA6 _ (sub _ (.head _)))).1
   have hcr:s'.heap.CodeRec (.ref c') (X.env.qual++"<lambda>"):=(I'.hok c' _ (ex _ _ hc')).1
   refine wpAny_call (codeAny_mono (run_lam (v:=.ref p.1) (t:=te) (Q:=fun v H2=>∃ k,v = .ref k/\H' k=none/\H2=upd H' k (.tup [.int p.2.length,.ref p.1])) (Room.in1 (Room.in1 hr)) I'.env0.in1.in1 ho hcr S (hb _ _ _ _ _ _) rfl (hbody _ _ _ _ _ _) (hte p.1 p.2 H' _ (sq_ext ex (sq_B hP eB (hrow p hp))) fun k nk=>⟨k,rfl,nk,rfl⟩)) fun r s'' hq=>?_)
   cases r with
   | error e=>exact False.elim hq
   | ok fl =>
    cases fl with
    | ret u=>exact I'.after hq
    | next=>exact False.elim hq
    | brk=>exact False.elim hq
    | cont=>exact False.elim hq
  ·exact q r ps' H3 (back r nr) (fun b o hb e=>ex b o (eB b o hb e)) e3 hp ho (tw2.ext ex)
 rcases tw with hP | ⟨c',hP,hc'⟩
 ·have hPh:s1.heap.get? P=some (PySem.W.tabObj #[]):=I1.hok P _ hP
  have hgP:mainGlobals≠P:=fun z=>by
   obtain ⟨o,es,ep,e1,hd,_⟩:=hgs
   rw [z,hPh] at e1;cases e1;cases hd
  refine PyProof.Rows.kws_cons (PySem.W.kla_eval hdef (PySem.W.kla_makeFunction (mg:=X.mg) hcl I1.ok.glob hgs L.code (L.hd.keeps I1.bk) hPh trivial rfl hgP ⟨bm,ob,b1,b2,b3,b4,I1.bk _ _ b5,b6⟩ fun c' ctv h' tk hx hge hlt hrec htb=>PyProof.Rows.kws_nil ?_))
  have hsz:s1.heap.objs.size<=h'.objs.size:=hBh (hDd hge hlt)
  have I2:=I1.grown (more:=#[rawInt lpos.line,rawInt lpos.col,.ref c']) (tk:=tk) (h':=h'.push (PySem.W.kla_obj "<lambda>" (X.env.qual++"<lambda>") params body scope [] ((X.mg "__name__").getD .none) c' ctv)) hP (fun b o hb e=>Heap.get?_push_of_some _ (hx b o hb e)) (Heap.get?_push_of_some _ htb)
  have hPlt:P<s1.heap.objs.size:=Heap.lt_size hPh
  have nC1:H1 c'=none:=I1.hok.fresh hge
  have nC:upd H1 P (.tbl (#[]++#[rawInt lpos.line,rawInt lpos.col,.ref c'])) c'=none:=by
   rw [qAe (hCd (hAi hPlt hge))];exact nC1
  have wC:Aw X pins c':=I1.aw hge
  have I3:=I2.adoptX wC nC (codeO_ok (hrec.keeps fun b o e=>Heap.get?_push_of_some _ e))
  have nF1:H1 h'.objs.size=none:=I1.hok.fresh hsz
  refine rest c' ctv h' tk _ I3 upd_same ?_ (I1.aw hsz) ⟨_,hP⟩ (fun b o hb e=>?_) (.inr ⟨c',?_,upd_same⟩) fun r hr0=>?_
  ·rw [qAe (hCd hlt),qAe (hCd (hAi hPlt hsz))];exact nF1
  ·rw [qAe (qAd e nC1),qAe hb];exact e
  ·rw [qAe (hAk (hAi hPlt hge)),upd_same];simp
  ·by_cases h1:r=c'
   ·rw [h1];exact nC1
   ·rw [qAe h1] at hr0
    by_cases h2:r=P
    ·rw [h2,upd_same] at hr0;cases hr0
    ·rw [qAe h2] at hr0;exact hr0
 ·have hPh:s1.heap.get? P=some (PySem.W.tabObj #[rawInt lpos.line,rawInt lpos.col,.ref c']):=I1.hok P _ hP
  refine PyProof.Rows.kws_cons (PySem.W.kla_eval hdef (PySem.W.kla_makeFunctionHit (mg:=X.mg) hcl I1.ok.glob hgs L.code (L.hd.keeps I1.bk) hPh ?tri (among3 lpos _) ⟨bm,ob,b1,b2,b3,b4,I1.bk _ _ b5,b6⟩ fun ctv h' tk hk hsz=>PyProof.Rows.kws_nil ?_))
  case tri=>trivial
  have I2:Inv X pins σ H1 { s1 with heap:=h'.push (PySem.W.kla_obj "<lambda>" (X.env.qual++"<lambda>") params body scope [] ((X.mg "__name__").getD .none) c' ctv),toks:=tk }:=I1.kept (t':=tk) fun b o e=>Heap.get?_push_of_some _ (hk b o e)
  exact rest c' ctv h' tk H1 I2 hc' (I1.hok.fresh hsz) (I1.aw hsz) ⟨_,hP⟩ (fun b o _ e=>e) (.inr ⟨c',hP,hc'⟩) fun r z=>z
end
end L2
namespace L2
open PySem PySem.Spec PyProof.Rows
end L2
namespace L2
open PySem PySem.Spec PyProof.Rows PySem.SeqAt
end L2
namespace L2
open PySem PySem.Spec PyProof.Rows
theorem strs_len:∀ {vs:List Value} {ss:List Str},StrsAre vs ss->vs.length=ss.length
 | _,_,.nil=>rfl
 | _,_,.cons y t r=>by rw [hAy,hAy,strs_len r]
section
variable {X:Cx}
theorem call_lenSS:qBq X (.builtin "len") (fun xs H Q=>∃ (p:Addr) (ss:List Str),xs=[.ref p]/\H p=some (SetS X.prog X.w p ss)/\Q (.int (ss.length:Nat)) H):=by
 intro pins s σ H xs us Q I r h
 obtain ⟨p,ss,rfl,hp,q⟩:=h
 obtain ⟨u,rfl,rx⟩:=qCa r
 cases rx
 have hS:qA8 X.prog X.w s.heap p ss:=(I.hok p _ hp).1
 obtain ⟨es,ep,t,ho,_,hs,hz,hf,_⟩:=hS
 have el:es.size=ss.length:=by rw [<-strs_len hs,hA1,hB2]
 refine call_len_set ho ⟨rfl,rfl,rfl⟩ rfl hf (by have:scanBound=4096:=rfl;omega) ⟨.int _,H,I.tok _,⟨_,rfl⟩,?_⟩
 rw [el];exact q
end
end L2
namespace My
open PySem L2
def trD (t:Tr):PyData:=.tuple [.str t.1,.str t.2.1,.str t.2.2]
def netD (net:List Tr):PyData:=.list (net.map trD)
theorem eqv_tr (t:Tr):PyData.eqv (trD t) (trD t)=true:=by
 show (t.1 == t.1 && (t.2.1 == t.2.1 && (t.2.2 == t.2.2 && true)))=true
 simp
theorem eqv_net:∀ net:List Tr,PyData.eqv (netD net) (netD net)=true
 | []=>rfl
 | t :: r=>by
  have ih:PyData.eqvAll (r.map trD) (r.map trD)=true:=eqv_net r
  show (PyData.eqv (trD t) (trD t) && PyData.eqvAll (r.map trD) (r.map trD))=true
  rw [eqv_tr,ih];rfl
theorem lay_net:∀ {net:List Tr},TxN net->PyData.canLayAll0 (net.map trD)=true/\PyData.depthAll (net.map trD)<=1
 | [],_=>⟨rfl,by decide⟩
 | t :: r,h=>by
  obtain ⟨h1,h2⟩:=lay_net (net:=r) fun y hy=>h y (hA4 _ hy)
  obtain ⟨t1,t2,t3⟩:=h t hA2
  refine ⟨?_,?_⟩
  ·show ((PyData.strOk t.1 && (PyData.strOk t.2.1 && (PyData.strOk t.2.2 && true))) && PyData.canLayAll0 (r.map trD))=true
   rw [h1,t1.ok,t2.ok,t3.ok];rfl
  ·show max (max 0 (max 0 (max 0 0))+1) (PyData.depthAll (r.map trD))<=1
   omega
theorem qB3 {net:List Tr} (h:TxN net):SeqAt.shaped (netD net)=true:=by
 obtain ⟨h3,h4⟩:=lay_net h
 show (PyData.canLayAll0 (net.map trD) && decide (PyData.depthAll (net.map trD)+1<=64))=true
 rw [h3,decide_eq_true (by omega)];rfl
theorem drs_net {K:PySem.W.Frag} {H:Hp}:∀ {as:List Addr} {net:List Tr},Paired (fun a t=>H a=some (.tup (trV t))) as net->DRs K H (as.map V.ref) (net.map trD)
 | _,_,.nil=>.nil
 | _,_,.cons h t=>.cons (.tup (SqT.of h) (.cons (.str _) (.cons (.str _) (.cons (.str _) .nil)))) (drs_net t)
theorem qGm {K:PySem.W.Frag} {H:Hp} {p:Addr} {net:List Tr} (h:qBb H p net):DR K H (.ref p) (netD net):=by
 obtain ⟨as,h1,h2⟩:=h
 exact .lst (SqL.of h1) (drs_net h2)
def sumF (N:List Nat):List Nat:=N.foldl (fun S x=>S++S.map fun z=>z^^^x) [0]
theorem qDi (N:List Nat) (x:Nat):sumF (N++[x])=sumF N++(sumF N).map fun z=>z^^^x:=by unfold sumF;rw [hCg];rfl
theorem spn_snoc {l:List Nat} {x z:Nat}:Spn (l++[x]) z↔Spn l z\/Spn l (z^^^x):=by
 constructor
 ·intro h
  induction h with
  | zero=>exact .inl .zero
  | add hm _ ih =>
   rename_i m y _
   rcases hAf.mp hm with w | w
   ·rcases ih with i | i
    ·exact .inl (.add w i)
    ·refine .inr ?_
     have:=Spn.add w i
     rw [<-hC1] at this
     exact this
   ·rw [hA7] at w
    subst w
    rcases ih with i | i
    ·refine .inr ?_
     rw [hDg m y,qA0];exact i
    ·refine .inl ?_
     rw [hDg m y];exact i
 ·have up:∀ {y},Spn l y->Spn (l++[x]) y:=fun hy=>hy.mono fun u hu=>.mem (hAm _ hu)
  rintro (h | h)
  ·exact up h
  ·have:=(up h).xor (Spn.mem (by simp:x∈l++[x]))
   rw [qA0] at this
   exact this
theorem sumF_spn (N:List Nat):∀ z,z∈sumF N↔Spn N z:=by
 refine qFw (P:=fun N=>∀ z,z∈sumF N↔Spn N z) (fun z=>?_) (fun l x ih z=>?_) N
 ·constructor
  ·intro h
   have:z=0:=by simpa [sumF] using h
   rw [this];exact .zero
  ·intro h
   have:z=0:=by
    cases h with
    | zero=>rfl
    | add hm _=>cases hm
   rw [this];simp [sumF]
 ·rw [qDi,hAf,spn_snoc,ih,hAb]
  refine or_congr Iff.rfl ⟨fun ⟨y,hy,e⟩=>?_,fun h=>⟨z^^^x,(ih _).mpr h,qA0 z x⟩⟩
  rw [<-e,qA0];exact (ih y).mp hy
theorem sumF_len (N:List Nat):(sumF N).length=2^N.length:=by
 refine qFw (P:=fun N=>(sumF N).length=2^N.length) rfl (fun l x ih=>?_) N
 rw [qDi,hAc,hA1,ih,hAc]
 show _=2^(l.length+1)
 rw [Nat.pow_succ];omega
theorem len_lt {l:List Nat} (nd:l.Nodup) {m:Nat} (h:∀ x∈l,x<m):l.length<=m:=by
 have p:l.Perm ((List.range m).filter fun x=>decide (x∈l)):=(hBd nd (List.nodup_range.sublist hBk)).mpr fun a=>by
  rw [hAg,hBj,decide_eq_true_iff]
  exact ⟨fun ha=>⟨h a ha,ha⟩,fun ha=>ha.2⟩
 rw [p.length_eq]
 exact hAv (hAw _ _) (by rw [hCr];exact hA5 _)
abbrev RwO (F:List (List Str)):Prop:=F.Pairwise fun a b=>kLt b a=false
structure Kp (H H':Hp):Prop where
 k:∀ b o,(∀ ps,o≠.tbl ps)->H b=some o->H' b=some o
 n:∀ b,H' b=none->H b=none
theorem kp_B {P:Addr} {H H':Hp} {ps ps':Array Value} (e:ExtB P H H') (h:H P=some (.tbl ps)) (h':H' P=some (.tbl ps')):Kp H H':=by
 refine ⟨fun b o n q=>e b o (fun z=>by rw [z,h] at q;cases q;exact n _ rfl) q,fun b q=>?_⟩
 cases r:H b with
 | none=>rfl
 | some o =>
  have:=e b o (fun z=>by rw [z,h'] at q;cases q) r
  rw [q] at this;cases this
theorem Kp.lst {H H':Hp} (e:Kp H H') {a:Addr} {r:List V} (h:H a=some (.lst r)):H' a=some (.lst r):=e.k _ _ (fun _ z=>by cases z) h
theorem qCf {n:Nat} (h:n<=5000):n<sizeLine:=hDd h (by decide)
def Inn (z k:Nat):Prop:=∀ i,z.testBit i=true->k.testBit i=true
theorem inn_of {z k:Nat} (h:z&&&k=z):Inn z k:=fun i hi=>by
 rw [<-h,hDh,hBa] at hi
 exact hi.2
theorem inn_and {z k:Nat} (h:Inn z k):z&&&k=z:=hB3 fun i=>by
 rw [hDh]
 cases q:z.testBit i with
 | false=>rfl
 | true=>rw [h i q];rfl
theorem inn_trans {a b c:Nat} (h:Inn a b) (h':Inn b c):Inn a c:=fun i hi=>h' i (h i hi)
def Lst (N:List Nat) (t:Nat):Prop:=Spn N t/\t≠0/\∀ o,Spn N o->o≠0->Inn o t->o=t
theorem sumF_nd (S:List Nat):RR S->(sumF S).Nodup:=by
 refine qFw (P:=fun S=>RR S->(sumF S).Nodup) (fun _=>by show [0].Nodup;simp) (fun l x ih r=>?_) S
 have rl:RR l:=⟨fun s hs=>r.nz s (hAm _ hs),r.ap.sublist (List.sublist_append_left l [x])⟩
 have hx:x∈l++[x]:=hA6 _ (hA7.mpr rfl)
 have hap:=hAz.mp r.ap
 have bit:∀ s∈l,s.testBit x.log2=false:=fun s hs=>(hap.2.2 s hs x (hA7.mpr rfl)).2
 have sb:∀ z∈sumF l,z.testBit x.log2=false:=fun z hz=>spn_bit bit ((sumF_spn l z).mp hz)
 rw [qDi,hC8]
 refine ⟨ih rl,?_,fun a ha b hb e=>?_⟩
 ·refine hBt.mpr ((ih rl).imp fun {a b} ne e=>ne ?_)
  have:=congrArg (fun z=>z^^^x) e
  simp only [qA0] at this
  exact this
 ·obtain ⟨c,hc,rfl⟩:=hAb.mp hb
  have h1:=sb a ha
  rw [e,hAq,sb c hc,r.self hx] at h1
  cases h1
def rmOk (told:List Nat) (m:Nat):Bool:=!decide (m=0) && !(told.any fun o=>decide (o&&&m=o))
def rmS (told:List Nat) (m:Nat):List Nat:=if rmOk told m=true then told++[m] else told
def rmF (L:List Nat):List Nat:=L.foldl rmS []
theorem rmF_snoc (L:List Nat) (m:Nat):rmF (L++[m])=rmS (rmF L) m:=by unfold rmF;rw [hCg];rfl
theorem rmF_len (L:List Nat):(rmF L).length<=L.length:=by
 refine qFw (P:=fun L=>(rmF L).length<=L.length) (hA5 _) (fun l m ih=>?_) L
 rw [rmF_snoc]
 unfold rmS
 split
 ·rw [hAc,hAc];exact Nat.add_le_add_right ih 1
 ·rw [hAc];omega
theorem inn_le {a b:Nat} (h:Inn a b):a<=b:=by
 have:=inn_and h
 rw [<-this]
 exact Nat.and_le_right
theorem least_ex (P:List Nat):∀ (n y:Nat),y<n->y∈P->y≠0->∃ z∈P,z≠0/\Inn z y/\∀ w∈P,w≠0->Inn w z->w=z
 | 0,y,h,_,_=>absurd h (hC6 _)
 | n+1,y,h,hy,nz=>by
  by_cases c:∀ w∈P,w≠0->Inn w y->w=y
  ·exact ⟨y,hy,nz,fun _ z=>z,c⟩
  ·obtain ⟨w,hw⟩:=Classical.not_forall.mp c
   have hw:w∈P/\w≠0/\Inn w y/\w≠y:=by
    by_cases a:w∈P
    ·by_cases b:w≠0
     ·by_cases d:Inn w y
      ·exact ⟨a,b,d,fun e=>hw fun _ _ _=>e⟩
      ·exact absurd (fun _ _ q=>absurd q d) hw
     ·exact absurd (fun _ q _=>absurd q b) hw
    ·exact absurd (fun q _ _=>absurd q a) hw
   have lt:w<y:=Nat.lt_of_le_of_ne (inn_le hw.2.2.1) hw.2.2.2
   obtain ⟨z,z1,z2,z3,z4⟩:=least_ex P n w (by omega) hw.1 hw.2.1
   exact ⟨z,z1,z2,inn_trans z3 hw.2.2.1,z4⟩
theorem mem_rmF (L:List Nat):L.Pairwise (· < ·)->∀ z,z∈rmF L↔z∈L/\z≠0/\∀ y∈L,y≠0->Inn y z->y=z:=by
 refine qFw (P:=fun L=>L.Pairwise (· < ·)->∀ z,z∈rmF L↔z∈L/\z≠0/\∀ y∈L,y≠0->Inn y z->y=z) (fun _ z=>⟨fun h=>(by cases h),fun h=>(by cases h.1)⟩) (fun l m ih hp z=>?_) L
 obtain ⟨p1,_,p3⟩:=hAz.mp hp
 have below:∀ y∈l,y<m:=fun y hy=>p3 y hy m (hA7.mpr rfl)
 have ih:=ih p1
 have any:(rmF l).any (fun o=>decide (o&&&m=o))=true↔∃ o∈rmF l,Inn o m:=by
  rw [List.any_eq_true]
  exact ⟨fun ⟨o,h1,h2⟩=>⟨o,h1,inn_of (of_decide_eq_true h2)⟩,fun ⟨o,h1,h2⟩=>⟨o,h1,decide_eq_true (inn_and h2)⟩⟩
 have ok:rmOk (rmF l) m=true↔m≠0/\¬∃ o∈rmF l,Inn o m:=by
  unfold rmOk
  rw [hBa,<-any]
  simp
 have hS:z∈rmS (rmF l) m↔z∈rmF l\/(z=m/\rmOk (rmF l) m=true):=by
  unfold rmS
  split
  ·rename_i c
   rw [hAf,hA7]
   exact ⟨fun h=>h.imp id fun e=>⟨e,c⟩,fun h=>h.imp id fun e=>e.1⟩
  ·rename_i c
   exact ⟨fun h=>.inl h,fun h=>h.elim id fun e=>absurd e.2 c⟩
 rw [rmF_snoc,hS,ok]
 constructor
 ·rintro (h | ⟨rfl,h1,h2⟩)
  ·obtain ⟨a,b,c⟩:=(ih z).mp h
   refine ⟨hAm _ a,b,fun y hy nz hi=>?_⟩
   rcases hAf.mp hy with q | q
   ·exact c y q nz hi
   ·rw [hA7.mp q] at hi
    have:=inn_le hi
    have:=below z a
    omega
  ·refine ⟨by simp,h1,fun y hy nz hi=>?_⟩
   rcases hAf.mp hy with q | q
   ·obtain ⟨w,w1,w2,w3,w4⟩:=least_ex l (y+1) y (by omega) q nz
    exact absurd ⟨w,(ih w).mpr ⟨w1,w2,w4⟩,inn_trans w3 hi⟩ h2
   ·exact hA7.mp q
 ·rintro ⟨a,b,c⟩
  rcases hAf.mp a with q | q
  ·exact .inl ((ih z).mpr ⟨q,b,fun y hy=>c y (hAm _ hy)⟩)
  ·have e:=hA7.mp q
   subst e
   refine .inr ⟨rfl,b,?_⟩
   rintro ⟨o,h1,h2⟩
   obtain ⟨o1,o2,_⟩:=(ih o).mp h1
   have:=c o (hAm _ o1) o2 h2
   have:=below o o1
   omega
end My
namespace My
open PySem L2
def spSums:Sp:=fun vs H Q _=>∃ (p:Addr) (N:List Nat),vs=[.ref p]/\LsN H p N/\N.length<=12/\∀ r H',Ext H H'->H r=none->LsN H' r (sumF N)->Q (.ref r) H'
def lpI:Pos:=match (qAm qEf).getD 0 (.Pass ⟨0,0,0,0⟩) with
 | .Return (some (.Call _ _ [⟨_,.Lambda _ _ _ p,_⟩] _)) _=>p
 | _=>⟨0,0,0,0⟩
abbrev qI:Str:=("in_order" : Str)++".<locals>."++"<lambda>"
theorem Ext.toB {P:Addr} {H H':Hp} (e:Ext H H'):ExtB P H H':=fun b o _ h=>e b o h
theorem _root_.L2.ExtB.trans {P:Addr} {H H1 H2:Hp} (a:ExtB P H H1) (b:ExtB P H1 H2):ExtB P H H2:=fun c o n h=>b c o n (a c o n h)
theorem TabW.extE {H H':Hp} {P:Addr} {lpos:Pos} {q:Str} (h:TabW H P lpos q) (e:Ext H H'):TabW H' P lpos q:=h.ext e
theorem TabW.tb {H:Hp} {P:Addr} {lpos:Pos} {q:Str} (h:TabW H P lpos q):∃ ps,H P=some (.tbl ps):=by
 rcases h with h | ⟨c,h,_⟩
 ·exact ⟨_,h⟩
 ·exact ⟨_,h⟩
def spInOrd (Pt:Addr):Sp:=fun vs H Q _=>∃ (p:Addr) (F:List (List Str)),vs=[.ref p]/\RowsAt H p F/\F.length<=5000/\TabW H Pt lpI qI/\∀ (r:Addr) (F':List (List Str)) (H':Hp),ExtB Pt H H'->H r=none->RowsAt H' r F'->F'.Perm F->RwO F'->TabW H' Pt lpI qI->Q (.ref r) H'
theorem nat_ints {ns:List Int} {ms:List Nat} (p:ns.Perm (ms.map fun n:Nat=>(n:Int))):∃ hs:List Nat,ns=hs.map (fun n:Nat=>(n:Int))/\hs.Perm ms:=by
 refine ⟨ns.map Int.toNat,?_,?_⟩
 ·rw [hB4]
  refine (List.map_id' ns).symm.trans (hBy fun x hx=>?_)
  obtain ⟨n,_,rfl⟩:=hAb.mp (p.mem_iff.mp hx)
  rfl
 ·have:=p.map Int.toNat
  rw [hB4] at this
  refine this.trans (List.Perm.of_eq ?_)
  exact (hBy fun x _=>(hCq x)).trans (List.map_id' ms)
theorem Ext.over' {H H':Hp} {p:Addr} {o:HO} (e:Ext (upd H p o) H') (h:H p=Option.none):Ext H H':=fun b u q=>e b u (by rw [qAe (qAd q h)];exact q)
def spRMas:Sp:=fun vs H Q _=>∃ (p:Addr) (ms:List Nat),vs=[.ref p]/\LsN H p ms/\ms.length<=12/\∀ (r:Addr) (L:List Nat) (H':Hp),Ext H H'->H r=none->L.Perm (sumF ms)->L.Pairwise (·<=·)->LsN H' r (rmF L)->Q (.ref r) H'
def spRounds (Pt:Addr):Sp:=fun vs H Q _=>∃ (T:Addr) (names:List Str) (rows:List (List Str)),vs=[.ref T]/\TabIn H T names rows/\names.length<=12/\rows.length<=24/\TabW H Pt lpI qI/\∀ (r:Addr) (M L:List Nat) (F:List (List Str)) (H':Hp),ExtB Pt H H'->H r=none->RowsAt H' r F->M.Perm (red (rows.map (maskF names)))->L.Perm (sumF M)->L.Pairwise (·<=·)->F.Perm ((rmF L).map (rowM names))->RwO F->TabW H' Pt lpI qI->Q (.ref r) H'
def rLenS (K:PySem.W.Frag):List V->Hp->VK->Prop:=fun xs H Q=>∃ p ys,xs=[.ref p]/\(SqL K H p ys\/SqT K H p ys)/\Q (.int ys.length) H
theorem lam_te (K:PySem.W.Frag) (a:Addr) (t:List Str) (H:Hp) (Q:VK) (hs:SqL K H a (t.map V.str)) (q:∀ k,H k=none->Q (.ref k) (upd H k (.tup [.int t.length,.ref a]))):(tTup (qFv (tCB (rLenS K) (qFv (tVar 0) tNil)) (qFv (tVar 0) tNil))) [some (.ref a)] H Q:=by
 refine ⟨_,rfl,a,_,rfl,.inl hs,_,rfl,(by show 2<=sizeLine;decide),fun k hk=>?_⟩
 rw [hA1]
 exact q k hk
theorem qF9 {α β:Type} {R:α->β->Prop}:∀ {l:List (α×β)},(∀ x∈l,R x.1 x.2)->Paired R (l.map Prod.fst) (l.map Prod.snd)
 | [],_=>.nil
 | x :: l,h=>.cons (h x hA2) (qF9 fun y hy=>h y (hA4 _ hy))
theorem rr_len {M:List Nat} {m:Nat} (h:RR M) (lt:∀ x∈M,x<2^m):M.length<=m:=by
 have:=len_lt (ld_nd h) (m:=m) fun x hx=>by
  obtain ⟨s,hs,rfl⟩:=hAb.mp hx
  exact (Nat.log2_lt (h.nz s hs)).mpr (lt s hs)
 rw [hA1] at this
 exact this
theorem masks_lt {names:List Str} (rows:List (List Str)):∀ x∈rows.map (maskF names),x<2^names.length:=fun x hx=>by
 obtain ⟨r,_,rfl⟩:=hAb.mp hx
 exact qDo names r
theorem step_rr {names:List Str} {rows:List (List Str)} {M:List Nat} (p:M.Perm (red (rows.map (maskF names)))):RR M/\(∀ x∈M,x<2^names.length)/\M.length<=names.length:=by
 have rr:RR M:=(qC8 _).perm p
 have lt:∀ x∈M,x<2^names.length:=fun x hx=>red_lt (masks_lt rows) x (p.mem_iff.mp hx)
 exact ⟨rr,lt,rr_len rr lt⟩
section
variable {P:Program} {w:World} {K:PySem.W.Frag} {mg:Str->Option Value} {base:Heap} {f f1 f2 f3 f4 c Pt:Addr} {fd fd1 fd2 fd3 fd4:FuncData}
abbrev suN:List Str:=["masks","told","mask"]
theorem scSums:FnScope suN ["masks"] (qAb sSums):=⟨rfl,rfl,rfl,by decide +kernel,rfl,by decide +kernel,by decide +kernel⟩
theorem ok_sums (F:Fun K "sums" "sums" sSums f fd):FnOk P w K mg base CX0 1 f fd ["masks"] spSums:=by
 refine F.ok scSums (fun vs H Q E h=>?_) (fun cdv A outer s H vs Q E hr h=>?_)
 ·obtain ⟨p,N,rfl,_⟩:=h
  rfl
 obtain ⟨p,N,rfl,hN,lN,q⟩:=h
 refine ⟨_,pss_cons (qAp (i:=1) scSums.nd rfl (Or.inl rfl) (qCh (qAa qAg qAc))) (pss_cons (qBs PassesOwn.never rfl (qAs (pv 0)) (qAf (i:=2) scSums.nd rfl (Or.inr rfl)) (qAi (qAp (i:=1) scSums.nd rfl (Or.inl rfl) (qAo op_cat (pv 1) (pe_lc (N:=suN) (sc:=qAb sSums) (N':=["one","mask"]) (sub:=[none,some 2]) rfl rfl (CmpOk.of (by decide +kernel)) rfl (qAs (pv 1)) (fun C s H fp=>⟨qAf (i:=0) (by show (["one","mask"]:List Str).Nodup;decide) rfl (Or.inl rfl),qA4,(qAo op_xor (pv 0) (pv 1))⟩)))))) (qAi (qAv (pv 1)))),?_⟩
 refine ⟨(by show 1<=sizeLine;decide),fun s0 hs0=>?_⟩
 have X3:=Ext.new hs0 (.lst [V.int 0])
 refine ⟨_,rfl,p,rfl,⟨_,SqL.of (X3 _ _ hN)⟩,?_⟩
 refine qBz (xs:=N.map iV) (fun i σ H'=>∃ (ps:Addr) (x2:Option V),σ=[some (.ref p),some (.ref ps),x2]/\Ext H H'/\H ps=none/\LsN H' ps (sumF (N.take i))) ⟨s0,none,rfl,X3,hs0,upd_same⟩ (fun i σ H' _ h=>by obtain ⟨_,_,_,e,_⟩:=h;exact SqL.of (e _ _ hN)) ?_ ?_
 ·rintro i v σ H' hx ⟨ps,x2,rfl,e,ps0,hps⟩
  obtain ⟨y,rfl,hy⟩:=qCv hx
  have hi:=qAx hy
  have lS:(sumF (N.take i)).length<=2048:=by
   rw [sumF_len,hAh]
   exact hAv (hCo (by decide) (show min i N.length<=11 by omega)) (by decide)
  refine ⟨_,rfl,_,rfl,ps,rfl,⟨_,SqL.of hps⟩,?_⟩
  refine qAr (xs:=(sumF (N.take i)).map iV) (fun j ys H2=>H2=H'/\ys=(((sumF (N.take i)).take j).map fun z=>z^^^y).map iV) ⟨rfl,rfl⟩ (fun j ys H2 _ h=>by rw [h.1];exact SqL.of hps) ?_ ?_
  ·rintro j v ys H3 hx3 ⟨rfl,rfl⟩
   obtain ⟨z,rfl,hz⟩:=qCv hx3
   have hj:=qAx hz
   refine ⟨Sle.set _ (Sle.refl _) (fun u z=>by cases z),iteT (B:=False) ⟨_,rfl,_,rfl,_,_,rfl,rfl,?_⟩⟩
   refine ⟨by rw [hA1,hA1,hAh];exact qCf (by omega),nxt (qAx hx3) ⟨rfl,?_⟩⟩
   rw [qAj hz,hAa,hAa]
   show _++[V.int (Builtin.bitXor (z:Int) (y:Int))]=_
   rw [bxor_nat];rfl
  ·rintro ys H3 ⟨rfl,rfl⟩ l hl
   rw [hA1,hA8 (hA5 _)]
   have Xl:=Ext.new hl (.lst (((sumF (N.take i)).map fun z=>z^^^y).map iV))
   refine ⟨ps,l,_,_,rfl,rfl,Xl _ _ hps,upd_same,by rw [hA1,hA1,hA1];exact hBh (qCf (by omega)),fun l3 hl3=>?_⟩
   have X4:=Ext.new hl3 (.lst ((sumF (N.take i)).map iV++((sumF (N.take i)).map fun z=>z^^^y).map iV))
   refine ⟨l3,_,rfl,(e.trans Xl).trans X4,(e.trans Xl).none hl3,?_⟩
   unfold LsN
   rw [upd_same,qAj hy,qDi,hAa]
 rintro σ H3 ⟨ps,x2,rfl,e3,ps0,hps⟩
 rw [hA1,hA8 (hA5 _)] at hps
 exact ⟨_,rfl,q ps H3 e3 ps0 hps⟩
theorem scInOrd:FnScope ["rows"] ["rows"] (qAb qEf):=⟨rfl,rfl,rfl,by decide +kernel,rfl,by decide +kernel,by decide +kernel⟩
theorem ok_inOrd (F:Fun K "in_order" "in_order" qEf f fd) (hcode:fd.code = .ref c) (hC:PySem.W.CodeHd base c Pt) (hB:base.BuiltinsAt mg Pt) (ml:mg "len" = none) (mso:mg "sorted" = none):FnOk P w K mg base CX0 3 f fd ["rows"] (spInOrd Pt):=by
 refine F.okC scInOrd (fun vs H Q E h=>?_) (fun A outer s H vs Q E hr2 h=>?_)
 ·obtain ⟨p,F,rfl,_⟩:=h
  rfl
 obtain ⟨p,F,rfl,⟨as,hp,pr⟩,lF,tw,q⟩:=h
 have L:LamAt ((cxOf CX0 P w K mg base ["rows"] "in_order" (qAb qEf) f fd.code A outer s H E).nox) c Pt:=⟨hcode,hC,hB⟩
 refine ⟨_,qAi (qAv (pe_sortLamT (k:=0) (x:="row") (te:=(tTup (qFv (tCB (rLenS K) (qFv (tVar 0) tNil)) (qFv (tVar 0) tNil)))) L hr2 rfl mso (qAa (pv 0) qAc) ⟨rfl,rfl,rfl,by decide +kernel,rfl,by decide +kernel,by decide +kernel⟩ rfl rfl (fun _ _ _ _ _ _=>rfl) (fun _ _ _ _ _ _=>(show PE _ _ (tTup (qFv (tCB (rLenS K) (qFv (tVar 0) tNil)) (qFv (tVar 0) tNil))) from (qBu (qAa (qAn (show qBq _ (.builtin "len") (rLenS K) from qAw) rfl ml hBz (qAa (pv 0) qAc)) (qAa (pv 0) qAc))))) (lam_te K))),?_⟩
 have la:as.length=F.length:=pr.length
 have e1:(as.zip F).map (fun p=>V.ref p.1)=as.map V.ref:=by
  have:(as.zip F).map Prod.fst=as:=List.map_fst_zip (by omega)
  rw [show (fun p:Addr×List Str=>V.ref p.1)=V.ref∘Prod.fst from rfl,<-hB4,this]
 obtain ⟨tb,hP⟩:=My.TabW.tb tw
 refine ⟨_,rfl,p,as.zip F,rfl,SqL.of (by rw [e1];exact hp),fun x hx=>SqL.of (qC2 pr x hx),by rw [List.length_zip];omega,tw,fun r ps' H2 r0 eB hr' pm so tw2=>?_⟩
 have mem:∀ x∈ps',LsS H2 x.1 x.2:=fun x hx=>by
  have h1:LsS H x.1 x.2:=qC2 pr x (pm.mem_iff.mp hx)
  exact eB _ _ (fun z=>by rw [z] at h1;unfold LsS at h1;rw [hP] at h1;cases h1) h1
 refine q r (ps'.map Prod.snd) H2 eB r0 ⟨ps'.map Prod.fst,by rw [hB4];exact hr',qF9 mem⟩ ?_ (hBt.mpr so) tw2
 have:=pm.map Prod.snd
 rw [hDb (by omega)] at this
 exact this
abbrev rmN:List Str:=["steps","told","mask"]
theorem scRMas:FnScope rmN ["steps"] (qAb sRMas):=⟨rfl,rfl,rfl,by decide +kernel,rfl,by decide +kernel,by decide +kernel⟩
theorem ok_rmas (F:Fun K "round_masks" "round_masks" sRMas f fd)
  (G1:FnOk P w K mg base CX0 1 f1 fd1 ["masks"] spSums) (bG1:qA7 K fd1 ["masks"] []) (kG1:PySem.W.keepIn K (.ref f1)=true) (mG1:mg "sums" = some (.ref f1))
  (mso:mg "sorted" = none) (man:mg "any" = none):FnOk P w K mg base CX0 2 f fd ["steps"] spRMas:=by
 refine F.ok scRMas (fun vs H Q E h=>?_) (fun cdv A outer s H vs Q E hr1 h=>?_)
 ·obtain ⟨p,ms,rfl,_⟩:=h
  rfl
 obtain ⟨p,ms,rfl,hm,lm,q⟩:=h
 refine ⟨_,pss_cons (qAp (i:=1) scRMas.nd rfl (Or.inl rfl) (qCh qAc)) (pss_cons (qBs PassesOwn.never rfl (qAs (qAn call_sortedN rfl mso qBj (qAa (qAl G1 hr1 rfl mG1 kG1 bG1 .nil qA5 (qAa (pv 0) qAc)) qAc))) (qAf (i:=2) scRMas.nd rfl (Or.inr rfl)) (qAi (qD1 (PW.pt (pw_and (qAu op_ne (pv 2) qAg (qA1 _)) (pw_and1 (pt_not (pt_val (qAn (call_anyB rfl) rfl man boot_any' (qAa (pe_lc (N:=rmN) (sc:=qAb sRMas) (N':=["one","mask"]) (sub:=[none,some 2]) rfl rfl (CmpOk.of (by decide +kernel)) rfl (qAs (pv 1)) (fun C s H fp=>⟨qAf (i:=0) (by show (["one","mask"]:List Str).Nodup;decide) rfl (Or.inl rfl),qA4,(qCt qDm (qAo op_and (pv 0) (pv 1)) (pv 0) (qA1 _))⟩)) qAc))))))) (qAi (qCs (pe_bm hBo hBv hBw qB4 (pv 1) (qAa (pv 2) qAc)))) qBr))) (qAi (qAv (pv 1)))),?_⟩
 refine ⟨hAt _,fun tl htl=>?_⟩
 have X0:=Ext.new htl (.lst [])
 refine ⟨_,rfl,p,ms,rfl,X0 _ _ hm,lm,fun sp H1 e1 _ hs1=>?_⟩
 have lS:(sumF ms).length<=4096:=by
  rw [sumF_len]
  exact hAv (hCo (by decide) lm) (by decide)
 refine ⟨sp,(sumF ms).map (fun n:Nat=>(n:Int)),rfl,SqL.of (by rw [<-qD6];exact hs1),by rw [hA1];omega,fun rl ns' hrl pm so=>?_⟩
 obtain ⟨L,rfl,pL⟩:=nat_ints pm
 have so':L.Pairwise (·<=·):=(hBt.mp so).imp fun {a b} z=>Int.ofNat_le.mp z
 have lL:L.length<=4096:=by rw [pL.length_eq];exact lS
 have X2:=Ext.new hrl (.lst ((L.map fun n:Nat=>(n:Int)).map V.int))
 have hr2:LsN (upd H1 rl (.lst ((L.map fun n:Nat=>(n:Int)).map V.int))) rl L:=by unfold LsN;rw [upd_same,qD6]
 have ht2:LsN (upd H1 rl (.lst ((L.map fun n:Nat=>(n:Int)).map V.int))) tl []:=X2 _ _ (e1 _ _ upd_same)
 have E2:=(e1.trans X2).over' htl
 revert hr2 ht2 E2
 generalize upd H1 rl (.lst ((L.map fun n:Nat=>(n:Int)).map V.int))=H2
 intro hr2 ht2 E2
 have tr:tl≠rl:=fun z=>by
  have h1:=e1 _ _ (show upd H tl (.lst []) tl=some (.lst []) from upd_same)
  rw [z,hrl] at h1;cases h1
 refine ⟨rl,rfl,⟨_,SqL.of hr2⟩,?_⟩
 refine qBz (xs:=L.map iV) (fun i σ H'=>∃ x2:Option V,σ=[some (.ref p),some (.ref tl),x2]/\Ext H H'/\LsN H' rl L/\LsN H' tl (rmF (L.take i))) ⟨none,rfl,E2,hr2,ht2⟩ (fun i σ H' _ h=>by obtain ⟨_,_,_,h,_⟩:=h;exact SqL.of h) ?_ ?_
 ·rintro i v σ H' hx ⟨x2,rfl,e,hr',ht'⟩
  obtain ⟨m,rfl,hmi⟩:=qCv hx
  have hi:=qAx hmi
  have sz:(rmF (L.take i)).length<=4096:=by
   have:=rmF_len (L.take i)
   rw [hAh] at this
   omega
  rw [qAj hmi,rmF_snoc]
  have nz:(!decide (V.int (m:Int)=V.int 0))=!decide (m=0):=by
   congr 1
   exact decide_eq_decide.mpr ⟨fun h=>by have:=V.int.inj h;omega,fun h=>by rw [h];rfl⟩
  refine ⟨_,rfl,rfl,_,rfl,?_⟩
  rw [nz]
  cases m0:decide (m=0) with
  | true =>
   have:rmS (rmF (L.take i)) m=rmF (L.take i):=by
    unfold rmS rmOk
    rw [m0];rfl
   rw [this]
   rw [if_neg (by decide)]
   exact iteF ⟨_,rfl,e,hr',ht'⟩
  | false =>
   rw [if_pos (by decide)]
   refine ⟨_,rfl,tl,rfl,⟨_,SqL.of ht'⟩,?_⟩
   refine qAr (xs:=(rmF (L.take i)).map iV) (fun j ys H3=>H3=H'/\ys=(((rmF (L.take i)).take j).map fun o=>decide (o&&&m=o)).map V.bl) ⟨rfl,rfl⟩ (fun j ys H3 _ h=>by rw [h.1];exact SqL.of ht') ?_ ?_
   ·rintro j v ys H3 hx3 ⟨rfl,rfl⟩
    obtain ⟨o,rfl,ho⟩:=qCv hx3
    have hj:=qAx ho
    refine ⟨Sle.set _ (Sle.refl _) (fun u z=>by cases z),iteT (B:=False) ⟨_,rfl,_,rfl,_,_,rfl,rfl,_,rfl,rfl,?_⟩⟩
    refine ⟨by rw [hA1,hA1,hAh];exact qCf (by omega),nxt (qAx hx3) ⟨rfl,?_⟩⟩
    rw [qAj ho,hAa,hAa]
    show _++[V.bl (decide (V.int (Builtin.bitAnd (o:Int) (m:Int))=V.int (o:Int)))]=_
    have eo:decide (V.int ((o&&&m:Nat):Int)=V.int (o:Int))=decide (o&&&m=o):=decide_eq_decide.mpr ⟨fun h=>Int.ofNat.inj (V.int.inj h),fun h=>by rw [h]⟩
    rw [qCn,eo]
    rfl
   ·rintro ys H3 ⟨rfl,rfl⟩ bl hbl
    rw [hA1,hA8 (hA5 _)]
    have Xb:=Ext.new hbl (.lst (((rmF (L.take i)).map fun o=>decide (o&&&m=o)).map V.bl))
    refine ⟨bl,_,rfl,SqL.of upd_same,_,rfl,?_⟩
    have ea:((rmF (L.take i)).map fun o=>decide (o&&&m=o)).any id=(rmF (L.take i)).any fun o=>decide (o&&&m=o):=by rw [List.any_map];rfl
    rw [ea]
    have ok:rmOk (rmF (L.take i)) m=!((rmF (L.take i)).any fun o=>decide (o&&&m=o)):=by
     unfold rmOk
     rw [m0];rfl
    refine qFl (fun c=>?_) (fun c=>?_)
    ·refine ⟨_,rfl,.inl ⟨rfl,_,SqL.of (Xb _ _ ht')⟩,_,rfl,tl,_,_,rfl,rfl,Xb _ _ ht',(by rw [hA1];exact qCf (by omega)),?_⟩
     refine ⟨_,rfl,(e.trans Xb).over htl _,?_,?_⟩
     ·unfold LsN
      rw [qAe (Ne.symm tr)];exact Xb _ _ hr'
     ·unfold LsN rmS
      rw [upd_same,ok,if_pos c,hAa];rfl
    ·refine ⟨_,rfl,e.trans Xb,Xb _ _ hr',?_⟩
     unfold rmS
     rw [ok,if_neg c]
     exact Xb _ _ ht'
 rintro σ H3 ⟨x2,rfl,e3,hr3,ht3⟩
 rw [hA1,hA8 (hA5 _)] at ht3
 exact ⟨_,rfl,q tl L H3 e3 htl pL so' ht3⟩
theorem scRounds:FnScope ["table"] ["table"] (qAb qDa):=⟨rfl,rfl,rfl,by decide +kernel,rfl,by decide +kernel,by decide +kernel⟩
theorem ok_rounds (F:Fun K "rounds" "rounds" qDa f fd)
  (G1:FnOk P w K mg base CX0 3 f1 fd1 ["rows"] (spInOrd Pt)) (bG1:qA7 K fd1 ["rows"] []) (kG1:PySem.W.keepIn K (.ref f1)=true) (mG1:mg "in_order" = some (.ref f1))
  (G2:FnOk P w K mg base CX0 2 f2 fd2 ["steps"] spRMas) (bG2:qA7 K fd2 ["steps"] []) (kG2:PySem.W.keepIn K (.ref f2)=true) (mG2:mg "round_masks" = some (.ref f2))
  (G3:FnOk P w K mg base CX0 3 f3 fd3 ["table"] spStepM) (bG3:qA7 K fd3 ["table"] []) (kG3:PySem.W.keepIn K (.ref f3)=true) (mG3:mg "step_masks" = some (.ref f3))
  (G4:FnOk P w K mg base CX0 1 f4 fd4 ["names","mask"] spRowOf) (bG4:qA7 K fd4 ["names","mask"] []) (kG4:PySem.W.keepIn K (.ref f4)=true) (mG4:mg "row_of" = some (.ref f4)):FnOk P w K mg base CX0 4 f fd ["table"] (spRounds Pt):=by
 refine F.ok scRounds (fun vs H Q E h=>?_) (fun cdv A outer s H vs Q E hr3 h=>?_)
 ·obtain ⟨T,names,rows,rfl,_⟩:=h
  rfl
 obtain ⟨T,names,rows,rfl,ti,ln,lr,tw,q⟩:=h
 have hr1:=hr3.mono (j:=1) (by decide)
 have hr2:=hr3.mono (j:=2) (by decide)
 refine ⟨_,qAi (qAv (qAl G1 hr3 rfl mG1 kG1 bG1 .nil qA5 (qAa (pe_lc (N:=["table"]) (sc:=qAb qDa) (N':=["mask","table"]) (sub:=[none,some 0]) rfl rfl (CmpOk.of (by decide +kernel)) rfl (qAs (qAl G2 hr2 rfl mG2 kG2 bG2 .nil qA5 (qAa (qAl G3 hr3 rfl mG3 kG3 bG3 .nil qA5 (qAa (pv 0) qAc)) qAc))) (fun C s H fp=>⟨qAf (i:=0) (by show (["mask","table"]:List Str).Nodup;decide) rfl (Or.inl rfl),qA4,(qAl G4 hr1 rfl mG4 kG4 bG4 .nil qA5 (qAa (pe_ix (show IxR _ (rIxT K) from qBw) (pv 1) qAg (fun _ _=>rfl)) (qAa (pv 0) qAc)))⟩)) qAc))),?_⟩
 obtain ⟨na,nb,hT,hna,_⟩:=id ti
 refine ⟨_,rfl,T,names,rows,rfl,ti,lr,fun sm M H1 e1 _ hM pM dM=>?_⟩
 obtain ⟨_,_,lM⟩:=step_rr pM
 refine ⟨sm,M,rfl,hM,by omega,fun rm L H2 e2 _ pL so hL=>?_⟩
 have E2:=e1.trans e2
 have lL:(rmF L).length<=4096:=by
  refine hAv (rmF_len L) ?_
  rw [pL.length_eq,sumF_len]
  exact hAv (hCo (by decide) (show M.length<=12 by omega)) (by decide)
 refine ⟨rm,rfl,⟨_,SqL.of hL⟩,?_⟩
 refine qAr (xs:=(rmF L).map iV) (fun j ys H3=>Ext H2 H3/\∃ as,ys=as.map V.ref/\Paired (LsS H3) as (((rmF L).take j).map (rowM names))) ⟨Ext.refl _,[],rfl,.nil⟩ (fun j ys H3 _ h=>SqL.of (h.1 _ _ hL)) ?_ ?_
 ·rintro j v ys H3 hx ⟨e3,as,rfl,pr⟩
  obtain ⟨x,rfl,hx'⟩:=qCv hx
  have hj:=qAx hx'
  have la:as.length=_:=pr.length
  rw [hA1,hAh] at la
  have E3:=E2.trans e3
  refine ⟨Sle.set _ (Sle.refl _) (fun u z=>by cases z),iteT (B:=False) ⟨_,rfl,T,_,_,_,rfl,rfl,SqT.of (E3 _ _ hT),(by exact atI_nat (j:=0) rfl),_,rfl,na,names,x,rfl,E3 _ _ hna,ln,fun r4 H4 e4 r40 h4=>⟨?_,nxt (qAx hx) ⟨e3.trans e4,as++[r4],by rw [hAa];rfl,?_⟩⟩⟩⟩
  ·rw [hA1];exact qCf (by omega)
  ·rw [qAj hx',hAa]
   exact Paired.snoc (Paired.mapP pr fun a t z=>e4 _ _ z) h4
 ·rintro ys H3 ⟨e3,as,rfl,pr⟩ b hb
  rw [hA1,hA8 (hA5 _)] at pr
  have Xb:=Ext.new hb (.lst (as.map V.ref))
  have E4:=(E2.trans e3).trans Xb
  refine ⟨b,(rmF L).map (rowM names),rfl,⟨as,upd_same,Paired.mapP pr fun a t z=>Xb _ _ z⟩,by rw [hA1];omega,My.TabW.extE tw E4,fun r F H5 eB r0 hr' pF soF tw5=>?_⟩
  exact q r M L F H5 (ExtB.trans E4.toB eB) (E4.none r0) hr' pM pL so pF soF tw5
end
end My
namespace My
open PySem L2
open Classical in
theorem rr_one {a:List Nat} (ha:RR a) {c:Nat} (hc:c≠0) (h:∀ y,Spn a y->y=0\/y=c):a.length=if Spn a c then 1 else 0:=by
 match a,ha,h with
 | [],_,_ =>
  rw [if_neg]
  ·rfl
  ·intro z
   have:∀ y,Spn [] y->y=0:=fun y hy=>by
    induction hy with
    | zero=>rfl
    | add m=>cases m
   exact hc (this c z)
 | [x],ha,h =>
  have e:x=c:=(h x (.mem hA2)).resolve_left (ha.nz x hA2)
  rw [if_pos (by rw [<-e];exact .mem hA2)]
  rfl
 | x :: y :: l,ha,h =>
  have e1:x=c:=(h x (.mem hA2)).resolve_left (ha.nz x hA2)
  have e2:y=c:=(h y (.mem (by simp))).resolve_left (ha.nz y (by simp))
  have nd:=ha.nd
  rw [e1,e2] at nd
  simp at nd
theorem sub_uniq {α:Type}:∀ {l a b:List α},l.Nodup->a.Sublist l->b.Sublist l->(∀ x,x∈a↔x∈b)->a=b
 | [],a,b,_,ha,hb,_=>by rw [List.sublist_nil.mp ha,List.sublist_nil.mp hb]
 | y :: l,a,b,nd,ha,hb,h=>by
  obtain ⟨ny,nl⟩:=hB0.mp nd
  rcases List.sublist_cons_iff.mp ha with ha2 | ⟨a',ea,ha2⟩
  ·rcases List.sublist_cons_iff.mp hb with hb2 | ⟨b',eb,hb2⟩
   ·exact sub_uniq nl ha2 hb2 h
   ·exact absurd (ha2.subset ((h y).mpr (by rw [eb];exact hA2))) ny
  ·rcases List.sublist_cons_iff.mp hb with hb2 | ⟨b',eb,hb2⟩
   ·exact absurd (hb2.subset ((h y).mp (by rw [ea];exact hA2))) ny
   ·rw [ea,eb] at h ⊢
    have e:a'=b':=sub_uniq nl ha2 hb2 fun x=>by
     constructor
     ·intro hx
      rcases hA9.mp ((h x).mp (hA4 _ hx)) with e | e
      ·exact absurd (by rw [<-e];exact ha2.subset hx) ny
      ·exact e
     ·intro hx
      rcases hA9.mp ((h x).mpr (hA4 _ hx)) with e | e
      ·exact absurd (by rw [<-e];exact hb2.subset hx) ny
      ·exact e
    rw [e]
theorem range_get {α:Type} (l:List α):∀ j,j<=l.length->(List.range j).filterMap (fun i=>l[i]?)=l.take j
 | 0,_=>rfl
 | j+1,h=>by
  rw [List.range_succ,List.filterMap_append,range_get l j (by omega),List.take_succ]
  have e:=hA3 (l:=l) (i:=j) (by omega)
  simp [e]
theorem qBl {α β:Type} (c:α->Prop) [DecidablePred c] (f:α->Option β):∀ l:List α,(l.filterMap fun i=>if c i then f i else none).Sublist (l.filterMap f)
 | []=>List.Sublist.refl _
 | a :: l=>by
  rw [hCt,hCt]
  by_cases h:c a
  ·rw [if_pos h]
   cases f a with
   | none=>exact qBl c f l
   | some b=>exact (qBl c f l).cons_cons b
  ·rw [if_neg h]
   cases f a with
   | none=>exact qBl c f l
   | some b=>exact (qBl c f l).cons b
theorem rowM_subl (names:List Str) (z:Nat):(rowM names z).Sublist names:=by
 unfold rowM
 have h:=qBl (fun i=>z.testBit (names.length - 1 - i)=true) (fun i=>names[i]?) (List.range names.length)
 rw [range_get names _ (hA5 _),hA8 (hA5 _)] at h
 exact h
theorem perm_spn {a b:List Nat} (p:a.Perm b) (y:Nat):Spn a y↔Spn b y:=⟨fun h=>h.mono fun u hu=>.mem (p.mem_iff.mp hu),fun h=>h.mono fun u hu=>.mem (p.mem_iff.mpr hu)⟩
theorem evP_xor (r r':Str->Bool) (x:Str):∀ l:List Tr,evP l (fun n=>r n ^^ r' n) x=(evP l r x ^^ evP l r' x)
 | []=>rfl
 | u :: l=>by
  show (((r u.1 ^^ r' u.1) && atX x u) ^^ evP l (fun n=>r n ^^ r' n) x)=(((r u.1 && atX x u) ^^ evP l r x) ^^ ((r' u.1 && atX x u) ^^ evP l r' x))
  rw [evP_xor r r' x l]
  cases r u.1 <;> cases r' u.1 <;> cases atX x u <;> cases evP l r x <;> cases evP l r' x <;> rfl
theorem qEx {r:Str->Bool} {x:Str}:∀ {l:List Tr},(∀ t∈l,r t.1=true->atX x t=false)->evP l r x=false
 | [],_=>rfl
 | u :: l,h=>by
  show ((r u.1 && atX x u) ^^ evP l r x)=false
  rw [qEx fun t ht=>h t (hA4 _ ht)]
  have:=h u hA2
  cases e:r u.1
  ·rfl
  ·rw [this e];rfl
theorem evP_same {r:Str->Bool} {b:Bool} {x:Str}:∀ {l:List Tr},(∀ t∈l,atX x t=true->r t.1=b)->evP l r x=(b && evP l (fun _=>true) x)
 | [],_=>by cases b <;> rfl
 | u :: l,h=>by
  show ((r u.1 && atX x u) ^^ evP l r x)=(b && ((true && atX x u) ^^ evP l (fun _=>true) x))
  rw [evP_same fun t ht=>h t (hA4 _ ht)]
  have:=h u hA2
  cases e:atX x u
  ·cases b <;> cases r u.1 <;> cases evP l (fun _=>true) x <;> rfl
  ·rw [this e];cases b <;> cases evP l (fun _=>true) x <;> rfl
theorem evP_one {t:Tr} (x:Str):∀ {l:List Tr},(nmS l).Nodup->t∈l->evP l (fun n=>decide (n=t.1)) x=atX x t
 | [],_,h=>by cases h
 | u :: l,nd,h=>by
  obtain ⟨h1,h2⟩:=hB0.mp nd
  show ((decide (u.1=t.1) && atX x u) ^^ evP l (fun n=>decide (n=t.1)) x)=atX x t
  rcases hA9.mp h with e | e
  ·subst e
   rw [decide_eq_true rfl,qEx (l:=l) fun v hv e=>?_]
   ·cases atX x t <;> rfl
   ·exact absurd (hAb.mpr ⟨v,hv,of_decide_eq_true e⟩) h1
  ·rw [evP_one x h2 e,decide_eq_false (fun z:u.1=t.1=>h1 (by show u.1∈_;rw [z];exact hAb.mpr ⟨t,e,rfl⟩))]
   cases atX x t <;> rfl
def qEr (net:List Tr) (row:List Str):List Tr:=net.filter fun t=>decide (t.1∈row)
structure Min (N:List Tr):Prop where
 ne:N≠[]
 ev:∀ x,evP N (fun _=>true) x=false
 mn:∀ r:Str->Bool,(∀ x,evP N r x=false)->(∃ t∈N,r t.1=true)->∀ t∈N,r t.1=true
theorem sub_names {net:List Tr} {row:List Str} (nd:(nmS net).Nodup) (h:row.Sublist (nmS net)):nmS (qEr net row)=row:=by
 refine sub_uniq nd (hBk.map _) h fun x=>?_
 rw [hAb]
 constructor
 ·rintro ⟨t,ht,rfl⟩
  exact of_decide_eq_true (hAg.mp ht).2
 ·intro hx
  obtain ⟨t,ht,e⟩:=hAb.mp (h.subset hx)
  exact ⟨t,hAg.mpr ⟨ht,decide_eq_true (by rw [e];exact hx)⟩,e⟩
section
variable {net:List Tr} {ps:List Str} {S M:List Nat}
theorem chi_ne {names:List Str} (nd:names.Nodup) {z:Nat} (hz:z<2^names.length) (nz:z≠0):∃ n∈names,chi names z n=true:=by
 cases q:rowM names z with
 | nil =>
  have:=qDn nd hz
  rw [q,mask_nil] at this
  exact absurd this.symm nz
 | cons n r =>
  have h:n∈rowM names z:=by rw [q];exact hA2
  exact ⟨n,rowM_sub h,decide_eq_true h⟩
theorem sub_ev (r:Str->Bool) (row:List Str) (x:Str):evP (qEr net row) r x=evP net (fun n=>r n && decide (n∈row)) x:=by
 rw [<-qGk (r:=fun n=>r n && decide (n∈row)) (fun t=>decide (t.1∈row)) x (l:=net) fun t _ h=>by rw [h,Bool.and_false]]
 exact qB7 x fun t ht=>by rw [(hAg.mp ht).2,Bool.and_true]
theorem cyc_of (nd:(nmS net).Nodup) (r:Str->Bool) (h:∀ x,evP net r x=false):Cyc net (maskF (nmS net) ((nmS net).filter r)):=by
 refine ⟨by have:=qDo (nmS net) ((nmS net).filter r);rw [hA1] at this;exact this,fun x=>?_⟩
 rw [<-h x]
 refine qB7 x fun t ht=>?_
 have tm:t.1∈nmS net:=hAb.mpr ⟨t,ht,rfl⟩
 rw [chi_mask nd _ tm]
 cases e:r t.1
 ·exact decide_eq_false fun z=>by have:=(hAg.mp z).2;rw [e] at this;cases this
 ·exact decide_eq_true (hAg.mpr ⟨tm,e⟩)
theorem inn_chi {names:List Str} (nd:names.Nodup) {y z:Nat} (hy:y<2^names.length) (h:∀ n∈names,chi names y n=true->chi names z n=true):Inn y z:=fun j hj=>by
 have jl:j<names.length:=hBs fun c=>by rw [qDh hy (by omega)] at hj;cases hj
 have e:=hA3 (l:=names) (i:=names.length - 1 - j) (by omega)
 have c1:=chi_at nd (z:=y) e
 have c2:=chi_at nd (z:=z) e
 rw [show names.length - 1 - (names.length - 1 - j)=j by omega] at c1 c2
 rw [<-c2]
 exact h _ (hBf _) (c1.trans hj)
theorem min_of (h:Tb net ps S M) {z:Nat} (hz:Lst M z):Min (qEr net (rowM (nmS net) z))/\nmS (qEr net (rowM (nmS net) z))=rowM (nmS net) z:=by
 have nd:=qCr h.rs
 obtain ⟨h1,nz,h2⟩:=hz
 obtain ⟨zl,ze⟩:=(h.spn z).mp h1
 have zl':z<2^(nmS net).length:=by rw [hA1];exact zl
 have sn:=sub_names nd (rowM_subl (nmS net) z)
 refine ⟨⟨fun e=>?_,fun x=>?_,fun r hr ⟨t,ht,rt⟩ u hu=>?_⟩,sn⟩
 ·rw [e] at sn
  have:=qDn nd zl'
  rw [<-sn] at this
  exact nz (this.symm.trans (mask_nil _))
 ·rw [sub_ev]
  exact (qB7 x fun t _=>hCy _).trans (ze x)
 ·have c:=cyc_of nd (fun n=>r n && decide (n∈rowM (nmS net) z)) fun x=>by rw [<-sub_ev];exact hr x
  have cm:∀ v∈net,chi (nmS net) (maskF (nmS net) ((nmS net).filter fun n=>r n && decide (n∈rowM (nmS net) z))) v.1=(r v.1 && decide (v.1∈rowM (nmS net) z)):=fun v hv=>by
   have vm:v.1∈nmS net:=hAb.mpr ⟨v,hv,rfl⟩
   rw [chi_mask nd _ vm]
   cases e:(r v.1 && decide (v.1∈rowM (nmS net) z))
   ·exact decide_eq_false fun q=>by have:=(hAg.mp q).2;rw [e] at this;cases this
   ·exact decide_eq_true (hAg.mpr ⟨vm,e⟩)
  obtain ⟨t1,t2⟩:=hAg.mp ht
  obtain ⟨u1,u2⟩:=hAg.mp hu
  have e:=h2 _ ((h.spn _).mpr c) (fun e0=>?_) (inn_chi nd (qDo _ _) fun n hn hc=>?_)
  ·have:=cm u u1
   rw [e,show chi (nmS net) z u.1=true from u2,show decide (u.1∈rowM (nmS net) z)=true from u2,Bool.and_true] at this
   exact this.symm
  ·have:=cm t t1
   rw [e0,rt,show decide (t.1∈rowM (nmS net) z)=true from t2] at this
   rw [show chi (nmS net) 0 t.1=false by show decide _=_;rw [row_zero];rfl] at this
   cases this
  ·obtain ⟨v,hv,rfl⟩:=hAb.mp hn
   rw [cm v hv,hBa] at hc
   exact hc.2
end
section
variable {N:List Tr}
theorem Min.piece (h:Min N) (nd:(nmS N).Nodup):(PCK (lbF N) N).length=1:=by
 obtain ⟨t0,r0,e0⟩:∃ t r,N=t :: r:=by cases e:N with | nil=>exact absurd e h.ne | cons t r=>exact ⟨t,r,rfl⟩
 have t0m:t0∈N:=by rw [e0];exact hA2
 have hr:∀ t∈N,decide (∃ u∈N,u.1=t.1/\lbF N u=lbF N t0)=decide (lbF N t=lbF N t0):=fun t ht=>decide_eq_decide.mpr ⟨fun ⟨u,hu,e1,e2⟩=>by rw [nm_inj nd hu ht e1] at e2;exact e2,fun e=>⟨t,ht,rfl,e⟩⟩
 have all:=h.mn (fun n=>decide (∃ u∈N,u.1=n/\lbF N u=lbF N t0)) (fun x=>by
  rw [evP_same (b:=decide (homF N x=lbF N t0)) fun t ht hx=>?_,h.ev x,Bool.and_false]
  rw [hr t ht]
  have:homF N x=lbF N t:=by
   unfold atX at hx
   by_cases c:t.2.1=x
   ·rw [<-c]
   ·rw [decide_eq_false c,Bool.false_xor] at hx
    rw [<-of_decide_eq_true hx]
    exact (homF_tie N t ht).symm
  rw [this]) ⟨t0,t0m,by rw [hr t0 t0m];exact decide_eq_true rfl⟩
 obtain ⟨k1,k2⟩:=qDs (lbF N) N
 have e:(PCK (lbF N) N).map (·.1)=[lbF N t0]:=by
  refine List.perm_singleton.mp ((hBd k1 (by simp)).mpr fun x=>?_)
  rw [k2,hA7]
  constructor
  ·rintro ⟨t,ht,rfl⟩
   have:=all t ht
   rw [hr t ht] at this
   exact of_decide_eq_true this
  ·rintro rfl
   exact ⟨t0,t0m,rfl⟩
 have:=congrArg List.length e
 rw [hA1] at this
 exact this
theorem tb_ex {ps:List Str} (rs:qFz (nmS N)) (pk:qEa N ps):∃ S M,Tb N ps S M:=by
 refine ⟨_,(red (qCx (red (ps.map fun x=>maskF (nmS N) (metF N x))) N.length)).mergeSort fun a b=>decide (b<=a),rs,pk,hCi _,List.mergeSort_perm _ _,?_⟩
 have:=List.pairwise_mergeSort (le:=fun a b:Nat=>decide (b<=a)) (fun a b c h1 h2=>by simp at *;omega) (fun a b=>by simp;omega) (red (qCx (red (ps.map fun x=>maskF (nmS N) (metF N x))) N.length))
 exact this.imp fun {a b} h=>of_decide_eq_true h
theorem full_ne (hN:N≠[]) (nd:(nmS N).Nodup):maskF (nmS N) (nmS N)≠0:=fun e=>by
 cases q:N with
 | nil=>exact hN q
 | cons t r =>
  have tm:t.1∈nmS N:=by rw [q];exact hA2
  have:=chi_mask nd (nmS N) tm
  rw [e,decide_eq_true tm] at this
  rw [show chi (nmS N) 0 t.1=false by show decide _=_;rw [row_zero];rfl] at this
  cases this
theorem cyc_full (ev:∀ x,evP N (fun _=>true) x=false) (nd:(nmS N).Nodup):Cyc N (maskF (nmS N) (nmS N)):=by
 have:=cyc_of nd (fun _=>true) ev
 rw [show (nmS N).filter (fun _=>true)=nmS N from hDp.mpr fun _ _=>rfl] at this
 exact this
theorem Min.dim (h:Min N) {ps:List Str} {S M:List Nat} (tb:Tb N ps S M):M.length=1:=by
 have nd:=qCr tb.rs
 have rr:RR M:=(qC8 _).perm tb.pM
 have fs:Spn M (maskF (nmS N) (nmS N)):=(tb.spn _).mpr (cyc_full h.ev nd)
 have:=rr_one rr (full_ne h.ne nd) fun y hy=>by
  by_cases y0:y=0
  ·exact .inl y0
  ·right
   obtain ⟨yl,ye⟩:=(tb.spn y).mp hy
   have yl':y<2^(nmS N).length:=by rw [hA1];exact yl
   obtain ⟨n,hn,hc⟩:=chi_ne nd yl' y0
   obtain ⟨t,ht,rfl⟩:=hAb.mp hn
   have all:=h.mn (chi (nmS N) y) ye ⟨t,ht,hc⟩
   rw [<-qDn nd yl']
   exact mask_ext fun n hn=>by
    obtain ⟨t,ht,rfl⟩:=hAb.mp hn
    exact ⟨fun _=>hn,fun _=>of_decide_eq_true (all t ht)⟩
 rw [if_pos fs] at this
 exact this
theorem star_par (x:Str):∀ N:List Tr,evP N (fun _=>true) x=decide ((starF N x).length % 2=1):=by
 refine qBo (P:=fun N=>evP N (fun _=>true) x=decide ((starF N x).length % 2=1)) rfl fun l t ih=>?_
 rw [evP_snoc,ih,qCz,hAc]
 unfold atX stT
 by_cases a:t.2.1=x
 ·by_cases b:t.2.2=x
  ·rw [if_pos a,if_pos b,decide_eq_true a,decide_eq_true b]
   have:((starF l x).length+([t.1]++[t.1]).length) % 2=(starF l x).length % 2:=by simp
   rw [this];simp
  ·rw [if_pos a,if_neg b,decide_eq_true a,decide_eq_false b]
   have e:([t.1]++([]:List Str)).length=1:=rfl
   rw [e]
   by_cases c:(starF l x).length % 2=1
   ·rw [decide_eq_true c,decide_eq_false (by omega)];rfl
   ·rw [decide_eq_false c,decide_eq_true (by omega)];rfl
 ·by_cases b:t.2.2=x
  ·rw [if_neg a,if_pos b,decide_eq_false a,decide_eq_true b]
   have e:(([]:List Str)++[t.1]).length=1:=rfl
   rw [e]
   by_cases c:(starF l x).length % 2=1
   ·rw [decide_eq_true c,decide_eq_false (by omega)];rfl
   ·rw [decide_eq_false c,decide_eq_true (by omega)];rfl
  ·rw [if_neg a,if_neg b,decide_eq_false a,decide_eq_false b]
   have e:(([]:List Str)++[]).length=0:=rfl
   rw [e];simp
theorem sum_one {a:Str}:∀ {ps:List Str},ps.Nodup->a∈ps->(ps.map fun x=>if a=x then 1 else 0).sum=1
 | [],_,h=>by cases h
 | p :: ps,nd,h=>by
  obtain ⟨h1,h2⟩:=hB0.mp nd
  rw [hAl,hCj]
  by_cases e:a=p
  ·subst e
   rw [if_pos rfl]
   have:∀ l:List Str,a∉l->(l.map fun x=>if a=x then 1 else 0).sum=0:=fun l hl=>by
    induction l with
    | nil=>rfl
    | cons y l ih =>
     rw [hAl,hCj,if_neg (fun e:a=y=>hl (by rw [e];exact hA2)),ih fun z=>hl (hA4 _ z)]
   rw [this ps h1]
  ·rw [if_neg e,sum_one h2 ((hA9.mp h).resolve_left e)]
theorem sum_add {α:Type} (f g:α->Nat):∀ l:List α,(l.map fun x=>f x+g x).sum=(l.map f).sum+(l.map g).sum
 | []=>rfl
 | a :: l=>by rw [hAl,hCj,sum_add f g l,hAl,hCj,hAl,hCj];omega
theorem star_sum {ps:List Str} (nd:ps.Nodup) (N:List Tr):(∀ x,qGh N x->x∈ps)->(ps.map fun x=>(starF N x).length).sum=2*N.length:=by
 refine qBo (P:=fun N=>(∀ x,qGh N x->x∈ps)->(ps.map fun x=>(starF N x).length).sum=2*N.length) (fun _=>?_) (fun l t ih h=>?_) N
 ·have:∀ l:List Str,(l.map fun x=>(starF [] x).length).sum=0:=fun l=>by
   induction l with
   | nil=>rfl
   | cons y l ih=>rw [hAl,hCj,ih];rfl
  exact this ps
 ·have e:(ps.map fun x=>(starF (l++[t]) x).length)=ps.map fun x=>(starF l x).length+((if t.2.1=x then 1 else 0)+if t.2.2=x then 1 else 0):=hBy fun x _=>by
   rw [qCz,hAc]
   congr 1
   unfold stT
   rw [hAc]
   by_cases a:t.2.1=x <;> by_cases b:t.2.2=x <;> simp [a,b]
  rw [e,sum_add,sum_add,ih fun x hx=>h x (qB6.mpr (.inl hx)),sum_one nd (h _ (qB6.mpr (.inr (.inl rfl)))),sum_one nd (h _ (qB6.mpr (.inr (.inr rfl)))),hAc]
  show _=2*(l.length+1)
  omega
theorem star_pos {x:Str} (h:qGh N x):0<(starF N x).length:=by
 obtain ⟨t,ht,hx⟩:=h
 have m:t.1∈starF N x:=by
  unfold starF
  refine List.mem_flatten.mpr ⟨_,hAb.mpr ⟨t,ht,rfl⟩,?_⟩
  unfold stT
  rcases hx with e | e
  ·rw [if_pos e.symm];simp
  ·rw [if_pos (c:=t.2.2=x) e.symm];simp
 exact List.length_pos_of_mem m
theorem all_two {α:Type} {f:α->Nat}:∀ {l:List α},(∀ x∈l,2<=f x)->(l.map f).sum=2*l.length->∀ x∈l,f x=2
 | [],_,_,x,h=>by cases h
 | a :: l,h,s,x,hx=>by
  rw [hAl,hCj,hAy] at s
  have ge:∀ l:List α,(∀ x∈l,2<=f x)->2*l.length<=(l.map f).sum:=fun l=>by
   induction l with
   | nil=>intro _;exact hA5 _
   | cons b l ih =>
    intro hb
    rw [hAl,hCj,hAy]
    have h1:=ih fun x hx=>hb x (hA4 _ hx)
    have h2:=hb b hA2
    omega
  have g:=ge l fun x hx=>h x (hA4 _ hx)
  have ha:=h a hA2
  rcases hA9.mp hx with e | e
  ·rw [e];omega
  ·exact all_two (fun x hx=>h x (hA4 _ hx)) (by omega) x e
theorem Min.two (h:Min N) (rs:qFz (nmS N)) {ps:List Str} (pk:qEa N ps):∀ x∈ps,(starF N x).length=2:=by
 have nd:=qCr rs
 obtain ⟨S,M,tb⟩:=tb_ex rs pk
 have d:=h.dim tb
 have l:=tb.len
 obtain ⟨k1,k2⟩:=qDs (lbF N) N
 have c:=count_ks pk.1 pk.2 k1 k2
 rw [hA1,h.piece nd] at c
 refine all_two (fun x hx=>?_) ?_
 ·have p1:=star_pos ((pk.2 x).mp hx)
  have p2:=star_par x N
  rw [h.ev x] at p2
  have:=of_decide_eq_false p2.symm
  omega
 ·rw [star_sum pk.1 N fun x hx=>(pk.2 x).mpr hx]
  omega
end
abbrev Wk:=Str×Str×Str
def Chn (N:List Tr):Str->List Wk->Str->Prop
 | p,[],q=>p=q
 | p,w :: W,q=>w.2.1=p/\(∃ t∈N,t.1=w.1/\((t.2.1=w.2.1/\t.2.2=w.2.2)\/(t.2.1=w.2.2/\t.2.2=w.2.1)))/\Chn N w.2.2 W q
theorem chn_app {N:List Tr}:∀ {W V:List Wk} {p q:Str},Chn N p (W++V) q↔∃ m,Chn N p W m/\Chn N m V q
 | [],V,p,q=>⟨fun h=>⟨p,rfl,h⟩,fun ⟨m,e,h⟩=>by cases (show p=m from e);exact h⟩
 | w :: W,V,p,q=>by
  show (_/\_/\Chn N w.2.2 (W++V) q)↔_
  rw [chn_app]
  exact ⟨fun ⟨a,b,m,c,d⟩=>⟨m,⟨a,b,c⟩,d⟩,fun ⟨m,⟨a,b,c⟩,d⟩=>⟨a,b,m,c,d⟩⟩
abbrev wn (W:List Wk):List Str:=W.map fun w=>w.1
theorem chn_ev {N:List Tr} (nd:(nmS N).Nodup) (x:Str):∀ {W:List Wk} {p q:Str},Chn N p W q->(wn W).Nodup->evP N (fun n=>decide (n∈wn W)) x=(decide (p=x) ^^ decide (q=x))
 | [],p,q,h,_=>by
  cases (show p=q from h)
  rw [Bool.xor_self]
  exact qEx fun t _ e=>absurd (of_decide_eq_true e) (by simp)
 | w :: W,p,q,h,hn=>by
  obtain ⟨h1,⟨t,ht,e,ends⟩,h3⟩:=h
  obtain ⟨n1,n2⟩:=hB0.mp hn
  have ih:=chn_ev nd x h3 n2
  have e1:evP N (fun n=>decide (n∈wn (w :: W))) x=evP N (fun n=>decide (n=t.1) ^^ decide (n∈wn W)) x:=qB7 x fun u hu=>by
   by_cases c:u.1=t.1
   ·rw [decide_eq_true c,decide_eq_true (show u.1∈wn (w :: W) by rw [c,e];exact hA2),decide_eq_false (show u.1∉wn W by rw [c,e];exact n1)];rfl
   ·rw [decide_eq_false c,Bool.false_xor]
    exact decide_eq_decide.mpr ⟨fun m=>(hA9.mp m).resolve_left (by show ¬u.1=w.1;rw [<-e];exact c),fun m=>hA4 _ m⟩
  rw [e1,evP_xor,ih,evP_one x nd ht]
  unfold atX
  rw [<-h1]
  rcases ends with ⟨a,b⟩ | ⟨a,b⟩
  ·rw [a,b]
   cases decide (w.2.1=x) <;> cases decide (w.2.2=x) <;> cases decide (q=x) <;> rfl
  ·rw [a,b]
   cases decide (w.2.1=x) <;> cases decide (w.2.2=x) <;> cases decide (q=x) <;> rfl
theorem qD8 {N:List Tr}:∀ {W:List Wk} {p q:Str},Chn N p W q->∀ w∈W,∃ t∈N,t.1=w.1/\((t.2.1=w.2.1/\t.2.2=w.2.2)\/(t.2.1=w.2.2/\t.2.2=w.2.1))
 | [],_,_,_,w,hw=>by cases hw
 | v :: W,p,q,h,w,hw=>by
  rcases hA9.mp hw with e | e
  ·rw [e];exact h.2.1
  ·exact qD8 h.2.2 w e
theorem Min.part {N:List Tr} (h:Min N) (nd:(nmS N).Nodup) {W:List Wk} {p:Str} (c:Chn N p W p) (hn:(wn W).Nodup) (ne:W≠[]):∀ t∈N,t.1∈wn W:=fun t ht=>by
 refine of_decide_eq_true (h.mn (fun n=>decide (n∈wn W)) (fun x=>by rw [chn_ev nd x c hn,Bool.xor_self]) ?_ t ht)
 cases W with
 | nil=>exact absurd rfl ne
 | cons w V =>
  obtain ⟨_,⟨u,hu,e,_⟩,_⟩:=c
  exact ⟨u,hu,decide_eq_true (by rw [e];exact hA2)⟩
theorem Min.starts {N:List Tr} (h:Min N) (nd:(nmS N).Nodup) {p q:Str}:∀ {V A:List Wk},Chn N p (A++V) q->(wn (A++V)).Nodup->(V.map fun w=>w.2.1).Nodup
 | [],_,_,_=>hC9
 | w :: V,A,c,hn=>by
  have ih:=Min.starts h nd (V:=V) (A:=A++[w]) (by rw [hBg];exact c) (by rw [hBg];exact hn)
  refine hB0.mpr ⟨fun m=>?_,ih⟩
  obtain ⟨w',hw',e⟩:=hAb.mp m
  have e:w'.2.1=w.2.1:=e
  obtain ⟨B,C,rfl⟩:=List.append_of_mem hw'
  obtain ⟨m1,c1,c2⟩:=chn_app.mp c
  have c2':Chn N m1 ((w :: B)++(w' :: C)) q:=c2
  obtain ⟨m2,c3,c4⟩:=chn_app.mp c2'
  have e1:m1=w.2.1:=c2.1.symm
  have e2:m2=w'.2.1:=c4.1.symm
  rw [e2,e1] at c3
  have hn':(wn (w :: B++(w' :: C))).Nodup:=hn.sublist ((List.sublist_append_right A _).map _)
  have hB:(wn (w :: B)).Nodup:=hn'.sublist ((List.sublist_append_left _ _).map _)
  rw [e] at c3
  have all:=h.part nd c3 hB (by simp)
  obtain ⟨t,ht,et,_⟩:=c4.2.1
  have m3:=all t ht
  rw [et] at m3
  have:wn (w :: B++(w' :: C))=wn (w :: B)++wn (w' :: C):=hAa
  rw [this] at hn'
  exact (hC8.mp hn').2.2 w'.1 m3 w'.1 hA2 rfl
def tch (p:Str) (t:Tr):Bool:=decide (p=t.2.1\/p=t.2.2)
def goalF (p:Str) (t:Tr):Str:=if p=t.2.1 then t.2.2 else t.2.1
def outF (n:Str) (R:List Tr):List Tr:=R.filter fun u=>!decide (u.1=n)
def wkF:Nat->List Tr->Str->List Wk
 | 0,_,_=>[]
 | f+1,R,p=>match R.filter (tch p) with
  | []=>[]
  | t :: _=>(t.1,p,goalF p t) :: wkF f (outF t.1 R) (goalF p t)
theorem wkF_cons {f:Nat} {R:List Tr} {p:Str} {t:Tr} {r:List Tr} (h:R.filter (tch p)=t :: r):wkF (f+1) R p=(t.1,p,goalF p t) :: wkF f (outF t.1 R) (goalF p t):=by
 show (match R.filter (tch p) with | []=>[] | t :: _=>(t.1,p,goalF p t) :: wkF f (outF t.1 R) (goalF p t))=_
 rw [h]
theorem out_len {N R:List Tr} {t:Tr} (nd:(nmS R).Nodup) (h:t∈R):(outF t.1 R).length+1=R.length:=by
 induction R with
 | nil=>cases h
 | cons u R ih =>
  obtain ⟨n1,n2⟩:=hB0.mp nd
  unfold outF
  rcases hA9.mp h with e | e
  ·subst e
   rw [List.filter_cons_of_neg (by rw [decide_eq_true rfl];decide),hDp.mpr fun v hv=>?_,hAy]
   rw [decide_eq_false (fun z:v.1=t.1=>n1 (by show t.1∈_;rw [<-z];exact hAb.mpr ⟨v,hv,rfl⟩))];rfl
  ·rw [List.filter_cons_of_pos (by rw [decide_eq_false (fun z:u.1=t.1=>n1 (by show u.1∈_;rw [z];exact hAb.mpr ⟨t,e,rfl⟩))];rfl),hAy,hAy]
   exact congrArg (· + 1) (ih n2 e)
structure Way (N:List Tr) (p0:Str) (W:List Wk) (R:List Tr) (p:Str):Prop where
 c:Chn N p0 W p
 nd:(wn W).Nodup
 r:R=N.filter fun t=>!decide (t.1∈wn W)
 w:W++wkF R.length R p=wkF N.length N p0
theorem Way.start (N:List Tr) (p0:Str):Way N p0 [] N p0:=⟨rfl,hC9,(hDp.mpr fun t _=>by simp).symm,rfl⟩
theorem Way.next {N:List Tr} {p0 p:Str} {W:List Wk} {R:List Tr} (h:Way N p0 W R p) (nd:(nmS N).Nodup) {t:Tr} {r:List Tr} (e:R.filter (tch p)=t :: r):Way N p0 (W++[(t.1,p,goalF p t)]) (outF t.1 R) (goalF p t):=by
 have hm:t∈R.filter (tch p):=by rw [e];exact hA2
 obtain ⟨hR,ht⟩:=hAg.mp hm
 have hR':=hR
 rw [h.r] at hR'
 obtain ⟨tN,tW⟩:=hAg.mp hR'
 have tW:t.1∉wn W:=by simpa using tW
 have ndR:(nmS R).Nodup:=by rw [h.r];exact nd.sublist (hBk.map _)
 refine ⟨chn_app.mpr ⟨p,h.c,rfl,⟨t,tN,rfl,?_⟩,rfl⟩,?_,?_,?_⟩
 ·unfold goalF
  rcases of_decide_eq_true ht with c | c
  ·rw [if_pos c];exact .inl ⟨c.symm,rfl⟩
  ·by_cases d:p=t.2.1
   ·rw [if_pos d];exact .inl ⟨d.symm,rfl⟩
   ·rw [if_neg d];exact .inr ⟨rfl,c.symm⟩
 ·have:wn (W++[(t.1,p,goalF p t)])=wn W++[t.1]:=hAa
  rw [this,hC8]
  exact ⟨h.nd,by simp,fun a ha b hb z=>tW (by rw [hA7.mp hb] at z;rw [<-z];exact ha)⟩
 ·unfold outF
  rw [h.r,List.filter_filter]
  refine List.filter_congr fun u _=>?_
  have:wn (W++[(t.1,p,goalF p t)])=wn W++[t.1]:=hAa
  rw [this]
  by_cases a:u.1=t.1
  ·rw [decide_eq_true a,decide_eq_true (show u.1∈wn W++[t.1] by rw [a];simp)];rfl
  ·by_cases b:u.1∈wn W
   ·rw [decide_eq_true b,decide_eq_true (show u.1∈wn W++[t.1] from hAm _ b)];simp
   ·rw [decide_eq_false a,decide_eq_false b,decide_eq_false (show u.1∉wn W++[t.1] by simp [a,b])];rfl
 ·have l:=out_len (N:=N) ndR hR
  rw [<-h.w,<-l,wkF_cons e,hBg];rfl
theorem Way.goes {N:List Tr} {p:Str} {W:List Wk} {R:List Tr} (mi:Min N) (nd:(nmS N).Nodup) {t0:Tr} {r0:List Tr} (e0:N=t0 :: r0) (h:Way N t0.2.1 W R p) (ne:R≠[]):∃ t r,R.filter (tch p)=t :: r:=by
 cases q:R.filter (tch p) with
 | cons t r=>exact ⟨t,r,rfl⟩
 | nil =>
  exfalso
  have no:∀ t∈R,tch p t=false:=fun t ht=>by
   cases c:tch p t with
   | false=>rfl
   | true =>
    have:=hAg.mpr ⟨ht,c⟩
    rw [q] at this;cases this
  by_cases c:t0.2.1=p
  ·by_cases w0:W=[]
   ·have:R=N:=by rw [h.r,w0];exact hDp.mpr fun t _=>by simp
    have:=no t0 (by rw [this,e0];exact hA2)
    unfold tch at this
    rw [decide_eq_true (.inl c.symm)] at this
    cases this
   ·have hc:=h.c
    rw [<-c] at hc
    have all:=mi.part nd hc h.nd w0
    refine ne ?_
    rw [h.r]
    exact List.filter_eq_nil_iff.mpr fun t ht=>by rw [decide_eq_true (all t ht)];simp
  ·have ev:=chn_ev nd p h.c h.nd
   rw [decide_eq_false c,decide_eq_true rfl] at ev
   have z:evP N (fun n=>!decide (n∈wn W)) p=false:=qEx fun t ht e=>by
    have:=no t (by rw [h.r];exact hAg.mpr ⟨ht,e⟩)
    unfold tch at this
    have:=of_decide_eq_false this
    unfold atX
    rw [decide_eq_false fun z=>this (.inl z.symm),decide_eq_false fun z=>this (.inr z.symm)];rfl
   have s:=evP_xor (fun n=>decide (n∈wn W)) (fun n=>!decide (n∈wn W)) p N
   have e:evP N (fun n=>decide (n∈wn W) ^^ !decide (n∈wn W)) p=evP N (fun _=>true) p:=qB7 p fun t _=>by cases decide (t.1∈wn W) <;> rfl
   rw [e,mi.ev p,ev,z] at s
   cases s
structure Done (N:List Tr) (p0:Str) (W:List Wk):Prop where
 c:Chn N p0 W p0
 nd:(wn W).Nodup
 all:∀ t∈N,t.1∈wn W
 e:W=wkF N.length N p0
theorem Way.done {N:List Tr} {p:Str} {W:List Wk} (mi:Min N) (nd:(nmS N).Nodup) {p0:Str} (h:Way N p0 W [] p):Done N p0 W:=by
 have all:∀ t∈N,t.1∈wn W:=fun t ht=>hBs fun c=>by
  have:t∈N.filter fun t=>!decide (t.1∈wn W):=hAg.mpr ⟨ht,by rw [decide_eq_false c];rfl⟩
  rw [<-h.r] at this;cases this
 have pe:p0=p:=hBs fun c=>by
  have ev:=chn_ev nd p0 h.c h.nd
  rw [decide_eq_true rfl,decide_eq_false (fun z=>c z.symm)] at ev
  have:evP N (fun n=>decide (n∈wn W)) p0=evP N (fun _=>true) p0:=qB7 p0 fun t ht=>decide_eq_true (all t ht)
  rw [this,mi.ev p0] at ev
  cases ev
 have hc:=h.c
 rw [<-pe] at hc
 have hw:=h.w
 rw [show wkF ([]:List Tr).length [] p=[] from rfl,hC5] at hw
 exact ⟨hc,h.nd,all,hw⟩
end My
namespace My
open PySem L2
def tCutE (t:TS):TS:=fun D σ H=>∃ Pm:St->Hp->Prop,t { D with nx:=Pm } σ H/\∀ σ' H',Pm σ' H'->D.nx σ' H'
theorem ps_cutE {X:Cx} {st:Stmt} {t:TS} (h:PS X st t):PS X st (tCutE t):=by
 intro pins s σ H D I hw
 obtain ⟨Pm,h1,h2⟩:=hw
 refine thn (h pins s σ H { D with nx:=Pm } I h1) fun fl s' q=>?_
 cases fl with
 | next=>obtain ⟨σ',H',I',q⟩:=q;exact ⟨σ',H',I',h2 σ' H' q⟩
 | brk=>exact q
 | cont=>exact q
 | ret _=>exact q
def IsOne (N:List Tr):Prop:=(PCK (lbF N) N).length=1/\∀ x,qGh N x->(starF N x).length=2
def spOne:Sp:=fun vs H Q _=>∃ (p:Addr) (N:List Tr),vs=[.ref p]/\qBb H p N/\N.length<=12/\∀ (b:Bool) (H':Hp),Ext H H'->(b=true↔IsOne N)->Q (.bl b) H'
theorem Min.isOne {N:List Tr} (h:Min N) (rs:qFz (nmS N)) {ps:List Str} (pk:qEa N ps):IsOne N:=⟨h.piece (qCr rs),fun x hx=>h.two rs pk x ((pk.2 x).mpr hx)⟩
theorem pts_ex (N:List Tr):∃ ps,qEa N ps:=by
 have nd_ex:∀ l:List Str,∃ ps:List Str,ps.Nodup/\∀ x,x∈ps↔x∈l:=fun l=>by
  induction l with
  | nil=>exact ⟨[],hC9,fun x=>Iff.rfl⟩
  | cons a l ih =>
   obtain ⟨ps,h1,h2⟩:=ih
   by_cases c:a∈l
   ·exact ⟨ps,h1,fun x=>by rw [h2,hA9];exact ⟨.inr,fun h=>h.elim (fun e=>e▸c) id⟩⟩
   ·exact ⟨a :: ps,hB0.mpr ⟨fun z=>c ((h2 a).mp z),h1⟩,fun x=>by rw [hA9,hA9,h2]⟩
 obtain ⟨ps,h1,h2⟩:=nd_ex ((N.map fun t=>t.2.1)++N.map fun t=>t.2.2)
 refine ⟨ps,h1,fun x=>?_⟩
 ·rw [h2,hAf,hAb,hAb]
  constructor
  ·rintro (⟨t,ht,rfl⟩ | ⟨t,ht,rfl⟩)
   ·exact ⟨t,ht,.inl rfl⟩
   ·exact ⟨t,ht,.inr rfl⟩
  ·rintro ⟨t,ht,e | e⟩
   ·exact .inl ⟨t,ht,e.symm⟩
   ·exact .inr ⟨t,ht,e.symm⟩
def WkWd (H:Hp) (p rp to:Addr) (N:List Tr) (p0:Str):Nat->L2.St->Hp->Prop:=fun k σ H'=>∃ (R:List Tr) (pt:Str) (W:List Wk) (rl:Addr) (x5 x6 x7 x8:Option V),k=R.length/\σ=[some (.ref p),some (.ref rp),some (.ref rl),some (.str pt),some (.ref to),x5,x6,x7,x8]/\Ext H H'/\qBb H' rl R/\rl≠to/\qBb H' to W/\Way N p0 W R pt
theorem qBb.set {H:Hp} {p to:Addr} {N:List Tr} {ys zs:List V} (h:qBb H p N) (ht:H to=some (.lst ys)) (ne:p≠to):qBb (upd H to (.lst zs)) p N:=by
 obtain ⟨as,h1,h2⟩:=h
 exact ⟨as,by rw [qAe ne];exact h1,Paired.mapP h2 fun a t z=>by rw [qAe (fun e=>by rw [e,ht] at z;cases z)];exact z⟩
theorem way_len {N R:List Tr} {p0 p:Str} {W:List Wk} (h:Way N p0 W R p) (nd:(nmS N).Nodup):W.length<=N.length:=by
 have sub:∀ x∈wn W,x∈nmS N:=fun x hx=>by
  obtain ⟨w,hw,rfl⟩:=hAb.mp hx
  obtain ⟨t,ht,e,_⟩:=qD8 h.c w hw
  exact hAb.mpr ⟨t,ht,e⟩
 have p1:(wn W).Perm ((nmS N).filter fun x=>decide (x∈wn W)):=(hBd h.nd (nd.sublist hBk)).mpr fun a=>by
  rw [hAg,decide_eq_true_iff]
  exact ⟨fun ha=>⟨sub a ha,ha⟩,fun ha=>ha.2⟩
 have l1:=p1.length_eq
 rw [hA1] at l1
 rw [l1]
 refine hAv (hAw _ _) ?_
 rw [hA1]
 exact hA5 _
def spWalk:Sp:=fun vs H Q _=>∃ (p rp:Addr) (net:List Tr) (row:List Str),vs=[.ref p,.ref rp]/\qBb H p net/\LsS H rp row/\net.length<=12/\qFz (nmS net)/\SOk row/\nmS (qEr net row)=row/\Min (qEr net row) /\
 ∀ (r:Addr) (t0:Tr) (r0:List Tr) (W:List Wk) (H':Hp),Ext H H'->H r=none->qBb H' r W->qEr net row=t0 :: r0->Done (qEr net row) t0.2.1 W->Q (.ref r) H'
theorem keep_net {K:PySem.W.Frag} {H1:Hp} {p:Addr} {net:List Tr} {Q:List V->Hp->Prop} {σ0:L2.St} {g:TG} {tt:TT} {te:TE} (pr:Tr->Bool) (hp:qBb H1 p net) (hl:net.length<=12)
  (hs:∀ (c:Addr) (t:Tr) (H2:Hp),t∈net->Ext H1 H2->H2 c=some (.tup (trV t))->∀ (C:V->Hp->Prop) (B:Hp->Prop),(∀ H3,Ext H2 H3->pr t=true->C (.ref c) H3)->(∀ H3,Ext H2 H3->pr t=false->B H3)->g (.ref c) σ0 H2 fun σ2 H3=>Sle σ0 σ2/\tt σ2 H3 fun b H4=>if b=true then te σ2 H4 C else B H4)
  (hd:∀ (as':List Addr) (H2:Hp),Ext H1 H2->Paired (fun a t=>H2 a=some (.tup (trV t))) as' (net.filter pr)->Q (as'.map V.ref) H2):qEj (Itl K p) σ0 g tt te Q H1:=by
 obtain ⟨as,hp,pd⟩:=hp
 have la:as.length=net.length:=pd.length
 refine qAr (xs:=as.map V.ref) (fun j ys H2=>Ext H1 H2/\∃ as',ys=as'.map V.ref/\Paired (fun a t=>H2 a=some (.tup (trV t))) as' ((net.take j).filter pr)) ⟨Ext.refl _,[],rfl,.nil⟩ (fun j ys H2 _ h=>SqL.of (h.1 _ _ hp)) ?_ ?_
 ·rintro j v ys H2 hx ⟨e2,as',rfl,pr'⟩
  obtain ⟨c,rfl,hc⟩:=qFb hx
  obtain ⟨t,ht,hct⟩:=qA9 pd hc
  have hj:=qAx ht
  have l':as'.length=_:=pr'.length
  have:=hAw pr (net.take j)
  rw [hAh] at this
  refine hs c t H2 (hAr ht) e2 (e2 _ _ hct) _ _ (fun H3 e3 b=>⟨?_,nxt (qAx hx) ⟨e2.trans e3,as'++[c],by rw [hAa];rfl,?_⟩⟩) (fun H3 e3 b=>nxt (qAx hx) ⟨e2.trans e3,as',rfl,?_⟩)
  ·rw [hA1];exact qCf (by omega)
  ·rw [filt_t ht b]
   exact Paired.snoc (Paired.mapP pr' fun a t z=>e3 _ _ z) (e3 _ _ (e2 _ _ hct))
  ·rw [filt_f ht b]
   exact Paired.mapP pr' fun a t z=>e3 _ _ z
 ·rintro ys H2 ⟨e2,as',rfl,pr'⟩
  rw [hA1,la,hA8 (hA5 _)] at pr'
  exact hd as' H2 e2 pr'
section
variable {P:Program} {w:World} {K:PySem.W.Frag} {mg:Str->Option Value} {base:Heap} {f f1 f2 f3 f4:Addr} {fd fd1 fd2 fd3 fd4:FuncData}
theorem scOne:FnScope ["net"] ["net"] (qAb sOne):=⟨rfl,rfl,rfl,by decide +kernel,rfl,by decide +kernel,by decide +kernel⟩
theorem ok_one (F:Fun K "is_one_round" "is_one_round" sOne f fd)
  (G1:FnOk P w K mg base CX0 3 f1 fd1 ["net"] spPieces) (bG1:qA7 K fd1 ["net"] []) (kG1:PySem.W.keepIn K (.ref f1)=true) (mG1:mg "pieces" = some (.ref f1))
  (G2:FnOk P w K mg base CX0 2 f2 fd2 ["net"] spStars) (bG2:qA7 K fd2 ["net"] []) (kG2:PySem.W.keepIn K (.ref f2)=true) (mG2:mg "stars" = some (.ref f2))
  (ml:mg "len" = none) (mal:mg "all" = none):FnOk P w K mg base CX0 4 f fd ["net"] spOne:=by
 refine F.ok scOne (fun vs H Q E h=>?_) (fun cdv A outer s H vs Q E hr h=>?_)
 ·obtain ⟨p,N,rfl,_⟩:=h
  rfl
 obtain ⟨p,N,rfl,nt,hl,q⟩:=h
 have hr2:=hr.mono (j:=2) (by decide)
 refine ⟨_,qAi (qAv (pe_and (qCt qDm (qAn qAw rfl ml hBz (qAa (qAl G1 hr rfl mG1 kG1 bG1 .nil qA5 (qAa (pv 0) qAc)) qAc)) qAg (qA1 _)) (pe_one (qAn (call_allB rfl) rfl mal boot_all' (qAa (pe_lc (N:=["net"]) (sc:=qAb sOne) (N':=["told"]) (sub:=[none]) rfl rfl (CmpOk.of (by decide +kernel)) rfl (qAs (qAl G2 hr2 rfl mG2 kG2 bG2 .nil qA5 (qAa (pv 0) qAc))) (fun C s H fp=>⟨qAf (i:=0) (by show (["told"]:List Str).Nodup;decide) rfl (Or.inl rfl),qA4,(qCt qDm (qAn (show qBq _ (.builtin "len") (rLenS K) from qAw) rfl ml hBz (qAa (pv 0) qAc)) qAg (qA1 _))⟩)) qAc))))),?_⟩
 refine ⟨_,rfl,p,N,rfl,nt,hl,fun r H1 e1 r0 hy=>?_⟩
 obtain ⟨as,hr',pr⟩:=hy
 have la:as.length=(PCK (lbF N) N).length:=by rw [pr.length,hA1]
 refine ⟨r,_,rfl,.inl (SqL.of hr'),rfl,_,rfl,?_⟩
 rw [hA1,la]
 refine qFl (fun c=>?_) (fun c=>?_)
 ·have c0:(((PCK (lbF N) N).length:Nat):Int)=1:=by simpa using c
  have c1:(PCK (lbF N) N).length=1:=by omega
  refine ⟨_,rfl,p,N,rfl,nt.ext e1,hl,fun r2 rows ps H2 e2 r20 hz pk rk pp so lr=>?_⟩
  obtain ⟨bs,_,hb,pb⟩:=hz
  have lb:bs.length=rows.length:=pb.length
  refine ⟨r2,rfl,⟨_,SqL.of hb⟩,?_⟩
  refine qAr (xs:=bs.map V.ref) (fun j ys H3=>H3=H2/\ys=((rows.take j).map fun r=>decide (r.length=2)).map V.bl) ⟨rfl,rfl⟩ (fun j ys H3 _ h=>by rw [h.1];exact SqL.of hb) ?_ ?_
  ·rintro j v ys H3 hx ⟨rfl,rfl⟩
   obtain ⟨b,rfl,hb'⟩:=qFb hx
   obtain ⟨row,hrow,hbr⟩:=qA9 pb hb'
   have hj:=qAx hrow
   refine ⟨Sle.set _ (Sle.refl _) (fun u z=>by cases z),iteT (B:=False) ⟨_,rfl,b,_,rfl,.inl (SqL.of hbr.1),rfl,?_,nxt (qAx hx) ⟨rfl,?_⟩⟩⟩
   ·rw [hA1,hA1,hAh];exact qAh (by omega)
   ·rw [qAj hrow,hAa,hAa,hA1]
    congr 1
    show [V.bl (decide (V.int (row.length:Nat)=V.int 2))]=[V.bl (decide (row.length=2))]
    congr 2
    exact decide_eq_decide.mpr ⟨fun h=>by injection h with h;omega,fun h=>by rw [h];rfl⟩
  ·rintro ys H3 ⟨rfl,rfl⟩ l hl'
   rw [hA1,lb,hA8 (hA5 _)]
   refine ⟨l,_,rfl,SqL.of upd_same,?_⟩
   refine q _ _ (e1.trans (e2.trans (Ext.new hl' _))) ?_
   rw [hCw]
   constructor
   ·intro h
    refine ⟨c1,fun x hx=>?_⟩
    have m:starF N x∈rows:=pp.mem_iff.mpr (hAb.mpr ⟨x,(pk.2 x).mpr hx,rfl⟩)
    exact of_decide_eq_true (h _ (hAb.mpr ⟨_,m,rfl⟩))
   ·rintro ⟨_,h⟩ b hb2
    obtain ⟨row,hrow,rfl⟩:=hAb.mp hb2
    obtain ⟨x,hx,rfl⟩:=hAb.mp (pp.mem_iff.mp hrow)
    exact decide_eq_true (h x ((pk.2 x).mp hx))
 ·exact q false _ e1 ⟨fun z=>(by cases z),fun z=>absurd (by rw [z.1];rfl) c⟩
abbrev wkN:List Str:=["net","row","rest","point","told","name","one","other","goal"]
theorem qC7:FnScope wkN ["net","row"] (qAb sWalk):=⟨rfl,rfl,rfl,by decide +kernel,rfl,by decide +kernel,by decide +kernel⟩
theorem ok_walk (F:Fun K "walk" "walk" sWalk f fd)
  (G1:FnOk P w K mg base CX0 1 f1 fd1 ["net"] spTies) (bG1:qA7 K fd1 ["net"] []) (kG1:PySem.W.keepIn K (.ref f1)=true) (mG1:mg "ties_of" = some (.ref f1))
  (G2:FnOk P w K mg base CX0 4 f2 fd2 ["net"] spOne) (bG2:qA7 K fd2 ["net"] []) (kG2:PySem.W.keepIn K (.ref f2)=true) (mG2:mg "is_one_round" = some (.ref f2)):FnOk P w K mg base CX0 5 f fd ["net","row"] spWalk:=by
 refine F.ok qC7 (fun vs H Q E h=>?_) (fun cdv A outer s H vs Q E hr h=>?_)
 ·obtain ⟨p,rp,net,row,rfl,_⟩:=h
  rfl
 obtain ⟨p,rp,net,row,rfl,nt,hrow,hl,rs,okr,sn,mi,q⟩:=h
 have hr1:=hr.mono (j:=1) (by decide)
 refine ⟨_,pss_cons (ps_lc (i:=2) (N:=wkN) (sc:=qAb sWalk) (N':=["tie","row"]) (sub:=[none,some 1]) rfl rfl (CmpOk.of (by decide +kernel)) rfl (qAs (pv 0)) (fun C s H fp=>⟨qAf (i:=0) (by show (["tie","row"]:List Str).Nodup;decide) rfl (Or.inl rfl),(qDd (qAu (show OpR _ (compareOp .In) (rIn K false) from qFh) (pe_ix (show IxR _ (rIxT K) from qBw) (pv 0) qAg (fun _ _=>rfl)) (pv 1) (by with_unfolding_all rfl))),(pv 0)⟩) qC7.nd rfl (Or.inl rfl)) (pss_cons (qD1 (PW.pt (pw_or (qAu (qGd (qFa hr)) (qAl G1 hr1 rfl mG1 kG1 bG1 .nil qA5 (qAa (pv 2) qAc)) (pv 1) (qA1 _)) (pw_or1 (pt_not (pt_val (qAl G2 hr rfl mG2 kG2 bG2 .nil qA5 (qAa (pv 2) qAc))))))) (qAi ps_never) qBr) (pss_cons (qAp (i:=3) qC7.nd rfl (Or.inr rfl) (pe_ix qBw (pe_ix ix_list (pv 2) qAg (fun _ _=>rfl)) qAg (fun _ _=>rfl))) (pss_cons (qAp (i:=4) qC7.nd rfl (Or.inl rfl) (qCh qAc)) (pss_cons (ps_while PassesOwn.never (pt_truth (pv 2) (by intro _;rfl)) (pss_cons (ps_asg (pe_ix ix_list (pe_lc (N:=wkN) (sc:=qAb sWalk) (N':=["tie","point"]) (sub:=[none,some 3]) rfl rfl (CmpOk.of (by decide +kernel)) rfl (qAs (pv 2)) (fun C s H fp=>⟨qAf (i:=0) (by show (["tie","point"]:List Str).Nodup;decide) rfl (Or.inl rfl),(qDd (qAu (show OpR _ (compareOp .In) (rIn K false) from qFh) (pv 1) (pe_slice (show SlR _ (rSlT K) from sl_tup) (pv 0) (po_some qAg) po_none) (by with_unfolding_all rfl))),(pv 0)⟩)) qAg (fun _ _=>rfl)) (qBt rfl (qAk (qAf (i:=5) qC7.nd rfl (Or.inr rfl)) (qAk (qAf (i:=6) qC7.nd rfl (Or.inl rfl)) (qAk (qAf (i:=7) qC7.nd rfl (Or.inl rfl)) qBe))))) (pss_cons (ps_cutE (qAp (i:=8) qC7.nd rfl (Or.inl rfl) (qEt (qAu qDm (pv 3) (pv 6) (qA1 _)) (pv 7) (pv 6)))) (pss_cons (qCs (pe_bm hBo hBv hBw qB4 (pv 4) (qAa (qBu (qAa (pv 5) (qAa (pv 3) (qAa (pv 8) qAc)))) qAc))) (pss_cons (ps_lc (i:=2) (N:=wkN) (sc:=qAb sWalk) (N':=["tie","name"]) (sub:=[none,some 5]) rfl rfl (CmpOk.of (by decide +kernel)) rfl (qAs (pv 2)) (fun C s H fp=>⟨qAf (i:=0) (by show (["tie","name"]:List Str).Nodup;decide) rfl (Or.inl rfl),(qDd (qAu op_ne (pe_ix (show IxR _ (rIxT K) from qBw) (pv 0) qAg (fun _ _=>rfl)) (pv 1) (qA1 _))),(pv 0)⟩) qC7.nd rfl (Or.inl rfl)) (qAi (qAp (i:=3) qC7.nd rfl (Or.inr rfl) (pv 8)))))))) (qAi (qAv (pv 4))))))),?_⟩
 obtain ⟨as0,hp0,_⟩:=id nt
 refine ⟨_,rfl,p,rfl,⟨_,SqL.of hp0⟩,?_⟩
 refine keep_net (fun t=>decide (t.1∈row)) nt hl (fun c t H2 _ e2 hc C B c1 b1=>⟨Sle.set _ (Sle.refl _) (fun u z=>by cases z),_,rfl,c,_,_,_,rfl,rfl,SqT.of hc,(by exact atI_nat (j:=0) rfl),_,rfl,rp,_,rfl,.inl (SqL.of (e2 _ _ hrow)),rfl,qFp _,_,rfl,?_⟩) ?_
 ·rw [if_neg (by decide),inV_str]
  exact qFl (fun cc=>⟨_,rfl,c1 _ (Ext.refl _) cc⟩) (fun cc=>b1 _ (Ext.refl _) (by simpa using cc))
 intro as1 H1 e1 pr1 l1 hl1
 have X1:=Ext.new hl1 (.lst (as1.map V.ref))
 have E1:=e1.trans X1
 have n1:qBb (upd H1 l1 (.lst (as1.map V.ref))) l1 (qEr net row):=⟨as1,upd_same,Paired.mapP pr1 fun a t z=>X1 _ _ z⟩
 have rs1:qFz (nmS (qEr net row)):=rs.sublist (hBk.map _)
 have nd1:=qCr rs1
 have lN:(qEr net row).length<=12:=hAv (hAw _ _) hl
 revert E1 n1 X1
 generalize upd H1 l1 (.lst (as1.map V.ref))=G1'
 intro X1 E1 n1
 obtain ⟨t0,r0,eN⟩:∃ t r,qEr net row=t :: r:=by cases e:qEr net row with | nil=>exact absurd e mi.ne | cons t r=>exact ⟨t,r,rfl⟩
 have q:=fun r W H' a b c d=>q r t0 r0 W H' a b c eN d
 clear pr1 hl1 X1
 generalize hN:qEr net row=N at *
 refine ⟨_,rfl,l1,N,rfl,n1,lN,fun r2 H2 e2 r20 h2=>?_⟩
 rw [show N.map (fun x=>x.1)=row from sn] at h2
 refine ⟨_,rfl,_,_,qGl h2,qGl ((E1.trans e2) _ _ hrow),qB2 okr,qB2 okr,_,rfl,?_⟩
 rw [if_pos rfl,eqv_row,decide_eq_true rfl]
 refine iteF ?_
 refine ⟨_,rfl,l1,N,rfl,n1.ext e2,lN,fun b H3 e3 hb=>?_⟩
 obtain ⟨ps,pk⟩:=pts_ex N
 have hb:b=true:=hb.mpr (mi.isOne rs1 pk)
 subst hb
 refine ⟨true,rfl,iteF ?_⟩
 have E3:=E1.trans (e2.trans e3)
 have n3:=n1.ext (e2.trans e3)
 clear n1 h2 r20 e2 e3 E1
 obtain ⟨as3,h3,pr3⟩:=id n3
 rw [eN] at pr3
 cases pr3 with
 | cons a0 pr4 =>
  rename_i x0 as4
  refine ⟨_,rfl,l1,_,_,_,rfl,rfl,SqL.of h3,(by exact atI_nat (j:=0) rfl),x0,_,_,_,rfl,rfl,SqT.of a0,(by exact atI_nat (j:=1) rfl),?_⟩
  refine ⟨hAt _,fun to to1=>?_⟩
  have to0:=E3.none to1
  have X4:=Ext.new to1 (.lst [])
  have h40:qBb (upd H3 to (.lst [])) to []:=⟨[],upd_same,.nil⟩
  have n4:=n3.ext X4
  have E4:=E3.trans X4
  have lne:l1≠to:=qAd h3 to1
  clear h3 a0 pr4 n3
  revert X4 h40 n4 E4
  generalize upd H3 to (.lst [])=H4
  intro X4 h40 n4 E4
  refine ⟨WkWd H p rp to N t0.2.1,⟨_,N,t0.2.1,[],l1,none,none,none,none,rfl,rfl,E4,n4,lne,h40,Way.start _ _⟩,?_⟩
  clear n4 E4 h40 X4 E3 to1 lne
  rintro k σ H' ⟨R,pt,W,rl,x5,x6,x7,x8,rfl,rfl,e,nR,rne,nW,way⟩
  obtain ⟨as,hrl,prR⟩:=id nR
  have la:as.length=R.length:=prR.length
  refine ⟨_,rfl,!(as.map V.ref).isEmpty,.inl ⟨_,SqL.of hrl,rfl⟩,?_⟩
  have lR:R.length<=12:=by
   rw [way.r]
   exact hAv (hAw _ _) lN
  cases hR:R with
  | nil =>
   rw [hR] at la
   have:as=[]:=hB1.mp la
   rw [this]
   refine iteF ?_
   rw [hR] at way
   exact ⟨_,rfl,q to W H' e to0 nW (way.done mi nd1)⟩
  | cons u R' =>
   have ne:R≠[]:=by rw [hR];simp
   rw [<-hR]
   have:(as.map V.ref).isEmpty=false:=by cases has:as with | nil=>rw [has,hR] at la;cases la | cons a l=>rfl
   rw [this]
   refine iteT ⟨fun σ' H'=>∃ k',k'<R.length/\WkWd H p rp to N t0.2.1 k' σ' H',fun _ _ h=>h,?_⟩
   clear this hR R' u
   obtain ⟨t,r,et⟩:=way.goes mi nd1 eN ne
   refine ⟨_,rfl,rl,rfl,⟨_,SqL.of hrl⟩,?_⟩
   refine keep_net (tch pt) nR lR (fun c t H2 _ e2 hc C B c1 b1=>⟨Sle.set _ (Sle.refl _) (fun u z=>by cases z),_,rfl,_,rfl,_,rfl,c,_,rfl,SqT.of hc,(by show ¬(1=0/\_);exact fun z=>absurd z.1 (by decide)),fun s hs=>?_⟩) ?_
   ·have Xs:=Ext.new hs (.tup [V.str t.2.1,V.str t.2.2])
    refine ⟨s,_,rfl,.inr (SqT.of upd_same),rfl,qFp [t.2.1,t.2.2],_,rfl,?_⟩
    rw [if_neg (by decide)]
    rw [show inV (.str pt) (cutV (trV t) (some 1) none)=decide (pt∈[t.2.1,t.2.2]) from inV_str pt [t.2.1,t.2.2]]
    have ec:decide (pt∈[t.2.1,t.2.2])=tch pt t:=decide_eq_decide.mpr (by simp)
    rw [ec]
    exact qFl (fun cc=>⟨_,rfl,c1 _ Xs cc⟩) (fun cc=>b1 _ Xs (by simpa using cc))
   intro as2 H2 e2 pr2 l2 hl2
   rw [et] at pr2
   cases pr2 with
   | cons h2 pr3 =>
    rename_i a2 as3
    have X2:=Ext.new hl2 (.lst ((a2 :: as3).map V.ref))
    refine ⟨l2,_,_,_,rfl,rfl,SqL.of upd_same,(by exact atI_nat (j:=0) rfl),?_⟩
    refine ⟨a2,_,rfl,SqT.of (X2 _ _ h2),rfl,_,_,rfl,_,_,rfl,_,_,rfl,rfl,?_⟩
    have E2:=e.trans (e2.trans X2)
    have nR2:=nR.ext (e2.trans X2)
    have nW2:=nW.ext (e2.trans X2)
    revert X2 E2 nR2 nW2
    generalize upd H2 l2 (.lst ((a2 :: as3).map V.ref))=H3'
    intro X2 E2 nR2 nW2
    clear h2 pr3 hl2 X2
    refine ⟨fun σ' Hq=>σ'=[some (.ref p),some (.ref rp),some (.ref rl),some (.str pt),some (.ref to),some (.str t.1),some (.str t.2.1),some (.str t.2.2),some (.str (goalF pt t))]/\Hq=H3',?_,?_⟩
    ·refine ⟨_,rfl,_,rfl,rfl,_,rfl,?_⟩
     unfold goalF
     refine qFl (fun c=>?_) (fun c=>?_)
     ·have:pt=t.2.1:=by simpa using c
      rw [if_pos this]
      exact ⟨_,rfl,rfl,rfl⟩
     ·have:¬pt=t.2.1:=by simpa using c
      rw [if_neg this]
      exact ⟨_,rfl,rfl,rfl⟩
    rintro σ' H' ⟨rfl,rfl⟩
    obtain ⟨ws,hto,prW⟩:=id nW2
    have lW:ws.length=W.length:=prW.length
    have wl:=way_len way nd1
    refine ⟨_,rfl,.inl ⟨rfl,_,SqL.of hto⟩,_,rfl,_,rfl,_,rfl,(by show 3<=sizeLine;decide),fun wt hwt=>?_⟩
    have Xt:=Ext.new hwt (.tup [V.str t.1,V.str pt,V.str (goalF pt t)])
    have hto2:=Xt _ _ hto
    refine ⟨to,_,_,rfl,rfl,hto2,(by rw [hA1];exact qAh (by omega)),?_⟩
    have nR3:qBb (upd (upd H' wt (.tup [V.str t.1,V.str pt,V.str (goalF pt t)])) to (.lst (ws.map V.ref++[V.ref wt]))) rl R:=(nR2.ext Xt).set hto2 rne
    have wto:wt≠to:=fun z=>by rw [z,hto] at hwt;cases hwt
    have nW3:qBb (upd (upd H' wt (.tup [V.str t.1,V.str pt,V.str (goalF pt t)])) to (.lst (ws.map V.ref++[V.ref wt]))) to (W++[(t.1,pt,goalF pt t)]):=by
     refine ⟨ws++[wt],by rw [upd_same,hAa];rfl,Paired.snoc (Paired.mapP prW fun a u z=>?_) ?_⟩
     ·rw [qAe (fun e=>by rw [e,hto] at z;cases z)]
      exact Xt _ _ z
     ·rw [qAe wto];exact upd_same
    have E3':Ext H (upd (upd H' wt (.tup [V.str t.1,V.str pt,V.str (goalF pt t)])) to (.lst (ws.map V.ref++[V.ref wt]))):=(E2.trans Xt).over to0 _
    revert nR3 nW3 E3'
    generalize upd (upd H' wt (.tup [V.str t.1,V.str pt,V.str (goalF pt t)])) to (.lst (ws.map V.ref++[V.ref wt]))=H5
    intro nR3 nW3 E3'
    clear hto hto2 prW Xt hwt wto lW
    obtain ⟨as5,hrl5,_⟩:=id nR3
    refine ⟨_,rfl,rl,rfl,⟨_,SqL.of hrl5⟩,?_⟩
    refine keep_net (fun u=>!decide (u.1=t.1)) nR3 lR (fun c u H2 _ e2 hc C B c1 b1=>⟨Sle.set _ (Sle.refl _) (fun u z=>by cases z),_,rfl,c,_,_,_,rfl,rfl,SqT.of hc,(by exact atI_nat (j:=0) rfl),_,rfl,rfl,_,rfl,?_⟩) ?_
    ·have ec:(!decide (V.str u.1=V.str t.1))=!decide (u.1=t.1):=by
      congr 1
      exact decide_eq_decide.mpr ⟨fun h=>by injection h,fun h=>by rw [h]⟩
     rw [ec]
     exact qFl (fun cc=>⟨_,rfl,c1 _ (Ext.refl _) cc⟩) (fun cc=>b1 _ (Ext.refl _) (by simpa using cc))
    intro as6 H6 e6 pr6 l6 hl6
    have X6:=Ext.new hl6 (.lst (as6.map V.ref))
    have hR':t∈R:=(hAg.mp (by rw [et];exact hA2:t∈R.filter (tch pt))).1
    have ndR:(nmS R).Nodup:=by rw [way.r];exact nd1.sublist (hBk.map _)
    have ol:=out_len (N:=N) ndR hR'
    have nW6:=nW3.ext (e6.trans X6)
    obtain ⟨_,hto6,_⟩:=id (nW3.ext e6)
    exact ⟨_,rfl,(outF t.1 R).length,by omega,outF t.1 R,goalF pt t,_,l6,_,_,_,_,rfl,rfl,E3'.trans (e6.trans X6),⟨as6,upd_same,Paired.mapP pr6 fun a u z=>X6 _ _ z⟩,(fun z=>by rw [<-z,hl6] at hto6;cases hto6),nW6,way.next nd1 et⟩
end
end My
namespace L2
open PySem PySem.Spec PyProof.Rows PySem.SeqAt
def rNotInD (K:PySem.W.Frag):R2:=fun x y H Q=>∃ ds d,DR K H y (.list ds)/\DR K H x d/\shaped (.list ds)=true/\shaped d=true/\Q (.bl (!ds.any fun z=>PyData.eqv z d)) H
theorem op_notInD {X:Cx} (hu:X.A.units+65<cLine):OpR X (compareOp .NotIn) (rNotInD X.K):=by
 intro pins s σ H x y v u Q I rx ry h
 obtain ⟨ds,d,hy,hx,sy,sx,q⟩:=h
 obtain ⟨a1,r1⟩:=DR.reads I hx rx
 obtain ⟨a2,r2⟩:=DR.reads I hy ry
 exact notIn_list_reads r2 r1 (canLay_of_shaped sy) (canLay_of_shaped sx) (room_in_shaped sx hu) ⟨.bl _,H,I,rfl,q⟩
end L2
namespace My
open PySem L2
theorem room65 {k:Nat} {A:Around} (hr:Room k A):A.units+65<cLine:=by have:=hr.un;omega
def rIsi (K:PySem.W.Frag):List V->Hp->VK->Prop:=fun xs H Q=>∃ x t c b,xs=[x,.ty c]/\TyOf K H x t/\PySem.W.kitOne K t (.type c)=some b/\Q (.bl b) H
section
variable {N:List Tr} {W:List Wk} {p0:Str}
theorem chn_first {q:Str} {w:Wk} (h:Chn N p0 W q) (hw:W[0]?=some w):w.2.1=p0:=by
 cases W with
 | nil=>cases hw
 | cons v V=>cases hw;exact h.1
theorem chn_next:∀ {W:List Wk} {p q:Str},Chn N p W q->∀ {i:Nat} {w:Wk},W[i]?=some w->(∀ v,W[i+1]?=some v->w.2.2=v.2.1)/\(i+1=W.length->w.2.2=q)
 | [],_,_,_,i,w,hw=>by cases hw
 | u :: V,p,q,h,0,w,hw=>by
  cases hw
  refine ⟨fun v hv=>?_,fun e=>?_⟩
  ·exact (chn_first h.2.2 (by simpa using hv)).symm
  ·have:V=[]:=hB1.mp (by simpa using e.symm)
   subst this
   exact h.2.2
 | u :: V,p,q,h,i+1,w,hw=>by
  have:=chn_next h.2.2 (i:=i) (w:=w) (by simpa using hw)
  exact ⟨fun v hv=>this.1 v (by simpa using hv),fun e=>this.2 (by simpa using e)⟩
theorem Done.len (h:Done N p0 W) (nd:(nmS N).Nodup):W.length=N.length:=by
 have sub:∀ x∈wn W,x∈nmS N:=fun x hx=>by
  obtain ⟨w,hw,rfl⟩:=hAb.mp hx
  obtain ⟨t,ht,e,_⟩:=qD8 h.c w hw
  exact hAb.mpr ⟨t,ht,e⟩
 have p:(wn W).Perm (nmS N):=(hBd h.nd nd).mpr fun x=>⟨sub x,fun hx=>by obtain ⟨t,ht,rfl⟩:=hAb.mp hx;exact h.all t ht⟩
 have:=p.length_eq
 rw [hA1,hA1] at this
 exact this
theorem Done.perm (h:Done N p0 W) (nd:(nmS N).Nodup):(wn W).Perm (nmS N):=by
 have sub:∀ x∈wn W,x∈nmS N:=fun x hx=>by
  obtain ⟨w,hw,rfl⟩:=hAb.mp hx
  obtain ⟨t,ht,e,_⟩:=qD8 h.c w hw
  exact hAb.mpr ⟨t,ht,e⟩
 exact (hBd h.nd nd).mpr fun x=>⟨sub x,fun hx=>by obtain ⟨t,ht,rfl⟩:=hAb.mp hx;exact h.all t ht⟩
theorem Done.head {t0:Tr} {r0:List Tr} (e:N=t0 :: r0) (h:Done N t0.2.1 W):∃ V,W=t0 :: V:=by
 have hf:N.filter (tch t0.2.1)=t0 :: r0.filter (tch t0.2.1):=by
  rw [e,List.filter_cons_of_pos]
  unfold tch
  exact decide_eq_true (.inl rfl)
 have hl:N.length=r0.length+1:=by rw [e];rfl
 refine ⟨wkF r0.length (outF t0.1 N) (goalF t0.2.1 t0),?_⟩
 rw [h.e,hl,wkF_cons hf]
 have:goalF t0.2.1 t0=t0.2.2:=by unfold goalF;rw [if_pos rfl]
 rw [this]
theorem Done.step (h:Done N p0 W) {i:Nat} {w v:Wk} (hw:W[i]?=some w) (hv:W[(i+1) % W.length]?=some v):w.2.2=v.2.1:=by
 have hi:=qAx hw
 have nx:=chn_next h.c hw
 by_cases c:i+1=W.length
 ·rw [c,Nat.mod_self] at hv
  rw [nx.2 c,chn_first h.c hv]
 ·rw [Nat.mod_eq_of_lt (by omega)] at hv
  exact nx.1 v hv
theorem Done.nds (mi:Min N) (nd:(nmS N).Nodup) (h:Done N p0 W):(W.map fun w=>w.2.1).Nodup:=mi.starts nd (A:=[]) h.c h.nd
end
def pairD (a b:Str):PyData:=.tuple [.str a,.str b]
theorem eqv_pair (a b:Str):PyData.eqv (pairD a b) (pairD a b)=true:=by
 show (PyData.eqv (.str a) (.str a) && (PyData.eqv (.str b) (.str b) && true))=true
 simp [PyData.eqv]
def spLWal:Sp:=fun vs H Q _=>∃ (np rp fp:Addr) (net:List Tr) (row:List Str) (W:List Wk) (t0:Tr) (r0:List Tr),vs=[.ref np,.ref rp,.ref fp]/\qBb H np net/\LsS H rp row/\qBb H fp W/\net.length<=12/\TxN net/\qFz (nmS net)/\nmS (qEr net row)=row/\Min (qEr net row)/\qEr net row=t0 :: r0/\Done (qEr net row) t0.2.1 W/\∀ H',Ext H H'->Q (.bl true) H'
section
variable {P:Program} {w:World} {K:PySem.W.Frag} {mg:Str->Option Value} {base:Heap} {f f1 f2 f3 f4 f5 f6 Pt:Addr} {fd fd1 fd2 fd3 fd4 fd5 fd6:FuncData}
abbrev wlN:List Str:=["_law_net_here","_law_row","_law_found","_law_ties","_law_name","_law_one","_law_other","_law_k","_law_part"]
theorem qE3:FnScope wlN ["_law_net_here","_law_row","_law_found"] (qAb qBy):=⟨rfl,rfl,rfl,by decide +kernel,rfl,by decide +kernel,by decide +kernel⟩
theorem ok_lwal (F:Fun K "_law_walked" "_law_walked" qBy f fd) (mi:mg "isinstance" = none) (mL:mg "list" = none) (mtu:mg "tuple" = none) (mal:mg "all" = none) (ml:mg "len" = none) (mso:mg "sorted" = none) (me:mg "enumerate" = none) (mst:mg "set" = none):FnOk P w K mg base CX0 2 f fd ["_law_net_here","_law_row","_law_found"] spLWal:=by
 refine F.ok qE3 (fun vs H Q E h=>?_) (fun cdv A outer s H vs Q E hr h=>?_)
 ·obtain ⟨np,rp,fp,net,row,W,t0,r0,rfl,_⟩:=h
  rfl
 obtain ⟨np,rp,fp,net,row,W,t0,r0,rfl,nt,hrow,nW,l12,tx,rs,sn,min,eN,dn,q⟩:=h
 refine ⟨_,pss_cons (qD1 (PW.pt (pw_or (pt_not (pt_val (qAn qFr rfl mi qFt (qAa (pv 2) (qAa (pe_bltn (v:=.ty "list") rfl mL qBn rfl) qAc))))) (pw_or1 (pt_not (pt_val (qAn (call_allB rfl) rfl mal boot_all' (qAa (pe_lc (N:=wlN) (sc:=qAb qBy) (N':=["_law_part"]) (sub:=[none]) rfl rfl (CmpOk.of (by decide +kernel)) rfl (qAs (pv 2)) (fun C s H fp=>⟨qAf (i:=0) (by show (["_law_part"]:List Str).Nodup;decide) rfl (Or.inl rfl),qA4,(pe_and (qAn (show qBq _ (.builtin "isinstance") (rIsi K) from qFr) rfl mi qFt (qAa (pv 0) (qAa (pe_bltn (v:=.ty "tuple") rfl mtu qFs rfl) qAc))) (pe_one (qCt qDm (qAn (show qBq _ (.builtin "len") (rLenS K) from qAw) rfl ml hBz (qAa (pv 0) qAc)) qAg (qA1 _))))⟩)) qAc))))))) (qAi (qAv pe_bl)) qBr) (pss_cons (qAp (i:=3) qE3.nd rfl (Or.inl rfl) pe_dnewK) (pss_cons (qBs PassesOwn.never rfl (qAs (pv 0)) (qBt rfl (qAk (qAf (i:=4) qE3.nd rfl (Or.inl rfl)) (qAk (qAf (i:=5) qE3.nd rfl (Or.inl rfl)) (qAk (qAf (i:=6) qE3.nd rfl (Or.inl rfl)) qBe)))) (qAi (ps_dput (hu_of hr) (pv 3) (pv 4) (qBu (qAa (pv 5) (qAa (pv 6) qAc))) rfl))) (pss_cons (qD1 (PW.pt (pw_or (qAu (qGd (qFa hr)) (qAn qEi rfl mso qBj (qAa (pe_lc (N:=wlN) (sc:=qAb qBy) (N':=["_law_part"]) (sub:=[none]) rfl rfl (CmpOk.of (by decide +kernel)) rfl (qAs (pv 2)) (fun C s H fp=>⟨qAf (i:=0) (by show (["_law_part"]:List Str).Nodup;decide) rfl (Or.inl rfl),qA4,(pe_ix (show IxR _ (rIxT K) from qBw) (pv 0) qAg (fun _ _=>rfl))⟩)) qAc)) (pv 1) (qA1 _)) (pw_or1 (qAu (qGd (qFa hr)) (pe_ix ix_list (pv 2) qAg (fun _ _=>rfl)) (qAo op_catT (qBu (qAa (pe_ix ix_list (pv 1) qAg (fun _ _=>rfl)) qAc)) (qD2 (hu_of hr) (pv 3) (pe_ix ix_list (pv 1) qAg (fun _ _=>rfl)) (fun _ _=>rfl))) (qA1 _))))) (qAi (qAv pe_bl)) qBr) (pss_cons (qBs PassesOwn.never rfl (pi_enum rfl me (qAa (pv 2) qAc)) (qBt rfl (qAk (qAf (i:=7) qE3.nd rfl (Or.inl rfl)) (qAk (qAf (i:=8) qE3.nd rfl (Or.inl rfl)) qBe))) (pss_cons (qD1 (qAu (op_notInD (room65 hr)) (qD2 (hu_of hr) (pv 3) (pe_ix qBw (pv 8) qAg (fun _ _=>rfl)) (fun _ _=>rfl)) (qCh (qAa (qBu (qAa (pe_ix qBw (pv 8) qAg (fun _ _=>rfl)) (qAa (pe_ix qBw (pv 8) qAg (fun _ _=>rfl)) qAc))) (qAa (qBu (qAa (pe_ix qBw (pv 8) qAg (fun _ _=>rfl)) (qAa (pe_ix qBw (pv 8) qAg (fun _ _=>rfl)) qAc))) qAc))) (by with_unfolding_all rfl)) (qAi (qAv pe_bl)) qBr) (qAi (qD1 (qAu op_ne (pe_ix qBw (pv 8) qAg (fun _ _=>rfl)) (pe_ix qBw (pe_ix ix_list (pv 2) (qAo qB8 (qAo qBv (pv 7) qAg) (qAn qAw rfl ml hBz (qAa (pv 2) qAc))) (fun _ _=>rfl)) qAg (fun _ _=>rfl)) (qA1 _)) (qAi (qAv pe_bl)) qBr)))) (qAi (qAv (qCt qDm (qAn call_lenSS rfl ml hBz (qAa (qBk (call_setS rfl) rfl mst boot_set' (qAa (pe_lc (N:=wlN) (sc:=qAb qBy) (N':=["_law_part"]) (sub:=[none]) rfl rfl (CmpOk.of (by decide +kernel)) rfl (qAs (pv 2)) (fun C s H fp=>⟨qAf (i:=0) (by show (["_law_part"]:List Str).Nodup;decide) rfl (Or.inl rfl),qA4,(pe_ix (show IxR _ (rIxT K) from qBw) (pv 0) qAg (fun _ _=>rfl))⟩)) qAc)) qAc)) (qAn qAw rfl ml hBz (qAa (pv 2) qAc)) (qA1 _)))))))),?_⟩
 have ndn:=qCr rs
 have rs1:qFz (nmS (qEr net row)):=rs.sublist (hBk.map _)
 have nd1:=qCr rs1
 have lN:(qEr net row).length<=12:=hAv (hAw _ _) l12
 have lW:=dn.len nd1
 obtain ⟨ws,hws,pw⟩:=id nW
 have lws:ws.length=W.length:=pw.length
 refine ⟨_,rfl,_,_,_,true,rfl,.lst hws,kit_same _ _,true,rfl,iteF ?_⟩
 refine ⟨_,rfl,fp,rfl,⟨_,SqL.of hws⟩,?_⟩
 refine qAr (xs:=ws.map V.ref) (fun j ys H2=>H2=H/\ys=(List.replicate j true).map V.bl) ⟨rfl,rfl⟩ (fun j ys H2 _ h=>by rw [h.1];exact SqL.of hws) ?_ ?_
 ·rintro j v ys H5 hx ⟨rfl,rfl⟩
  obtain ⟨c,rfl,hc⟩:=qFb hx
  obtain ⟨wt,hwt,hc1⟩:=qA9 pw hc
  have hj:=qAx hc
  refine ⟨Sle.set _ (Sle.refl _) (fun u z=>by cases z),iteT (B:=False) ⟨_,rfl,_,_,_,true,rfl,.tup hc1,kit_same _ _,true,rfl,iteT (B:=_) ⟨_,rfl,c,_,rfl,.inr (SqT.of hc1),rfl,?_,nxt (qAx hx) ⟨rfl,?_⟩⟩⟩⟩
  ·rw [hA1,List.length_replicate];exact qAh (by omega)
  ·rw [List.replicate_succ',hAa];rfl
 rintro ys H5 ⟨rfl,rfl⟩ l hl
 have Xl:=Ext.new hl (.lst ((List.replicate (ws.map V.ref).length true).map V.bl))
 refine ⟨l,List.replicate (ws.map V.ref).length true,rfl,SqL.of upd_same,_,rfl,?_⟩
 rw [show (List.replicate (ws.map V.ref).length true).all id=true by rw [hCw];intro x hx;exact (List.mem_replicate.mp hx).2]
 refine iteF ?_
 have nt1:=nt.ext Xl
 have hrow1:LsS _ rp row:=Xl _ _ hrow
 have nW1:=nW.ext Xl
 revert Xl nt1 hrow1 nW1
 generalize upd H5 l (.lst ((List.replicate (ws.map V.ref).length true).map V.bl))=H1
 intro Xl nt1 hrow1 nW1
 clear hws pw
 refine fun d hd=>?_
 have d0:=Xl.none hd
 have Xd:=Ext.new hd (.dK [])
 obtain ⟨as,has,pas⟩:=id nt1
 have las:as.length=net.length:=pas.length
 refine ⟨_,rfl,np,rfl,⟨_,SqL.of (Xd _ _ has)⟩,?_⟩
 refine qBz (xs:=as.map V.ref) (fun i σ H'=>∃ (x4 x5 x6:Option V) (kvs:List (Key×V)),σ=[some (.ref np),some (.ref rp),some (.ref fp),some (.ref d),x4,x5,x6,none,none]/\Ext H1 H'/\H' d=some (.dK kvs)/\kvs.length<=i/\∀ t∈net.take i,∃ c,valV kvs (Sum.inr t.1)=some (.ref c)/\H' c=some (.tup [V.str t.2.1,V.str t.2.2])) ⟨none,none,none,[],rfl,Xd,upd_same,hA5 _,fun t ht=>(by cases ht)⟩ (fun i σ H' _ h=>by obtain ⟨_,_,_,_,_,e,_⟩:=h;exact SqL.of (e _ _ has)) ?_ ?_
 ·rintro i v σ H' hx ⟨x4,x5,x6,kvs,rfl,e,hd',lk,al⟩
  obtain ⟨c,t,rfl,ht,hc⟩:=qCk pas hx
  have hi:=qAx ht
  refine ⟨c,_,rfl,SqT.of (e _ _ hc),rfl,_,_,rfl,_,_,rfl,_,_,rfl,rfl,?_⟩
  refine ⟨_,rfl,_,rfl,(by show 2<=sizeLine;decide),fun u hu=>?_⟩
  have Xu:=Ext.new hu (.tup [V.str t.2.1,V.str t.2.2])
  have hud:u≠d:=fun z=>by rw [z,hd'] at hu;cases hu
  refine ⟨_,rfl,_,rfl,d,_,rfl,DPut.k (k:=Sum.inr t.1) (Xu _ _ hd') (qAh (by omega)),?_⟩
  refine ⟨_,_,_,qEn kvs (Sum.inr t.1) (.ref u),rfl,(e.trans Xu).over hd _,upd_same,hAv (qCl _ _ _) (by omega),fun t' ht'=>?_⟩
  rw [valV_put]
  rw [qAj ht] at ht'
  rcases hAf.mp ht' with z | z
  ·obtain ⟨c',h1,h2⟩:=al t' z
   have ne:¬(Sum.inr t'.1:Key)=Sum.inr t.1:=fun e1=>by
    injection e1 with e1
    have m1:t'∈net:=hD1 z
    have e2:=nm_inj ndn m1 (hAr ht) e1
    rw [e2] at z
    have nd0:net.Nodup:=(hBt.mp ndn).imp fun {a b} h e=>h (by rw [e])
    have nd2:(net.take (i+1)).Nodup:=nd0.sublist (hDj _ _)
    rw [qAj ht,hC8] at nd2
    exact nd2.2.2 t z t (by simp) rfl
   rw [if_neg ne]
   exact ⟨c',h1,by rw [qAe (fun z=>by rw [z,hd'] at h2;cases h2)];exact Xu _ _ h2⟩
  ·rw [hA7.mp z,if_pos rfl]
   exact ⟨u,rfl,by rw [qAe hud];exact upd_same⟩
 rintro σ H2 ⟨x4,x5,x6,kvs,rfl,e2,hd2,_,al⟩
 rw [hA1,las,hA8 (hA5 _)] at al
 have nW2:=nW1.ext e2
 have hrow2:=e2 _ _ hrow1
 clear nW1 nt1 Xd has pas hd
 have E2:=Xl.trans e2
 obtain ⟨ws2,hws,pw⟩:=id nW2
 have lws2:ws2.length=W.length:=pw.length
 have okr:SOk row:=fun x hx=>by
  rw [<-sn] at hx
  obtain ⟨t,ht,rfl⟩:=hAb.mp hx
  exact (tx t (hAg.mp ht).1).1.ok
 refine ⟨_,rfl,fp,rfl,⟨_,SqL.of hws⟩,?_⟩
 refine qAr (xs:=ws2.map V.ref) (fun j ys H3=>H3=H2/\ys=(wn (W.take j)).map V.str) ⟨rfl,rfl⟩ (fun j ys H3 _ h=>by rw [h.1];exact SqL.of hws) ?_ ?_
 ·rintro j v ys H3 hx ⟨rfl,rfl⟩
  obtain ⟨c,wt,rfl,hwt,hc⟩:=qCk pw hx
  have hj:=qAx hwt
  refine ⟨Sle.set _ (Sle.refl _) (fun u z=>by cases z),iteT (B:=False) ⟨_,rfl,c,_,_,_,rfl,rfl,SqT.of hc,(by exact atI_nat (j:=0) rfl),?_,nxt (qAx hx) ⟨rfl,?_⟩⟩⟩
  ·rw [hA1,hA1,hAh];exact qAh (by omega)
  ·rw [qAj hwt,show wn (W.take j++[wt])=wn (W.take j)++[wt.1] from hAa,hAa];rfl
 rintro ys H3 ⟨rfl,rfl⟩ l1 hl1
 rw [hA1,lws2,hA8 (hA5 _)]
 have X1:=Ext.new hl1 (.lst ((wn W).map V.str))
 refine ⟨l1,wn W,rfl,SqL.of upd_same,(by rw [hA1];omega),fun l2 ss hl2 pss so=>?_⟩
 have X2:=Ext.new hl2 (.lst (ss.map V.str))
 have es:ss=row:=by
  have pr:ss.Perm (nmS (qEr net row)):=pss.trans (dn.perm nd1)
  have r1:qFz ss:=rise_of so (pr.nodup_iff.mpr nd1)
  rw [<-sn]
  exact rise_ext r1 rs1 fun x=>pr.mem_iff
 subst es
 have h2:LsS (upd (upd H3 l1 (.lst ((wn W).map V.str))) l2 (.lst (ss.map V.str))) l2 ss:=upd_same
 refine ⟨_,rfl,_,_,qGl h2,qGl ((X1.trans X2) _ _ hrow2),qB2 okr,qB2 okr,_,rfl,?_⟩
 rw [if_pos rfl,eqv_row,decide_eq_true rfl]
 refine iteF ?_
 have E4:=E2.trans (X1.trans X2)
 have nW4:=nW2.ext (X1.trans X2)
 have hrow4:LsS _ rp ss:=(X1.trans X2) _ _ hrow2
 have hd4:=(X1.trans X2) _ _ hd2
 have al4:∀ t∈net,∃ c,valV kvs (Sum.inr t.1)=some (.ref c)/\(upd (upd H3 l1 (.lst ((wn W).map V.str))) l2 (.lst (ss.map V.str))) c=some (.tup [V.str t.2.1,V.str t.2.2]):=fun t ht=>by
  obtain ⟨c,h1,h2⟩:=al t ht
  exact ⟨c,h1,(X1.trans X2) _ _ h2⟩
 clear al hd2 hrow2 nW2 h2 hws pw hl1
 revert E4 nW4 hrow4 hd4 al4
 generalize upd (upd H3 l1 (.lst ((wn W).map V.str))) l2 (.lst (ss.map V.str))=H4
 intro E4 nW4 hrow4 hd4 al4
 clear X1 X2 hl2 e2 E2 Xl
 obtain ⟨V0,eW⟩:=dn.head eN
 obtain ⟨ws4,hws,pw⟩:=id nW4
 have lws4:ws4.length=W.length:=pw.length
 have m0:t0∈net:=(hAg.mp (by rw [eN];exact hA2:t0∈qEr net ss)).1
 have er:t0.1 :: nmS r0=ss:=by have h:=sn;rw [eN] at h;exact h
 have hrow5:=hrow4
 unfold LsS at hrow5
 rw [<-er] at hrow5
 have pw':=pw
 rw [eW] at pw'
 cases hws4:ws4 with
 | nil=>rw [hws4,eW] at lws4;cases lws4
 | cons a0 as0 =>
 rw [hws4] at pw' hws
 cases pw' with
 | cons h0 pw0 =>
 obtain ⟨c0,v0,hc0⟩:=al4 t0 m0
 refine ⟨_,rfl,fp,_,_,_,rfl,rfl,SqL.of hws,(by exact atI_nat (j:=0) rfl),?_⟩
 refine ⟨_,rfl,rp,_,_,_,rfl,rfl,SqL.of hrow5,(by exact atI_nat (j:=0) rfl),(by show 1<=sizeLine;decide),fun u hu=>?_⟩
 have Xu:=Ext.new hu (.tup [V.str t0.1])
 refine ⟨_,rfl,_,rfl,rp,_,_,_,rfl,rfl,SqL.of (Xu _ _ hrow5),(by exact atI_nat (j:=0) rfl),d,_,rfl,(by rw [<-v0];exact DGet.k (k:=Sum.inr t0.1) (Xu _ _ hd4)),?_⟩
 refine ⟨u,c0,_,_,rfl,rfl,SqT.of upd_same,SqT.of (Xu _ _ hc0),(by simp),(by show 3<=sizeLine;decide),(fun z=>by cases z),fun _ u2 hu2=>?_⟩
 have Xu2:=Ext.new hu2 (.tup ([V.str t0.1]++[V.str t0.2.1,V.str t0.2.2]))
 have tx0:=tx t0 m0
 have dr0:∀ {H:Hp} {a:Addr},H a=some (.tup (trV t0))->DR K H (.ref a) (trD t0):=fun h=>.tup (SqT.of h) (.cons (.str _) (.cons (.str _) (.cons (.str _) .nil)))
 have sh0:SeqAt.shaped (trD t0)=true:=by
  show ((PyData.strOk t0.1 && (PyData.strOk t0.2.1 && (PyData.strOk t0.2.2 && true))) && decide (max 0 (max 0 (max 0 0))+1<=64))=true
  rw [tx0.1.ok,tx0.2.1.ok,tx0.2.2.ok];rfl
 refine ⟨_,_,dr0 ((Xu.trans Xu2) _ _ h0),dr0 upd_same,sh0,sh0,_,rfl,?_⟩
 rw [if_pos rfl,eqv_tr]
 refine iteF ?_
 have E6:=E4.trans (Xu.trans Xu2)
 have hd6:=(Xu.trans Xu2) _ _ hd4
 have nW6:=nW4.ext (Xu.trans Xu2)
 have al6:∀ t∈net,∃ c,valV kvs (Sum.inr t.1)=some (.ref c)/\(upd (upd H4 u (.tup [V.str t0.1])) u2 (.tup ([V.str t0.1]++[V.str t0.2.1,V.str t0.2.2]))) c=some (.tup [V.str t.2.1,V.str t.2.2]):=fun t ht=>by
  obtain ⟨c,h1,h2⟩:=al4 t ht
  exact ⟨c,h1,(Xu.trans Xu2) _ _ h2⟩
 clear hws pw pw0 hrow5 hc0 v0 h0 hu al4 hd4 nW4 E4 dr0 sh0 hrow4
 revert E6 hd6 nW6 al6
 generalize upd (upd H4 u (.tup [V.str t0.1])) u2 (.tup ([V.str t0.1]++[V.str t0.2.1,V.str t0.2.2]))=H6
 intro E6 hd6 nW6 al6
 clear Xu Xu2 hu2
 obtain ⟨us,hus,pu⟩:=id nW6
 have lus:us.length=W.length:=pu.length
 refine ⟨_,rfl,fp,_,rfl,SqL.of hus,?_⟩
 rw [hA1]
 refine for_pairs (fun i' σ H7=>∃ (x7 x8:Option V),σ=[some (.ref np),some (.ref rp),some (.ref fp),some (.ref d),x4,x5,x6,x7,x8]/\Ext H6 H7) ⟨none,none,rfl,Ext.refl _⟩ ?_ ?_ ?_
 ·rintro i' σ H7 _ ⟨x7,x8,_,e7⟩
  exact SqL.of (e7 _ _ hus)
 ·rintro j σ H7 U hj ⟨x7,x8,rfl,e7⟩ hU
  have hjW:j<W.length:=by omega
  have hw:=hA3 hjW
  obtain ⟨c,hc⟩:∃ c,us[j]?=some c:=⟨_,hA3 hj⟩
  obtain ⟨wt,hwt,hct⟩:=qA9 pu hc
  have gj:(us.map V.ref).getD j .non = .ref c:=by rw [hAe,hAj,hc];rfl
  dsimp only
  rw [gj]
  have Y:=Ext.new hU (.tup [V.int (j:Nat),V.ref c])
  have hc7:=(e7.trans Y) _ _ hct
  have hd7:=(e7.trans Y) _ _ hd6
  have hus7:=(e7.trans Y) _ _ hus
  obtain ⟨t,ht,et,ends⟩:=qD8 dn.c wt (hAr hwt)
  have htn:=(hAg.mp ht).1
  obtain ⟨c',vc,hc'⟩:=al6 t htn
  have hc'7:=(e7.trans Y) _ _ hc'
  obtain ⟨m,hm⟩:∃ v,W[(j+1) % W.length]?=some v:=⟨_,hA3 (Nat.mod_lt _ (by omega))⟩
  obtain ⟨cm,hcm⟩:∃ cm,us[(j+1) % W.length]?=some cm:=⟨_,hA3 (by rw [lus];exact Nat.mod_lt _ (by omega))⟩
  obtain ⟨m',hm',hcm'⟩:=qA9 pu hcm
  rw [hm] at hm'
  cases hm'
  have hcm7:=(e7.trans Y) _ _ hcm'
  have stp:=dn.step hwt hm
  refine ⟨U,_,rfl,SqT.of upd_same,rfl,_,_,rfl,_,_,rfl,rfl,?_⟩
  have e8:=e7.trans Y
  revert hc7 hd7 hus7 hc'7 hcm7 e8
  generalize upd H7 U (.tup [V.int (j:Nat),V.ref c])=H8
  intro hc7 hd7 hus7 hc'7 hcm7 e8
  clear Y hU e7
  refine ⟨_,rfl,_,rfl,c,_,_,_,rfl,rfl,SqT.of hc7,(by exact atI_nat (j:=0) rfl),d,_,rfl,(by rw [<-vc,et];exact DGet.k (k:=Sum.inr wt.1) hd7),?_⟩
  refine ⟨_,rfl,c,_,_,_,rfl,rfl,SqT.of hc7,(by exact atI_nat (j:=1) rfl),_,rfl,c,_,_,_,rfl,rfl,SqT.of hc7,(by exact atI_nat (j:=2) rfl),(by show 2<=sizeLine;decide),fun u1 hu1=>?_⟩
  have Z1:=Ext.new hu1 (.tup [V.str wt.2.1,V.str wt.2.2])
  refine ⟨_,rfl,c,_,_,_,rfl,rfl,SqT.of (Z1 _ _ hc7),(by exact atI_nat (j:=2) rfl),_,rfl,c,_,_,_,rfl,rfl,SqT.of (Z1 _ _ hc7),(by exact atI_nat (j:=1) rfl),(by show 2<=sizeLine;decide),fun u2 hu2=>?_⟩
  have Z2:=Ext.new hu2 (.tup [V.str wt.2.2,V.str wt.2.1])
  refine ⟨(by show 2<=sizeLine;decide),fun lu hlu=>?_⟩
  have Z3:=Ext.new hlu (.lst [V.ref u1,V.ref u2])
  have drp:∀ {H:Hp} {a:Addr} {x y:Str},H a=some (.tup [V.str x,V.str y])->DR K H (.ref a) (pairD x y):=fun h=>.tup (SqT.of h) (.cons (.str _) (.cons (.str _) .nil))
  have okt:=tx t htn
  have k1:PyData.strOk wt.2.1=true:=by rcases ends with ⟨a,b⟩ | ⟨a,b⟩ <;> first | (rw [<-a];exact okt.2.1.ok) | (rw [<-b];exact okt.2.2.ok)
  have k2:PyData.strOk wt.2.2=true:=by rcases ends with ⟨a,b⟩ | ⟨a,b⟩ <;> first | (rw [<-b];exact okt.2.2.ok) | (rw [<-a];exact okt.2.1.ok)
  refine ⟨[pairD wt.2.1 wt.2.2,pairD wt.2.2 wt.2.1],pairD t.2.1 t.2.2,.lst (SqL.of upd_same) (.cons (drp ((Z2.trans Z3) _ _ upd_same)) (.cons (drp (Z3 _ _ upd_same)) .nil)),drp ((Z1.trans (Z2.trans Z3)) _ _ hc'7),?_,?_,?_⟩
  ·show ((PyData.strOk wt.2.1 && (PyData.strOk wt.2.2 && true)) && ((PyData.strOk wt.2.2 && (PyData.strOk wt.2.1 && true)) && true) && decide (max (max 0 (max 0 0)+1) (max (max 0 (max 0 0)+1) 0)+1<=64))=true
   rw [k1,k2];rfl
  ·show ((PyData.strOk t.2.1 && (PyData.strOk t.2.2 && true)) && decide (max 0 (max 0 0)+1<=64))=true
   rw [okt.2.1.ok,okt.2.2.ok];rfl
  have an:([pairD wt.2.1 wt.2.2,pairD wt.2.2 wt.2.1].any fun z=>PyData.eqv z (pairD t.2.1 t.2.2))=true:=by
   rcases ends with ⟨a,b⟩ | ⟨a,b⟩
   ·rw [a,b,hCh,eqv_pair];rfl
   ·rw [a,b,hCh,hCh,eqv_pair,Bool.true_or,Bool.or_true]
  rw [an]
  refine ⟨_,rfl,iteF ?_⟩
  have e9:=Z1.trans (Z2.trans Z3)
  refine ⟨_,rfl,c,_,_,_,rfl,rfl,SqT.of (e9 _ _ hc7),(by exact atI_nat (j:=2) rfl),?_⟩
  refine ⟨_,rfl,_,rfl,_,_,rfl,rfl,_,rfl,fp,_,rfl,.inl (SqL.of (e9 _ _ hus7)),_,_,rfl,rfl,(by rw [hA1,lus];omega),?_⟩
  have im:((j:Int)+1) % (((us.map V.ref).length:Nat):Int)=(((j+1) % W.length:Nat):Int):=by
   rw [hA1,lus,Int.natCast_emod];rfl
  dsimp only
  rw [im]
  refine ⟨fp,_,_,_,rfl,rfl,SqL.of (e9 _ _ hus7),atI_nat (by rw [hAj,hcm];rfl),?_⟩
  refine ⟨cm,_,_,_,rfl,rfl,SqT.of (e9 _ _ hcm7),(by exact atI_nat (j:=1) rfl),rfl,_,rfl,?_⟩
  rw [decide_eq_true (show V.str wt.2.2=V.str m.2.1 by rw [stp])]
  refine iteF ?_
  exact ⟨_,_,rfl,e8.trans e9⟩
 ·rintro σ H7 ⟨x7,x8,rfl,e7⟩
  have hus7:=e7 _ _ hus
  refine ⟨_,rfl,fp,rfl,⟨_,SqL.of hus7⟩,?_⟩
  refine qAr (xs:=us.map V.ref) (fun j ys H8=>H8=H7/\ys=((W.take j).map fun w=>w.2.1).map V.str) ⟨rfl,rfl⟩ (fun j ys H8 _ h=>by rw [h.1];exact SqL.of hus7) ?_ ?_
  ·rintro j v ys H8 hx ⟨rfl,rfl⟩
   obtain ⟨c,wt,rfl,hwt,hc⟩:=qCk pu hx
   have hj:=qAx hwt
   refine ⟨Sle.set _ (Sle.refl _) (fun u z=>by cases z),iteT (B:=False) ⟨_,rfl,c,_,_,_,rfl,rfl,SqT.of (e7 _ _ hc),(by exact atI_nat (j:=1) rfl),?_,nxt (qAx hx) ⟨rfl,?_⟩⟩⟩
   ·rw [hA1,hA1,hAh];exact qAh (by omega)
   ·rw [qAj hwt,hAa,hAa];rfl
  rintro ys H8 ⟨rfl,rfl⟩ l1 hl1
  rw [hA1,lus,hA8 (hA5 _)]
  have X1:=Ext.new hl1 (.lst ((W.map fun w=>w.2.1).map V.str))
  refine ⟨l1,W.map fun w=>w.2.1,rfl,SqL.of upd_same,(by rw [hA1];omega),fun r ss hr' ndS _ mem=>?_⟩
  have X2:=Ext.new hr' (SetS P w r ss)
  have ls:ss.length=W.length:=by
   have:=((hBd ndS (dn.nds min nd1)).mpr mem).length_eq
   rw [hA1] at this
   exact this
  refine ⟨r,ss,rfl,upd_same,_,rfl,fp,_,rfl,.inl (SqL.of ((X1.trans X2) _ _ hus7)),rfl,?_⟩
  rw [ls,hA1,lus,decide_eq_true rfl]
  exact q _ (E6.trans (e7.trans (X1.trans X2)))
end
end My
namespace My
open PySem L2
def spLaw (K:PySem.W.Frag) (Pt:Addr):Sp:=fun vs H Q _=>∃ (a:Addr) (ns:List Int),vs=[.ref a]/\SqL K H a (ns.map V.int)/\ns.length<=63/\H Pt=some (.tbl #[])/\∀ H',Q (.bl true) H'
theorem Kp.net {H H':Hp} (e:Kp H H') {p:Addr} {net:List Tr} (h:qBb H p net):qBb H' p net:=by
 obtain ⟨as,h1,h2⟩:=h
 exact ⟨as,e.lst h1,Paired.mapP h2 fun a t z=>e.k _ _ (fun _ y=>by cases y) z⟩
theorem walk_tx {net:List Tr} {row:List Str} {p0:Str} {W:List Wk} (tx:TxN net) (dn:Done (qEr net row) p0 W):TxN W:=fun w hw=>by
 obtain ⟨t,ht,e,ends⟩:=qD8 dn.c w hw
 have:=tx t (hAg.mp ht).1
 refine ⟨e▸this.1,?_,?_⟩
 ·rcases ends with ⟨a,b⟩ | ⟨a,b⟩
  ·exact a▸this.2.1
  ·exact b▸this.2.2
 ·rcases ends with ⟨a,b⟩ | ⟨a,b⟩
  ·exact b▸this.2.2
  ·exact a▸this.2.1
section
variable {P:Program} {w:World} {K:PySem.W.Frag} {mg:Str->Option Value} {base:Heap} {f f1 f2 f3 f4 f5 Pt:Addr} {fd fd1 fd2 fd3 fd4 fd5:FuncData}
abbrev laN:List Str:=["_law_script","_law_net_here","_law_handed","_law_row","_law_asked","_law_first","_law_turn","_law_found"]
theorem scLaw:FnScope laN ["_law_script"] (qAb sLaw):=⟨rfl,rfl,rfl,by decide +kernel,rfl,by decide +kernel,by decide +kernel⟩
theorem ok_law (F:Fun K "law" "law" sLaw f fd)
  (G1:FnOk P w K mg base CX0 3 f1 fd1 ["_law_script","_law_at"] (spNet K)) (bG1:qA7 K fd1 ["_law_script","_law_at"] []) (kG1:PySem.W.keepIn K (.ref f1)=true) (mG1:mg "_law_net" = some (.ref f1))
  (G2:FnOk P w K mg base CX0 4 f2 fd2 ["table"] (spRounds Pt)) (bG2:qA7 K fd2 ["table"] []) (kG2:PySem.W.keepIn K (.ref f2)=true) (mG2:mg "rounds" = some (.ref f2))
  (G3:FnOk P w K mg base CX0 5 f3 fd3 ["net"] spTable) (bG3:qA7 K fd3 ["net"] []) (kG3:PySem.W.keepIn K (.ref f3)=true) (mG3:mg "table_of" = some (.ref f3))
  (G4:FnOk P w K mg base CX0 5 f4 fd4 ["net","row"] spWalk) (bG4:qA7 K fd4 ["net","row"] []) (kG4:PySem.W.keepIn K (.ref f4)=true) (mG4:mg "walk" = some (.ref f4))
  (G5:FnOk P w K mg base CX0 2 f5 fd5 ["_law_net_here","_law_row","_law_found"] spLWal) (bG5:qA7 K fd5 ["_law_net_here","_law_row","_law_found"] []) (kG5:PySem.W.keepIn K (.ref f5)=true) (mG5:mg "_law_walked" = some (.ref f5))
  (mL:mg "list" = none) (mr:mg "range" = none):FnOk P w K mg base CX0 6 f fd ["_law_script"] (spLaw K Pt):=by
 refine F.ok scLaw (fun vs H Q E h=>?_) (fun cdv A outer s H vs Q E hr5 h=>?_)
 ·obtain ⟨a,ns,rfl,_⟩:=h
  rfl
 obtain ⟨a,ns,rfl,hS,hl,hP,q⟩:=h
 have hr2:=hr5.mono (j:=2) (by decide)
 have hr3:=hr5.mono (j:=3) (by decide)
 have hr4:=hr5.mono (j:=4) (by decide)
 refine ⟨_,pss_cons (qAp (i:=1) scLaw.nd rfl (Or.inl rfl) (qAl G1 hr3 rfl mG1 kG1 bG1 .nil qA5 (qAa (pv 0) (qAa qAg qAc)))) (pss_cons (qAp (i:=2) scLaw.nd rfl (Or.inl rfl) (qBk qB9 rfl mL qBn (qAa (pv 1) qAc))) (pss_cons (qBs PassesOwn.never rfl (qAs (qAl G2 hr4 rfl mG2 kG2 bG2 .nil qA5 (qAa (qAl G3 hr5 rfl mG3 kG3 bG3 .nil qA5 (qAa (qBk qB9 rfl mL qBn (qAa (pv 1) qAc)) qAc)) qAc))) (qAf (i:=3) scLaw.nd rfl (Or.inl rfl)) (pss_cons (qAp (i:=4) scLaw.nd rfl (Or.inl rfl) (qBk qB9 rfl mL qBn (qAa (pv 3) qAc))) (pss_cons (qAp (i:=5) scLaw.nd rfl (Or.inl rfl) (qAl G4 hr5 rfl mG4 kG4 bG4 .nil qA5 (qAa (pv 2) (qAa (pv 4) qAc)))) (qAi (qBs PassesOwn.never rfl (qCg rfl mr (qAa qAg qAc)) (qAf (i:=6) scLaw.nd rfl (Or.inl rfl)) (pss_cons (qAp (i:=7) scLaw.nd rfl (Or.inl rfl) (qAl G4 hr5 rfl mG4 kG4 bG4 .nil qA5 (qAa (pv 2) (qAa (pv 4) qAc)))) (pss_cons (qD1 (PW.pt (pw_or (pt_not (pt_val (qAl G5 hr2 rfl mG5 kG5 bG5 .nil qA5 (qAa (pv 1) (qAa (pv 3) (qAa (pv 7) qAc)))))) (pw_or (qAu (qGd (qFa hr5)) (pv 7) (pv 5) (qA1 _)) (pw_or (qAu (qGd (qFa hr5)) (pv 4) (pv 3) (qA1 _)) (pw_or1 (qAu (qGd (qFa hr5)) (pv 2) (pv 1) (qA1 _))))))) (qAi (qAv pe_bl)) qBr) (pss_cons (qCs (pe_bm0 hBo PySem.F.slot_list_reverse PySem.F.type_list_reverse mt_reverse (pv 7))) (qAi (qCs (pe_bm hBo hBv hBw qB4 (pv 7) (qAa pe_non qAc)))))))))))) (qAi (qAv (qCt (op_eqD (qFa hr5)) (pv 2) (pv 1) (qA1 _)))))),?_⟩
 refine ⟨_,rfl,a,ns,rfl,hS,fun nr net H1 e1 nr0 nt ln tx rs=>?_⟩
 obtain ⟨as,hnr,pas⟩:=id nt
 refine ⟨_,rfl,nr,_,rfl,.inl (SqL.of hnr),fun hd hhd=>?_⟩
 have X1:=Ext.new hhd (.lst (as.map V.ref))
 refine ⟨_,rfl,nr,_,rfl,.inl (SqL.of (X1 _ _ hnr)),fun l2 hl2=>?_⟩
 have X2:=X1.trans (Ext.new hl2 (.lst (as.map V.ref)))
 refine ⟨l2,net,rfl,⟨as,upd_same,Paired.mapP pas fun a t z=>X2 _ _ z⟩,ln,fun T ps S M H3 e3 t0 tf pk rk pS pM dM=>?_⟩
 have nd:=qCr rs
 have tb:Tb net ps S M:=⟨rs,pk,pS,pM,dM⟩
 have lnn:(nmS net).length=net.length:=hA1 ..
 have lM:M.length<=24:=by
  have h1:=tb.len
  omega
 refine ⟨T,nmS net,_,rfl,tf.tin,by omega,by rw [hA1];exact lM,.inl ((e1.trans (X2.trans e3)) _ _ hP),fun rr Mr Lr FR H4 eB rr0 hrr pMr pLr soLr pFR soFR tw4=>?_⟩
 have E3:=X2.trans e3
 have nh3:qBb H3 hd net:=⟨as,e3 _ _ ((Ext.new hl2 _) _ _ upd_same),Paired.mapP pas fun a t z=>E3 _ _ z⟩
 have nt3:=nt.ext E3
 obtain ⟨tb4,hb4⟩:=My.TabW.tb tw4
 have K4:=kp_B eB ((e1.trans E3) _ _ hP) hb4
 have nh4:=K4.net nh3
 have nt4:=K4.net nt3
 have rrM:RR M:=(qC8 _).perm pM
 have ltM:∀ x∈M,x<2^(nmS net).length:=fun x hx=>by rw [lnn];exact ((tb.spn x).mp (.mem hx)).1
 have eM:(M.map (rowM (nmS net))).map (maskF (nmS net))=M:=by
  rw [hB4]
  conv=>rhs;rw [<-List.map_id M]
  exact hBy fun c hc=>qDn nd (ltM c hc)
 have pMr':Mr.Perm (red M):=by
  have h:=pMr
  rw [eM] at h
  exact h
 have rrMr:RR Mr:=(qC8 _).perm pMr'
 have spMr:∀ y,Spn Mr y↔Spn M y:=fun y=>by rw [perm_spn pMr',qDc]
 have ndL:Lr.Nodup:=pLr.nodup_iff.mpr (sumF_nd Mr rrMr)
 have ltL:Lr.Pairwise (· < ·):=(soLr.and ndL).imp fun {a b} h=>Nat.lt_of_le_of_ne h.1 h.2
 have inF:∀ r∈FR,∃ z,r=rowM (nmS net) z/\Lst M z:=fun r hr=>by
  obtain ⟨z,hz,rfl⟩:=hAb.mp (pFR.mem_iff.mp hr)
  obtain ⟨a1,a2,a3⟩:=(mem_rmF Lr ltL z).mp hz
  have mL:∀ y,y∈Lr↔Spn M y:=fun y=>by rw [pLr.mem_iff,sumF_spn,spMr]
  exact ⟨z,rfl,(mL z).mp a1,a2,fun o ho=>a3 o ((mL o).mpr ho)⟩
 clear eM pMr' rrMr spMr ndL ltL pMr pLr soLr pFR soFR ltM rrM K4 hb4 eB nh3 nt3 E3 X2 X1 tf t0 e3 hnr pas hl2 hhd e1
 obtain ⟨bs,hbs,pbs⟩:=id hrr
 have lbs:bs.length=FR.length:=pbs.length
 refine ⟨rr,rfl,⟨_,SqL.of hbs⟩,?_⟩
 refine qBz (xs:=bs.map V.ref) (fun i σ H'=>∃ x3 x4 x5 x6 x7:Option V,σ=[some (.ref a),some (.ref nr),some (.ref hd),x3,x4,x5,x6,x7]/\Ext H4 H') ⟨none,none,none,none,none,rfl,Ext.refl _⟩ (fun i σ H' _ h=>by obtain ⟨_,_,_,_,_,_,e⟩:=h;exact SqL.of (e _ _ hbs)) ?_ ?_
 ·rintro i v σ H' hx ⟨x3,x4,x5,x6,x7,rfl,e⟩
  obtain ⟨b,rfl,hb⟩:=qFb hx
  obtain ⟨row,hrow,hbr⟩:=qA9 pbs hb
  obtain ⟨z,ez,hz⟩:=inF row (hAr hrow)
  obtain ⟨mi,sn⟩:=min_of tb hz
  rw [<-ez] at mi sn
  have okr:SOk row:=fun x hx=>by
   rw [<-sn] at hx
   obtain ⟨t,ht,rfl⟩:=hAb.mp hx
   exact (tx t (hAg.mp ht).1).1.ok
  refine ⟨_,rfl,b,_,rfl,.inl (SqL.of (e _ _ hbr)),fun ak hak=>?_⟩
  have Xa:=Ext.new hak (.lst (row.map V.str))
  have hak1:LsS (upd H' ak (.lst (row.map V.str))) ak row:=upd_same
  have E5:=e.trans Xa
  revert hak1 E5 Xa
  generalize upd H' ak (.lst (row.map V.str))=H5
  intro Xa hak1 E5
  refine ⟨_,rfl,_,rfl,hd,ak,net,row,rfl,nh4.ext E5,hak1,ln,rs,okr,sn,mi,fun fr t0 r0 W H6 e6 fr0 nW eN dn=>?_⟩
  have txW:=walk_tx tx dn
  refine ⟨2,rfl,by decide,by decide,qCw (lo:=0) (n:=2) (fun j σ H7=>∃ x6 x7:Option V,σ=[some (.ref a),some (.ref nr),some (.ref hd),some (.ref b),some (.ref ak),some (.ref fr),x6,x7]/\Ext H6 H7) ⟨_,_,rfl,Ext.refl _⟩ ?_ ?_⟩
  ·rintro j σ H7 hj ⟨x6,x7,rfl,e7⟩
   have E7:=E5.trans (e6.trans e7)
   refine ⟨_,rfl,_,rfl,hd,ak,net,row,rfl,nh4.ext E7,(e6.trans e7) _ _ hak1,ln,rs,okr,sn,mi,fun fo t0' r0' W' H8 e8 fo0 nW' eN' dn'=>?_⟩
   rw [eN] at eN'
   cases eN'
   have eW:W'=W:=dn'.e.trans dn.e.symm
   subst eW
   have E8:=E7.trans e8
   refine ⟨_,rfl,_,rfl,_,rfl,nr,b,fo,net,row,W',t0,r0,rfl,nt4.ext E8,E8 _ _ hbr,nW',ln,tx,rs,sn,mi,eN,dn,fun H9 e9=>⟨true,rfl,iteF ?_⟩⟩
   have E9:=E8.trans e9
   have nW9:=nW'.ext e9
   refine ⟨_,rfl,_,rfl,_,_,qGm nW9,qGm (nW.ext (e7.trans (e8.trans e9))),qB3 txW,qB3 txW,_,rfl,?_⟩
   rw [if_pos rfl,eqv_net]
   refine iteF ?_
   refine ⟨_,rfl,_,rfl,_,_,qGl ((e6.trans (e7.trans (e8.trans e9))) _ _ hak1),qGl (E9 _ _ hbr),qB2 okr,qB2 okr,_,rfl,?_⟩
   rw [if_pos rfl,eqv_row,decide_eq_true rfl]
   refine iteF ?_
   refine ⟨_,rfl,_,rfl,_,_,qGm (nh4.ext E9),qGm (nt4.ext E9),qB3 tx,qB3 tx,_,rfl,?_⟩
   rw [if_pos rfl,eqv_net]
   refine iteF ?_
   obtain ⟨us,hus,pus⟩:=id nW9
   have lus:us.length=W'.length:=pus.length
   have lW:W'.length<=12:=by
    have:=dn.len (qCr (rs.sublist (hBk.map _):qFz (nmS (qEr net row))))
    rw [this]
    exact hAv (hAw _ _) ln
   refine ⟨_,rfl,.inl ⟨rfl,_,SqL.of hus⟩,fo,_,rfl,rfl,hus,?_⟩
   refine ⟨_,rfl,.inl ⟨rfl,_,SqL.of upd_same⟩,fo,_,_,rfl,rfl,upd_same,(by rw [List.length_reverse,hA1];exact qAh (by omega)),?_⟩
   have f6:H6 fo=none:=e7.none fo0
   exact ⟨_,_,rfl,((e7.trans (e8.trans e9)).over f6 _).over f6 _⟩
  ·rintro σ H7 ⟨x6,x7,rfl,e7⟩
   exact ⟨_,_,_,_,_,rfl,E5.trans (e6.trans e7)⟩
 ·rintro σ H' ⟨x3,x4,x5,x6,x7,rfl,e⟩
  refine ⟨_,rfl,_,rfl,_,_,qGm (nh4.ext e),qGm (nt4.ext e),qB3 tx,qB3 tx,?_⟩
  rw [if_neg (by decide),eqv_net]
  exact q _
end
end My
namespace My
open PySem L2
theorem len1 {α:Type} {us:List α} (h:us.length=1):∃ a,us=[a]:=List.length_eq_one_iff.mp h
theorem len2 {α:Type} {us:List α} (h:us.length=2):∃ a b,us=[a,b]:=by
 match us,h with | [a,b],_=>exact ⟨a,b,rfl⟩
theorem len3 {α:Type} {us:List α} (h:us.length=3):∃ a b c,us=[a,b,c]:=by
 match us,h with | [a,b,c],_=>exact ⟨a,b,c,rfl⟩
theorem all_mk {l:PySem.W.OpenLaw} {w:World} {K:PySem.W.Frag} {h:Heap} {mg:Str->Option Value} {fa f1 f2 f3 f4 f5 f6 f7 f8 f9 f10 f11 f12 f13 f14 f15 f16 f17 f18 f19 f20 f21 f22 f23 f24 f25 f26 f27 f28 f29 f30:Addr} (X:K.In h) (G:h.Ns mainGlobals mg) (hfa:mg "law" = some (.ref fa)) {c T:Addr} (ht:PySem.W.tabIn K "in_order" = some (c,T))
  {od1 an1 od2 an2 od3 an3 od4 an4 od5 an5 od6 an6 od7 an7 od8 an8 od9 an9 od10 an10 od11 an11 od12 an12 od13 an13 od14 an14 od15 an15 od16 an16 od17 an17 od18 an18 od19 an19 od20 an20 od21 an21 od22 an22 od23 an23 od24 an24 od25 an25 od26 an26 od27 an27 od28 an28 od29 an29 od30 an30:Option Addr} {sl1 sl2 sl3 sl4 sl5 sl6 sl7 sl8 sl9 sl10 sl11 sl12 sl13 sl14 sl15 sl16 sl17 sl18 sl19 sl20 sl21 sl22 sl23 sl24 sl25 sl26 sl27 sl28 sl29 sl30:Array (Option Value)} {oc1 kV1 dc1 pm1 cd1 ct1 oc2 kV2 dc2 pm2 cd2 ct2 oc3 kV3 dc3 pm3 cd3 ct3 oc4 kV4 dc4 pm4 cd4 ct4 oc5 kV5 dc5 pm5 cd5 ct5 oc6 kV6 dc6 pm6 cd6 ct6 oc7 kV7 dc7 pm7 cd7 ct7 oc8 kV8 dc8 pm8 cd8 ct8 oc9 kV9 dc9 pm9 cd9 ct9 oc10 kV10 dc10 pm10 cd10 ct10 oc11 kV11 dc11 pm11 cd11 ct11 oc12 kV12 dc12 pm12 cd12 ct12 oc13 kV13 dc13 pm13 cd13 ct13 oc14 kV14 dc14 pm14 cd14 ct14 oc15 kV15 dc15 pm15 cd15 ct15 oc16 kV16 dc16 pm16 cd16 ct16 oc17 kV17 dc17 pm17 cd17 ct17 oc18 kV18 dc18 pm18 cd18 ct18 oc19 kV19 dc19 pm19 cd19 ct19 oc20 kV20 dc20 pm20 cd20 ct20 oc21 kV21 dc21 pm21 cd21 ct21 oc22 kV22 dc22 pm22 cd22 ct22 oc23 kV23 dc23 pm23 cd23 ct23 oc24 kV24 dc24 pm24 cd24 ct24 oc25 kV25 dc25 pm25 cd25 ct25 oc26 kV26 dc26 pm26 cd26 ct26 oc27 kV27 dc27 pm27 cd27 ct27 oc28 kV28 dc28 pm28 cd28 ct28 oc29 kV29 dc29 pm29 cd29 ct29 oc30 kV30 dc30 pm30 cd30 ct30:Value}
  (a1:PySem.W.nsIn K mainGlobals "mask_of" = some (some (.ref f1))) (l1:K.lookup f1=some ⟨oc1,od1,.func (PySem.W.fnOf "mask_of" "mask_of" (qAq sMask) (qAm sMask) (qAb sMask) .none kV1 dc1 pm1 an1 cd1 ct1),sl1⟩) (c1:PySem.W.codeIn K cd1 "mask_of" = true) (k1:PySem.W.keepIn K (.ref f1)=true)
  (a2:PySem.W.nsIn K mainGlobals "row_of" = some (some (.ref f2))) (l2:K.lookup f2=some ⟨oc2,od2,.func (PySem.W.fnOf "row_of" "row_of" (qAq qE7) (qAm qE7) (qAb qE7) .none kV2 dc2 pm2 an2 cd2 ct2),sl2⟩) (c2:PySem.W.codeIn K cd2 "row_of" = true) (k2:PySem.W.keepIn K (.ref f2)=true)
  (a3:PySem.W.nsIn K mainGlobals "lessened" = some (some (.ref f3))) (l3:K.lookup f3=some ⟨oc3,od3,.func (PySem.W.fnOf "lessened" "lessened" (qAq sLess) (qAm sLess) (qAb sLess) .none kV3 dc3 pm3 an3 cd3 ct3),sl3⟩) (c3:PySem.W.codeIn K cd3 "lessened" = true) (k3:PySem.W.keepIn K (.ref f3)=true)
  (a4:PySem.W.nsIn K mainGlobals "reduced" = some (some (.ref f4))) (l4:K.lookup f4=some ⟨oc4,od4,.func (PySem.W.fnOf "reduced" "reduced" (qAq sRedu) (qAm sRedu) (qAb sRedu) .none kV4 dc4 pm4 an4 cd4 ct4),sl4⟩) (c4:PySem.W.codeIn K cd4 "reduced" = true) (k4:PySem.W.keepIn K (.ref f4)=true)
  (a5:PySem.W.nsIn K mainGlobals "sums" = some (some (.ref f5))) (l5:K.lookup f5=some ⟨oc5,od5,.func (PySem.W.fnOf "sums" "sums" (qAq sSums) (qAm sSums) (qAb sSums) .none kV5 dc5 pm5 an5 cd5 ct5),sl5⟩) (c5:PySem.W.codeIn K cd5 "sums" = true) (k5:PySem.W.keepIn K (.ref f5)=true)
  (a6:PySem.W.nsIn K mainGlobals "lead_of" = some (some (.ref f6))) (l6:K.lookup f6=some ⟨oc6,od6,.func (PySem.W.fnOf "lead_of" "lead_of" (qAq sLead) (qAm sLead) (qAb sLead) .none kV6 dc6 pm6 an6 cd6 ct6),sl6⟩) (c6:PySem.W.codeIn K cd6 "lead_of" = true) (k6:PySem.W.keepIn K (.ref f6)=true)
  (a7:PySem.W.nsIn K mainGlobals "crossed_masks" = some (some (.ref f7))) (l7:K.lookup f7=some ⟨oc7,od7,.func (PySem.W.fnOf "crossed_masks" "crossed_masks" (qAq sCrM) (qAm sCrM) (qAb sCrM) .none kV7 dc7 pm7 an7 cd7 ct7),sl7⟩) (c7:PySem.W.codeIn K cd7 "crossed_masks" = true) (k7:PySem.W.keepIn K (.ref f7)=true)
  (a8:PySem.W.nsIn K mainGlobals "table_from" = some (some (.ref f8))) (l8:K.lookup f8=some ⟨oc8,od8,.func (PySem.W.fnOf "table_from" "table_from" (qAq sTabF) (qAm sTabF) (qAb sTabF) .none kV8 dc8 pm8 an8 cd8 ct8),sl8⟩) (c8:PySem.W.codeIn K cd8 "table_from" = true) (k8:PySem.W.keepIn K (.ref f8)=true)
  (a9:PySem.W.nsIn K mainGlobals "step_masks" = some (some (.ref f9))) (l9:K.lookup f9=some ⟨oc9,od9,.func (PySem.W.fnOf "step_masks" "step_masks" (qAq qE5) (qAm qE5) (qAb qE5) .none kV9 dc9 pm9 an9 cd9 ct9),sl9⟩) (c9:PySem.W.codeIn K cd9 "step_masks" = true) (k9:PySem.W.keepIn K (.ref f9)=true)
  (a10:PySem.W.nsIn K mainGlobals "crossed" = some (some (.ref f10))) (l10:K.lookup f10=some ⟨oc10,od10,.func (PySem.W.fnOf "crossed" "crossed" (qAq qF6) (qAm qF6) (qAb qF6) .none kV10 dc10 pm10 an10 cd10 ct10),sl10⟩) (c10:PySem.W.codeIn K cd10 "crossed" = true) (k10:PySem.W.keepIn K (.ref f10)=true)
  (a11:PySem.W.nsIn K mainGlobals "ties_of" = some (some (.ref f11))) (l11:K.lookup f11=some ⟨oc11,od11,.func (PySem.W.fnOf "ties_of" "ties_of" (qAq sTies) (qAm sTies) (qAb sTies) .none kV11 dc11 pm11 an11 cd11 ct11),sl11⟩) (c11:PySem.W.codeIn K cd11 "ties_of" = true) (k11:PySem.W.keepIn K (.ref f11)=true)
  (a12:PySem.W.nsIn K mainGlobals "points" = some (some (.ref f12))) (l12:K.lookup f12=some ⟨oc12,od12,.func (PySem.W.fnOf "points" "points" (qAq qDb) (qAm qDb) (qAb qDb) .none kV12 dc12 pm12 an12 cd12 ct12),sl12⟩) (c12:PySem.W.codeIn K cd12 "points" = true) (k12:PySem.W.keepIn K (.ref f12)=true)
  (a13:PySem.W.nsIn K mainGlobals "star" = some (some (.ref f13))) (l13:K.lookup f13=some ⟨oc13,od13,.func (PySem.W.fnOf "star" "star" (qAq sStar) (qAm sStar) (qAb sStar) .none kV13 dc13 pm13 an13 cd13 ct13),sl13⟩) (c13:PySem.W.codeIn K cd13 "star" = true) (k13:PySem.W.keepIn K (.ref f13)=true)
  (a14:PySem.W.nsIn K mainGlobals "stars" = some (some (.ref f14))) (l14:K.lookup f14=some ⟨oc14,od14,.func (PySem.W.fnOf "stars" "stars" (qAq qE6) (qAm qE6) (qAb qE6) .none kV14 dc14 pm14 an14 cd14 ct14),sl14⟩) (c14:PySem.W.codeIn K cd14 "stars" = true) (k14:PySem.W.keepIn K (.ref f14)=true)
  (a15:PySem.W.nsIn K mainGlobals "homes" = some (some (.ref f15))) (l15:K.lookup f15=some ⟨oc15,od15,.func (PySem.W.fnOf "homes" "homes" (qAq qEg) (qAm qEg) (qAb qEg) .none kV15 dc15 pm15 an15 cd15 ct15),sl15⟩) (c15:PySem.W.codeIn K cd15 "homes" = true) (k15:PySem.W.keepIn K (.ref f15)=true)
  (a16:PySem.W.nsIn K mainGlobals "pieces" = some (some (.ref f16))) (l16:K.lookup f16=some ⟨oc16,od16,.func (PySem.W.fnOf "pieces" "pieces" (qAq qDz) (qAm qDz) (qAb qDz) .none kV16 dc16 pm16 an16 cd16 ct16),sl16⟩) (c16:PySem.W.codeIn K cd16 "pieces" = true) (k16:PySem.W.keepIn K (.ref f16)=true)
  (a17:PySem.W.nsIn K mainGlobals "met_once" = some (some (.ref f17))) (l17:K.lookup f17=some ⟨oc17,od17,.func (PySem.W.fnOf "met_once" "met_once" (qAq sMet) (qAm sMet) (qAb sMet) .none kV17 dc17 pm17 an17 cd17 ct17),sl17⟩) (c17:PySem.W.codeIn K cd17 "met_once" = true) (k17:PySem.W.keepIn K (.ref f17)=true)
  (a18:PySem.W.nsIn K mainGlobals "table_of" = some (some (.ref f18))) (l18:K.lookup f18=some ⟨oc18,od18,.func (PySem.W.fnOf "table_of" "table_of" (qAq qE4) (qAm qE4) (qAb qE4) .none kV18 dc18 pm18 an18 cd18 ct18),sl18⟩) (c18:PySem.W.codeIn K cd18 "table_of" = true) (k18:PySem.W.keepIn K (.ref f18)=true)
  (a19:PySem.W.nsIn K mainGlobals "is_one_round" = some (some (.ref f19))) (l19:K.lookup f19=some ⟨oc19,od19,.func (PySem.W.fnOf "is_one_round" "is_one_round" (qAq sOne) (qAm sOne) (qAb sOne) .none kV19 dc19 pm19 an19 cd19 ct19),sl19⟩) (c19:PySem.W.codeIn K cd19 "is_one_round" = true) (k19:PySem.W.keepIn K (.ref f19)=true)
  (a20:PySem.W.nsIn K mainGlobals "walk" = some (some (.ref f20))) (l20:K.lookup f20=some ⟨oc20,od20,.func (PySem.W.fnOf "walk" "walk" (qAq sWalk) (qAm sWalk) (qAb sWalk) .none kV20 dc20 pm20 an20 cd20 ct20),sl20⟩) (c20:PySem.W.codeIn K cd20 "walk" = true) (k20:PySem.W.keepIn K (.ref f20)=true)
  (a21:PySem.W.nsIn K mainGlobals "in_order" = some (some (.ref f21))) (l21:K.lookup f21=some ⟨oc21,od21,.func (PySem.W.fnOf "in_order" "in_order" (qAq qEf) (qAm qEf) (qAb qEf) .none kV21 dc21 pm21 an21 cd21 ct21),sl21⟩) (c21:PySem.W.codeIn K cd21 "in_order" = true) (k21:PySem.W.keepIn K (.ref f21)=true)
  (a22:PySem.W.nsIn K mainGlobals "round_masks" = some (some (.ref f22))) (l22:K.lookup f22=some ⟨oc22,od22,.func (PySem.W.fnOf "round_masks" "round_masks" (qAq sRMas) (qAm sRMas) (qAb sRMas) .none kV22 dc22 pm22 an22 cd22 ct22),sl22⟩) (c22:PySem.W.codeIn K cd22 "round_masks" = true) (k22:PySem.W.keepIn K (.ref f22)=true)
  (a23:PySem.W.nsIn K mainGlobals "rounds" = some (some (.ref f23))) (l23:K.lookup f23=some ⟨oc23,od23,.func (PySem.W.fnOf "rounds" "rounds" (qAq qDa) (qAm qDa) (qAb qDa) .none kV23 dc23 pm23 an23 cd23 ct23),sl23⟩) (c23:PySem.W.codeIn K cd23 "rounds" = true) (k23:PySem.W.keepIn K (.ref f23)=true)
  (a24:PySem.W.nsIn K mainGlobals "_law_cell_at" = some (some (.ref f24))) (l24:K.lookup f24=some ⟨oc24,od24,.func (PySem.W.fnOf "_law_cell_at" "_law_cell_at" (qAq sCell) (qAm sCell) (qAb sCell) .none kV24 dc24 pm24 an24 cd24 ct24),sl24⟩) (c24:PySem.W.codeIn K cd24 "_law_cell_at" = true) (k24:PySem.W.keepIn K (.ref f24)=true)
  (a25:PySem.W.nsIn K mainGlobals "_law_big" = some (some (.ref f25))) (l25:K.lookup f25=some ⟨oc25,od25,.func (PySem.W.fnOf "_law_big" "_law_big" (qAq sBig) (qAm sBig) (qAb sBig) .none kV25 dc25 pm25 an25 cd25 ct25),sl25⟩) (c25:PySem.W.codeIn K cd25 "_law_big" = true) (k25:PySem.W.keepIn K (.ref f25)=true)
  (a26:PySem.W.nsIn K mainGlobals "_law_names" = some (some (.ref f26))) (l26:K.lookup f26=some ⟨oc26,od26,.func (PySem.W.fnOf "_law_names" "_law_names" (qAq qE8) (qAm qE8) (qAb qE8) .none kV26 dc26 pm26 an26 cd26 ct26),sl26⟩) (c26:PySem.W.codeIn K cd26 "_law_names" = true) (k26:PySem.W.keepIn K (.ref f26)=true)
  (a27:PySem.W.nsIn K mainGlobals "_law_ends" = some (some (.ref f27))) (l27:K.lookup f27=some ⟨oc27,od27,.func (PySem.W.fnOf "_law_ends" "_law_ends" (qAq sEnds) (qAm sEnds) (qAb sEnds) .none kV27 dc27 pm27 an27 cd27 ct27),sl27⟩) (c27:PySem.W.codeIn K cd27 "_law_ends" = true) (k27:PySem.W.keepIn K (.ref f27)=true)
  (a28:PySem.W.nsIn K mainGlobals "_law_net" = some (some (.ref f28))) (l28:K.lookup f28=some ⟨oc28,od28,.func (PySem.W.fnOf "_law_net" "_law_net" (qAq sNet) (qAm sNet) (qAb sNet) .none kV28 dc28 pm28 an28 cd28 ct28),sl28⟩) (c28:PySem.W.codeIn K cd28 "_law_net" = true) (k28:PySem.W.keepIn K (.ref f28)=true)
  (a29:PySem.W.nsIn K mainGlobals "_law_walked" = some (some (.ref f29))) (l29:K.lookup f29=some ⟨oc29,od29,.func (PySem.W.fnOf "_law_walked" "_law_walked" (qAq qBy) (qAm qBy) (qAb qBy) .none kV29 dc29 pm29 an29 cd29 ct29),sl29⟩) (c29:PySem.W.codeIn K cd29 "_law_walked" = true) (k29:PySem.W.keepIn K (.ref f29)=true)
  (a30:PySem.W.nsIn K mainGlobals "law" = some (some (.ref f30))) (l30:K.lookup f30=some ⟨oc30,od30,.func (PySem.W.fnOf "law" "law" (qAq sLaw) (qAm sLaw) (qAb sLaw) .none kV30 dc30 pm30 an30 cd30 ct30),sl30⟩) (c30:PySem.W.codeIn K cd30 "law" = true) (k30:PySem.W.keepIn K (.ref f30)=true)
  (z1:PySem.W.nsIn K mainGlobals "abs" = some none)
  (z2:PySem.W.nsIn K mainGlobals "all" = some none)
  (z3:PySem.W.nsIn K mainGlobals "any" = some none)
  (z4:PySem.W.nsIn K mainGlobals "enumerate" = some none)
  (z5:PySem.W.nsIn K mainGlobals "isinstance" = some none)
  (z6:PySem.W.nsIn K mainGlobals "len" = some none)
  (z7:PySem.W.nsIn K mainGlobals "list" = some none)
  (z8:PySem.W.nsIn K mainGlobals "min" = some none)
  (z9:PySem.W.nsIn K mainGlobals "range" = some none)
  (z10:PySem.W.nsIn K mainGlobals "set" = some none)
  (z11:PySem.W.nsIn K mainGlobals "sorted" = some none)
  (z12:PySem.W.nsIn K mainGlobals "sum" = some none)
  (z13:PySem.W.nsIn K mainGlobals "tuple" = some none)
  (z14:PySem.W.nsIn K mainGlobals "zip" = some none)
  : ∃ fd:FuncData,(∀ (s:Shared) (v:Value),BindsTo s fd ⟨[v],[]⟩ [("_law_script",v)])/\∀ base:Heap,K.In base->base.Ns mainGlobals mg->PySem.W.CodeHd base c T->base.BuiltinsAt mg T->FnOk l.prog w K mg base CX0 6 fa fd ["_law_script"] (spLaw K T):=by
 have e:=hfa.symm.trans (hAu X G a30)
 cases e
 have F1:=qA2 (st:=sMask) l1 c1 k1
 have F2:=qA2 (st:=qE7) l2 c2 k2
 have F3:=qA2 (st:=sLess) l3 c3 k3
 have F4:=qA2 (st:=sRedu) l4 c4 k4
 have F5:=qA2 (st:=sSums) l5 c5 k5
 have F6:=qA2 (st:=sLead) l6 c6 k6
 have F7:=qA2 (st:=sCrM) l7 c7 k7
 have F8:=qA2 (st:=sTabF) l8 c8 k8
 have F9:=qA2 (st:=qE5) l9 c9 k9
 have F10:=qA2 (st:=qF6) l10 c10 k10
 have F11:=qA2 (st:=sTies) l11 c11 k11
 have F12:=qA2 (st:=qDb) l12 c12 k12
 have F13:=qA2 (st:=sStar) l13 c13 k13
 have F14:=qA2 (st:=qE6) l14 c14 k14
 have F15:=qA2 (st:=qEg) l15 c15 k15
 have F16:=qA2 (st:=qDz) l16 c16 k16
 have F17:=qA2 (st:=sMet) l17 c17 k17
 have F18:=qA2 (st:=qE4) l18 c18 k18
 have F19:=qA2 (st:=sOne) l19 c19 k19
 have F20:=qA2 (st:=sWalk) l20 c20 k20
 have F21:=qA2 (st:=qEf) l21 c21 k21
 have F22:=qA2 (st:=sRMas) l22 c22 k22
 have F23:=qA2 (st:=qDa) l23 c23 k23
 have F24:=qA2 (st:=sCell) l24 c24 k24
 have F25:=qA2 (st:=sBig) l25 c25 k25
 have F26:=qA2 (st:=qE8) l26 c26 k26
 have F27:=qA2 (st:=sEnds) l27 c27 k27
 have F28:=qA2 (st:=sNet) l28 c28 k28
 have F29:=qA2 (st:=qBy) l29 c29 k29
 have F30:=qA2 (st:=sLaw) l30 c30 k30
 have b1:=F1.binds (ps:=["names","row"]) fun _ _ _ _ _ _ us hl=>by obtain ⟨_,_,rfl⟩:=len2 hl;rfl
 have m1:=hAu X G a1
 have b2:=F2.binds (ps:=["names","mask"]) fun _ _ _ _ _ _ us hl=>by obtain ⟨_,_,rfl⟩:=len2 hl;rfl
 have m2:=hAu X G a2
 have b3:=F3.binds (ps:=["mask","kept"]) fun _ _ _ _ _ _ us hl=>by obtain ⟨_,_,rfl⟩:=len2 hl;rfl
 have m3:=hAu X G a3
 have b4:=F4.binds (ps:=["masks"]) fun _ _ _ _ _ _ us hl=>by obtain ⟨_,rfl⟩:=len1 hl;rfl
 have m4:=hAu X G a4
 have b5:=F5.binds (ps:=["masks"]) fun _ _ _ _ _ _ us hl=>by obtain ⟨_,rfl⟩:=len1 hl;rfl
 have m5:=hAu X G a5
 have b6:=F6.binds (ps:=["mask"]) fun _ _ _ _ _ _ us hl=>by obtain ⟨_,rfl⟩:=len1 hl;rfl
 have m6:=hAu X G a6
 have b7:=F7.binds (ps:=["steps","width"]) fun _ _ _ _ _ _ us hl=>by obtain ⟨_,_,rfl⟩:=len2 hl;rfl
 have m7:=hAu X G a7
 have b8:=F8.binds (ps:=["names","masks"]) fun _ _ _ _ _ _ us hl=>by obtain ⟨_,_,rfl⟩:=len2 hl;rfl
 have m8:=hAu X G a8
 have b9:=F9.binds (ps:=["table"]) fun _ _ _ _ _ _ us hl=>by obtain ⟨_,rfl⟩:=len1 hl;rfl
 have m9:=hAu X G a9
 have b10:=F10.binds (ps:=["table"]) fun _ _ _ _ _ _ us hl=>by obtain ⟨_,rfl⟩:=len1 hl;rfl
 have m10:=hAu X G a10
 have b11:=F11.binds (ps:=["net"]) fun _ _ _ _ _ _ us hl=>by obtain ⟨_,rfl⟩:=len1 hl;rfl
 have m11:=hAu X G a11
 have b12:=F12.binds (ps:=["net"]) fun _ _ _ _ _ _ us hl=>by obtain ⟨_,rfl⟩:=len1 hl;rfl
 have m12:=hAu X G a12
 have b13:=F13.binds (ps:=["net","point"]) fun _ _ _ _ _ _ us hl=>by obtain ⟨_,_,rfl⟩:=len2 hl;rfl
 have m13:=hAu X G a13
 have b14:=F14.binds (ps:=["net"]) fun _ _ _ _ _ _ us hl=>by obtain ⟨_,rfl⟩:=len1 hl;rfl
 have m14:=hAu X G a14
 have b15:=F15.binds (ps:=["net"]) fun _ _ _ _ _ _ us hl=>by obtain ⟨_,rfl⟩:=len1 hl;rfl
 have m15:=hAu X G a15
 have b16:=F16.binds (ps:=["net"]) fun _ _ _ _ _ _ us hl=>by obtain ⟨_,rfl⟩:=len1 hl;rfl
 have m16:=hAu X G a16
 have b17:=F17.binds (ps:=["net","point"]) fun _ _ _ _ _ _ us hl=>by obtain ⟨_,_,rfl⟩:=len2 hl;rfl
 have m17:=hAu X G a17
 have b18:=F18.binds (ps:=["net"]) fun _ _ _ _ _ _ us hl=>by obtain ⟨_,rfl⟩:=len1 hl;rfl
 have m18:=hAu X G a18
 have b19:=F19.binds (ps:=["net"]) fun _ _ _ _ _ _ us hl=>by obtain ⟨_,rfl⟩:=len1 hl;rfl
 have m19:=hAu X G a19
 have b20:=F20.binds (ps:=["net","row"]) fun _ _ _ _ _ _ us hl=>by obtain ⟨_,_,rfl⟩:=len2 hl;rfl
 have m20:=hAu X G a20
 have b21:=F21.binds (ps:=["rows"]) fun _ _ _ _ _ _ us hl=>by obtain ⟨_,rfl⟩:=len1 hl;rfl
 have m21:=hAu X G a21
 have b22:=F22.binds (ps:=["steps"]) fun _ _ _ _ _ _ us hl=>by obtain ⟨_,rfl⟩:=len1 hl;rfl
 have m22:=hAu X G a22
 have b23:=F23.binds (ps:=["table"]) fun _ _ _ _ _ _ us hl=>by obtain ⟨_,rfl⟩:=len1 hl;rfl
 have m23:=hAu X G a23
 have b24:=F24.binds (ps:=["_law_script","_law_k"]) fun _ _ _ _ _ _ us hl=>by obtain ⟨_,_,rfl⟩:=len2 hl;rfl
 have m24:=hAu X G a24
 have b25:=F25.binds (ps:=["_law_script","_law_k"]) fun _ _ _ _ _ _ us hl=>by obtain ⟨_,_,rfl⟩:=len2 hl;rfl
 have m25:=hAu X G a25
 have b26:=F26.binds (ps:=["_law_big_here","_law_many"]) fun _ _ _ _ _ _ us hl=>by obtain ⟨_,_,rfl⟩:=len2 hl;rfl
 have m26:=hAu X G a26
 have b27:=F27.binds (ps:=["_law_big_here","_law_many","_law_spread"]) fun _ _ _ _ _ _ us hl=>by obtain ⟨_,_,_,rfl⟩:=len3 hl;rfl
 have m27:=hAu X G a27
 have b28:=F28.binds (ps:=["_law_script","_law_at"]) fun _ _ _ _ _ _ us hl=>by obtain ⟨_,_,rfl⟩:=len2 hl;rfl
 have m28:=hAu X G a28
 have b29:=F29.binds (ps:=["_law_net_here","_law_row","_law_found"]) fun _ _ _ _ _ _ us hl=>by obtain ⟨_,_,_,rfl⟩:=len3 hl;rfl
 have m29:=hAu X G a29
 have n_abs:=hB9 X G z1
 have n_all:=hB9 X G z2
 have n_any:=hB9 X G z3
 have n_enumerate:=hB9 X G z4
 have n_isinstance:=hB9 X G z5
 have n_len:=hB9 X G z6
 have n_list:=hB9 X G z7
 have n_min:=hB9 X G z8
 have n_range:=hB9 X G z9
 have n_set:=hB9 X G z10
 have n_sorted:=hB9 X G z11
 have n_sum:=hB9 X G z12
 have n_tuple:=hB9 X G z13
 have n_zip:=hB9 X G z14
 refine ⟨PySem.W.fnOf "law" "law" (qAq sLaw) (qAm sLaw) (qAb sLaw) .none kV30 dc30 pm30 an30 cd30 ct30,fun s v=>.of_eq rfl,fun base _ _ hC hB=>?_⟩
 have g1:=ok_mask (P:=l.prog) (w:=w) (mg:=mg) (base:=base) F1
 have g2:=ok_rowOf (P:=l.prog) (w:=w) (base:=base) F2  n_len n_enumerate
 have g3:=ok_less (P:=l.prog) (w:=w) (base:=base) F3  n_min
 have g4:=ok_redu (P:=l.prog) (w:=w) (base:=base) F4 g3 b3 k3 m3 n_min n_sorted
 have g5:=ok_sums (P:=l.prog) (w:=w) (mg:=mg) (base:=base) F5
 have g6:=ok_lead (P:=l.prog) (w:=w) (mg:=mg) (base:=base) F6
 have g7:=ok_crM (P:=l.prog) (w:=w) (base:=base) F7 g6 b6 k6 m6 n_sum n_range
 have g8:=ok_tabF (P:=l.prog) (w:=w) (base:=base) F8 g2 b2 k2 m2 g4 b4 k4 m4 n_list
 have g9:=ok_stepM (P:=l.prog) (w:=w) (base:=base) F9 g1 b1 k1 m1 g4 b4 k4 m4
 have g10:=ok_cross (P:=l.prog) (w:=w) (base:=base) F10 g8 b8 k8 m8 g7 b7 k7 m7 g9 b9 k9 m9 n_len
 have g11:=ok_ties (P:=l.prog) (w:=w) (mg:=mg) (base:=base) F11
 have g12:=ok_points (P:=l.prog) (w:=w) (base:=base) F12  n_sorted
 have g13:=ok_star (P:=l.prog) (w:=w) (mg:=mg) (base:=base) F13
 have g14:=ok_stars (P:=l.prog) (w:=w) (base:=base) F14 g12 b12 k12 m12 g13 b13 k13 m13 n_sorted
 have g15:=ok_homes (P:=l.prog) (w:=w) (base:=base) F15 g12 b12 k12 m12
 have g16:=ok_pieces (P:=l.prog) (w:=w) (base:=base) F16 g15 b15 k15 m15 n_list
 have g17:=ok_met (P:=l.prog) (w:=w) (mg:=mg) (base:=base) F17
 have g18:=ok_table (P:=l.prog) (w:=w) (base:=base) F18 g10 b10 k10 m10 g11 b11 k11 m11 g17 b17 k17 m17 g12 b12 k12 m12
 have g19:=ok_one (P:=l.prog) (w:=w) (base:=base) F19 g16 b16 k16 m16 g14 b14 k14 m14 n_len n_all
 have g20:=ok_walk (P:=l.prog) (w:=w) (base:=base) F20 g11 b11 k11 m11 g19 b19 k19 m19
 have g21:=ok_inOrd (P:=l.prog) (w:=w) (base:=base) F21 (code_of F21 a21 ht) hC hB  n_len n_sorted
 have g22:=ok_rmas (P:=l.prog) (w:=w) (base:=base) F22 g5 b5 k5 m5 n_sorted n_any
 have g23:=ok_rounds (P:=l.prog) (w:=w) (base:=base) F23 g21 b21 k21 m21 g22 b22 k22 m22 g9 b9 k9 m9 g2 b2 k2 m2
 have g24:=ok_cell (P:=l.prog) (w:=w) (base:=base) F24  n_len
 have g25:=ok_big (P:=l.prog) (w:=w) (base:=base) F25 g24 b24 k24 m24 n_range n_abs
 have g26:=ok_names (P:=l.prog) (w:=w) (base:=base) F26  n_range n_len
 have g27:=ok_ends (P:=l.prog) (w:=w) (base:=base) F27  n_range n_len n_list
 have g28:=ok_net (P:=l.prog) (w:=w) (base:=base) F28 g25 b25 k25 m25 g27 b27 k27 m27 g26 b26 k26 m26 n_len n_zip n_tuple n_sorted
 have g29:=ok_lwal (P:=l.prog) (w:=w) (base:=base) F29  n_isinstance n_list n_tuple n_all n_len n_sorted n_enumerate n_set
 exact ok_law F30 g28 b28 k28 m28 g23 b23 k23 m23 g18 b18 k18 m18 g20 b20 k20 m20 g29 b29 k29 m29 n_list n_range
theorem walk {l:PySem.W.OpenLaw} {q:Program} {loose:List Str} {XP:(Str->Option Value)->Heap->Prop} {YP:World->Heap->Prop} {d dr:DefRec} {K:Params->PySem.W.Frag} (hn:l.most=some 63) (hdf:d.params.defaults=[])
  (hY:∀ (w:World) (h:Heap),YP w h->(K w.params).In h) (hrec:(PyProof.Rows.recsOf q).find? (fun e=>e.name == ("in_order" : Str))=some dr)
  (hK:∀ w:World,∃ c T,PySem.W.tabIn (K w.params) "in_order" = some (c,T)/\PySem.W.noTabs (K w.params)=true)
  (F:∀ (w:World) (mg:Str->Option Value) (fa:Addr) (h:Heap) (c T:Addr),(K w.params).In h->h.Ns mainGlobals mg->mg d.name=some (.ref fa)->PySem.W.tabIn (K w.params) "in_order" = some (c,T) ->
   ∃ fd:FuncData,(∀ (s:Shared) (u:Value),BindsTo s fd ⟨[u],[]⟩ [("_law_script",u)])/\∀ base:Heap,(K w.params).In base->base.Ns mainGlobals mg->PySem.W.CodeHd base c T->base.BuiltinsAt mg T->FnOk l.prog w (K w.params) mg base CX0 6 fa fd ["_law_script"] (spLaw (K w.params) T)) :
  PySem.W.WalkO q loose XP YP l.row.toRowW d [] (fun f vs=>PySem.call f vs) :=
 L2.walk_ofT (n:=63) (k:=6) (x:="_law_script") (CX:=fun _=>CX0) (sp:=fun w T=>spLaw (K w.params) T) hn (by decide) hdf ⟨rfl,by decide,by decide,rfl⟩ hY hrec hK F (fun _ _ _ a ns hl hT hS=>⟨a,ns,rfl,hS,hl,hT,fun _=>rfl⟩) fun _ _ _ _ _ z=>z
theorem tab_mk {K:PySem.W.Frag} {x:Str} {f c T:Addr} {ob ob2:Obj} {fd:FuncData} {vs:Array Value} (a:PySem.W.nsIn K mainGlobals x=some (some (.ref f))) (l:K.lookup f=some ob) (e1:ob.data = .func fd) (e2:fd.code = .ref c) (l2:K.lookup c=some ob2) (e3:ob2.data = .fields vs) (e4:(vs[11]?:Option Value)=some (.ref T)):PySem.W.tabIn K x=some (c,T):=by
 obtain ⟨o1,o2,o3,o4⟩:=ob
 obtain ⟨p1,p2,p3,p4⟩:=ob2
 cases e1
 cases e3
 unfold PySem.W.tabIn
 rw [a];dsimp only
 rw [l];dsimp only
 rw [e2];dsimp only
 rw [l2];dsimp only
 rw [e4]
end My
namespace PySem.W.Fast
def tw1005240274435733828 := 0
def tw10120616206757902671 := 0
def tw1030463445893887364 := 0
def tw10426589716214894155 := 0
def tw10481322825483499155 := 0
def tw105169518970342212 := 0
def tw10649583150290973833 := 0
def tw10725294557132072472 := 0
def tw10731789460305992030 := 0
def tw10769789090146001282 := 0
def tw10809702329967910929 := 0
def tw10834168715575077651 := 0
def tw10977642822256518354 := 0
def tw11068583051942529264 := 0
def tw11419192275553956301 := 0
def tw11480299905888809274 := 0
def tw11593225244229597471 := 0
def tw11607176243391089339 := 0
def tw11628726491363315342 := 0
def tw11656827246933924541 := 0
def tw11694989979075007494 := 0
def tw11719902329155327016 := 0
def tw11770813612969435947 := 0
def tw11806662356179186546 := 0
def tw11907624524924358731 := 0
def tw1192963197393278962 := 0
def tw11968470532091294473 := 0
def tw11989050098194899901 := 0
def tw12105871045425221898 := 0
def tw12229753528188076467 := 0
def tw12314842379756138481 := 0
def tw1237431703386115236 := 0
def tw12522400873644459768 := 0
def tw12610519670394335172 := 0
def tw12674878515071051642 := 0
def tw12689638836153635892 := 0
def tw12968789161318116699 := 0
def tw13206228833964010338 := 0
def tw13208811531547835042 := 0
def tw13233744689115498602 := 0
def tw13355393872266404447 := 0
def tw1336698153297858213 := 0
def tw13384774755274951810 := 0
def tw13579644495128907152 := 0
def tw13631755946542248994 := 0
def tw13653411630282668880 := 0
def tw13688361104314938257 := 0
def tw13693880724561671920 := 0
def tw13760887569322138503 := 0
def tw1378729793177944772 := 0
def tw13906647768808452871 := 0
def tw13938738171261799766 := 0
def tw14170240050973701404 := 0
def tw14182368049874158995 := 0
def tw1422128788809022315 := 0
def tw14338853036325133609 := 0
def tw14373739529920209064 := 0
def tw14389482303468407423 := 0
def tw14401223882131308837 := 0
def tw14443865068526605076 := 0
def tw1453845354552658052 := 0
def tw14804053202895086040 := 0
def tw14814728099952273797 := 0
def tw14837495472480818866 := 0
def tw14893076829821585905 := 0
def tw14984729767602332885 := 0
def tw15032970420351831724 := 0
def tw15033709135372556583 := 0
def tw15049235114940356991 := 0
def tw15080740292732650672 := 0
def tw15120097577463086682 := 0
def tw15212554464967527411 := 0
def tw15279019071047242267 := 0
def tw15360762123375468089 := 0
def tw15395997561353251596 := 0
def tw15726984950541859223 := 0
def tw15760283577512349385 := 0
def tw15778500271219734961 := 0
def tw16032722214845341122 := 0
def tw16249661407576871964 := 0
def tw16366697129630441598 := 0
def tw16457681510950976628 := 0
def tw16487791339054566782 := 0
def tw16554699237925194041 := 0
def tw16684150331763008553 := 0
def tw16744134052225019883 := 0
def tw16891841296256038908 := 0
def tw16978132319212321450 := 0
def tw17089142505752574072 := 0
def tw17350647632316515841 := 0
def tw1735626501880226323 := 0
def tw17460800242551447634 := 0
def tw17603996944665682846 := 0
def tw17832462825098909657 := 0
def tw17968704305008384658 := 0
def tw18102048527432468515 := 0
def tw1821606868729548005 := 0
def tw18243610712986094306 := 0
def tw18347094739910984024 := 0
def tw18432283015986147699 := 0
def tw18433068716797762653 := 0
def tw1857561133569310984 := 0
def tw1946001644784738710 := 0
def tw2075660180277029469 := 0
def tw2369168504673355341 := 0
def tw2401023214140299166 := 0
def tw2429574709636354580 := 0
def tw2451646490303923530 := 0
def tw2458875409265045908 := 0
def tw2521036532981505839 := 0
def tw2545486419786042703 := 0
def tw2555103323784612175 := 0
def tw2695334888873315124 := 0
def tw2712784422021876010 := 0
def tw2762981710369489778 := 0
def tw2831871843902586448 := 0
def tw2846521460164030555 := 0
def tw2850222989729101559 := 0
def tw2951774239200474345 := 0
def tw2999835138199890811 := 0
def tw3112384731138241611 := 0
def tw3161849284250141069 := 0
def tw3285686334536658519 := 0
def tw3323509621816418772 := 0
def tw3401379476811609752 := 0
def tw3403805389984264938 := 0
def tw3415030233044839309 := 0
def tw3431788786367585929 := 0
def tw3598421282324492426 := 0
def tw3602486747264916718 := 0
def tw3646164936163787390 := 0
def tw3652484338981074898 := 0
def tw3795268797509235356 := 0
def tw3944400720313196078 := 0
def tw4090997605571647706 := 0
def tw4165472632460028703 := 0
def tw4189361622467536799 := 0
def tw4219503738810759793 := 0
def tw422426593931331633 := 0
def tw425671317829640871 := 0
def tw4352479775098804246 := 0
def tw439941145006183533 := 0
def tw4425198770054859054 := 0
def tw472533235543977771 := 0
def tw4829485017334680397 := 0
def tw4892112577247099205 := 0
def tw4957922542149416023 := 0
def tw5025200114508234119 := 0
def tw5047827838863970477 := 0
def tw5065720436626302164 := 0
def tw5149797741621993784 := 0
def tw5186073940657347745 := 0
def tw532953288663353353 := 0
def tw5335960660415628825 := 0
def tw5375655549802468548 := 0
def tw5415946954346837570 := 0
def tw5495118439663561289 := 0
def tw5677974100794522972 := 0
def tw5722497435007709387 := 0
def tw5732885049210582552 := 0
def tw5877128103791133894 := 0
def tw6066641418654510440 := 0
def tw6070667064312268853 := 0
def tw6208365630014171731 := 0
def tw621222468627216987 := 0
def tw6213217539355100995 := 0
def tw6305940608104715436 := 0
def tw6311730669626899852 := 0
def tw6412681569121546666 := 0
def tw6532210486591791281 := 0
def tw6899000758722315436 := 0
def tw7116005946813583599 := 0
def tw7134582059293029607 := 0
def tw7155585353937055527 := 0
def tw7225759370276925354 := 0
def tw7243682886809512757 := 0
def tw7273932628430029673 := 0
def tw7373204403954316322 := 0
def tw7515802059466892350 := 0
def tw7593414220657550648 := 0
def tw7637737039158161286 := 0
def tw7649061275427018516 := 0
def tw7696213924679636335 := 0
def tw7866593214695344119 := 0
def tw787463526556214656 := 0
def tw7895833932318469124 := 0
def tw8171868479336346720 := 0
def tw8232947577491043208 := 0
def tw8310699170812741849 := 0
def tw8428157194306923419 := 0
def tw8550166203611691146 := 0
def tw8576076218502996291 := 0
def tw8585394573538665138 := 0
def tw8666495702980405609 := 0
def tw8687114123634927451 := 0
def tw8700954166352810831 := 0
def tw8729637438954432470 := 0
def tw8753849853776508063 := 0
def tw8772258084865351982 := 0
def tw8781006932178803389 := 0
def tw8946249163359618255 := 0
def tw9012080398978085955 := 0
def tw9013261645379219655 := 0
def tw9143938670434090618 := 0
def tw9146954304808114063 := 0
def tw9625820198527805168 := 0
def tw9862279583087422017 := 0
def tw9919769351680831227 := 0
def tw9955635618463406157 := 0
end PySem.W.Fast
open PySem PySem.W PyProof.Rows
set_option maxRecDepth 100000 in
set_option maxHeartbeats 0 in
theorem PySem.Challenge.cw_roundsalone_k23_walks_holds : PySem.Challenge.rw_roundsalone_k23_walks.Holds := by
 w_on;o_law;k_head;(case hw=>w_witness2)
 k_fill
 refine' My.walk (l:=PySem.Challenge.rw_roundsalone_k23_walks) rfl rfl (fun w h Y=>PySem.W.km_in_of Y) ?hr ?Kt ?F
 case hr=>rfl
 case Kt =>
  intro w
  refine' ⟨_,_,My.tab_mk ?a ?l ?e1 ?e2 ?l2 ?e3 ?e4,?n⟩
  (case a=>k_is)
  (case l=>k_is)
  (case e1=>rfl)
  (case e2=>rfl)
  (case l2=>k_is)
  (case e3=>rfl)
  (case e4=>rfl)
  (case n=>kernel_rfl)
 case F =>
  intro w mg fa h c T KX G hmg ht
  refine' My.all_mk KX G hmg ht ?a1 ?l1 ?c1 ?k1 ?a2 ?l2 ?c2 ?k2 ?a3 ?l3 ?c3 ?k3 ?a4 ?l4 ?c4 ?k4 ?a5 ?l5 ?c5 ?k5 ?a6 ?l6 ?c6 ?k6 ?a7 ?l7 ?c7 ?k7 ?a8 ?l8 ?c8 ?k8 ?a9 ?l9 ?c9 ?k9 ?a10 ?l10 ?c10 ?k10 ?a11 ?l11 ?c11 ?k11 ?a12 ?l12 ?c12 ?k12 ?a13 ?l13 ?c13 ?k13 ?a14 ?l14 ?c14 ?k14 ?a15 ?l15 ?c15 ?k15 ?a16 ?l16 ?c16 ?k16 ?a17 ?l17 ?c17 ?k17 ?a18 ?l18 ?c18 ?k18 ?a19 ?l19 ?c19 ?k19 ?a20 ?l20 ?c20 ?k20 ?a21 ?l21 ?c21 ?k21 ?a22 ?l22 ?c22 ?k22 ?a23 ?l23 ?c23 ?k23 ?a24 ?l24 ?c24 ?k24 ?a25 ?l25 ?c25 ?k25 ?a26 ?l26 ?c26 ?k26 ?a27 ?l27 ?c27 ?k27 ?a28 ?l28 ?c28 ?k28 ?a29 ?l29 ?c29 ?k29 ?a30 ?l30 ?c30 ?k30 ?z1 ?z2 ?z3 ?z4 ?z5 ?z6 ?z7 ?z8 ?z9 ?z10 ?z11 ?z12 ?z13 ?z14
  (case a1=>k_is)
  (case l1=>k_is)
  (case c1=>k_is)
  (case k1=>k_is)
  (case a2=>k_is)
  (case l2=>k_is)
  (case c2=>k_is)
  (case k2=>k_is)
  (case a3=>k_is)
  (case l3=>k_is)
  (case c3=>k_is)
  (case k3=>k_is)
  (case a4=>k_is)
  (case l4=>k_is)
  (case c4=>k_is)
  (case k4=>k_is)
  (case a5=>k_is)
  (case l5=>k_is)
  (case c5=>k_is)
  (case k5=>k_is)
  (case a6=>k_is)
  (case l6=>k_is)
  (case c6=>k_is)
  (case k6=>k_is)
  (case a7=>k_is)
  (case l7=>k_is)
  (case c7=>k_is)
  (case k7=>k_is)
  (case a8=>k_is)
  (case l8=>k_is)
  (case c8=>k_is)
  (case k8=>k_is)
  (case a9=>k_is)
  (case l9=>k_is)
  (case c9=>k_is)
  (case k9=>k_is)
  (case a10=>k_is)
  (case l10=>k_is)
  (case c10=>k_is)
  (case k10=>k_is)
  (case a11=>k_is)
  (case l11=>k_is)
  (case c11=>k_is)
  (case k11=>k_is)
  (case a12=>k_is)
  (case l12=>k_is)
  (case c12=>k_is)
  (case k12=>k_is)
  (case a13=>k_is)
  (case l13=>k_is)
  (case c13=>k_is)
  (case k13=>k_is)
  (case a14=>k_is)
  (case l14=>k_is)
  (case c14=>k_is)
  (case k14=>k_is)
  (case a15=>k_is)
  (case l15=>k_is)
  (case c15=>k_is)
  (case k15=>k_is)
  (case a16=>k_is)
  (case l16=>k_is)
  (case c16=>k_is)
  (case k16=>k_is)
  (case a17=>k_is)
  (case l17=>k_is)
  (case c17=>k_is)
  (case k17=>k_is)
  (case a18=>k_is)
  (case l18=>k_is)
  (case c18=>k_is)
  (case k18=>k_is)
  (case a19=>k_is)
  (case l19=>k_is)
  (case c19=>k_is)
  (case k19=>k_is)
  (case a20=>k_is)
  (case l20=>k_is)
  (case c20=>k_is)
  (case k20=>k_is)
  (case a21=>k_is)
  (case l21=>k_is)
  (case c21=>k_is)
  (case k21=>k_is)
  (case a22=>k_is)
  (case l22=>k_is)
  (case c22=>k_is)
  (case k22=>k_is)
  (case a23=>k_is)
  (case l23=>k_is)
  (case c23=>k_is)
  (case k23=>k_is)
  (case a24=>k_is)
  (case l24=>k_is)
  (case c24=>k_is)
  (case k24=>k_is)
  (case a25=>k_is)
  (case l25=>k_is)
  (case c25=>k_is)
  (case k25=>k_is)
  (case a26=>k_is)
  (case l26=>k_is)
  (case c26=>k_is)
  (case k26=>k_is)
  (case a27=>k_is)
  (case l27=>k_is)
  (case c27=>k_is)
  (case k27=>k_is)
  (case a28=>k_is)
  (case l28=>k_is)
  (case c28=>k_is)
  (case k28=>k_is)
  (case a29=>k_is)
  (case l29=>k_is)
  (case c29=>k_is)
  (case k29=>k_is)
  (case a30=>k_is)
  (case l30=>k_is)
  (case c30=>k_is)
  (case k30=>k_is)
  (case z1=>k_is)
  (case z2=>k_is)
  (case z3=>k_is)
  (case z4=>k_is)
  (case z5=>k_is)
  (case z6=>k_is)
  (case z7=>k_is)
  (case z8=>k_is)
  (case z9=>k_is)
  (case z10=>k_is)
  (case z11=>k_is)
  (case z12=>k_is)
  (case z13=>k_is)
  (case z14=>k_is)
#print axioms PySem.Challenge.cw_roundsalone_k23_walks_holds
