import PyProof.Rows.All
import Wide.All
import OpenK.AllK
import Wide.FinOn
import Lean
import PyProof.EqAt
import PyProof.EqKinds
import PyProof.TupleCall
import KE.KSortKey
import KE.KLam
import KE.KRevIter
import PyProof.FactsAll.range_2
import KE.KSortTup
import PyProof.Rows.MinMaxN
import PySem.Challenge.RW_roundsalone_k49_quiet_ones
noncomputable section
set_option Elab.async false
set_option linter.all false
set_option maxHeartbeats 16000000
set_option maxRecDepth 100000
abbrev hA1:=@List.length_map
abbrev hA2:=@List.getElem?_eq_getElem
abbrev hA3:=@List.map_append
abbrev hA4:=@List.mem_singleton
abbrev hA5:=@Nat.le_refl
abbrev hA6:=@List.take_of_length_le
abbrev hA7:=@List.length_append
abbrev hA8:=@List.mem_append_right
abbrev hA9:=@List.mem_map
abbrev hAa:=@List.size_toArray
abbrev hAb:=@List.mem_append
abbrev hAc:=@List.mem_cons_of_mem
abbrev hAd:=@List.mem_of_getElem?
abbrev hAe:=@List.mem_cons_self
abbrev hAf:=@List.mem_filter
abbrev hAg:=@List.mem_append_left
abbrev hAh:=@List.mem_cons
abbrev hAi:=@List.length_take
abbrev hAj:=@PySem.W.mg_of
abbrev hAk:=@List.getD_eq_getElem?_getD
abbrev hAl:=@Nat.lt_of_lt_of_le
abbrev hAm:=@List.length_filter_le
abbrev hAn:=@Nat.eq_of_testBit_eq
abbrev hAo:=@List.map_map
abbrev hAp:=@Nat.zero_le
abbrev hAq:=@PySem.F.plainAttrs_list
abbrev hAr:=@Nat.le_trans
abbrev hAs:=@List.getElem?_map
abbrev hAt:=@List.mem_range
abbrev hAu:=@Option.some.inj
abbrev hAv:=@List.getElem?_eq_some_iff
abbrev hAw:=@PySem.boot_len
abbrev hAx:=@Nat.testBit_zero
abbrev hAy:=@List.length_range
abbrev hAz:=@List.pairwise_map
abbrev hB0:=@Nat.ne_of_lt
abbrev hB1:=@Bool.false_ne_true
abbrev hB2:=@Nat.testBit_xor
abbrev hB3:=@List.pairwise_append
abbrev hB4:=@Int.toNat_natCast
abbrev hB5:=@PySem.F.slot_list_append
abbrev hB6:=@PySem.F.type_list_append
abbrev hB7:=@Nat.testBit_two_pow
abbrev hB8:=@Int.eq_ofNat_of_zero_le
abbrev hB9:=@Nat.pow_le_pow_right
abbrev hBa:=@Array.getElem?_toList
abbrev hBb:=@List.filter_sublist
abbrev hBc:=@List.filter_append
abbrev hBd:=@Nat.le_of_lt
abbrev hBe:=@List.append_nil
abbrev hBf:=@List.map_cons
abbrev hBg:=@Nat.testBit_and
abbrev hBh:=@List.length_eq_zero_iff
abbrev hBi:=@Nat.lt_pow_two_of_testBit
abbrev hBj:=@List.append_assoc
abbrev hBk:=@PySem.W.mg_none_of
abbrev hBl:=@Nat.le_succ
abbrev hBm:=@Bool.true_and
abbrev hBn:=@Nat.mod_two_eq_zero_or_one
abbrev hBo:=@Bool.and_eq_true
abbrev hBp:=@List.getElem_mem
abbrev hBq:=@Nat.zero_testBit
abbrev hBr:=@List.pairwise_cons
abbrev hBs:=@List.map_congr_left
abbrev hBt:=@Array.toList_append
abbrev hBu:=@List.nodup_cons
abbrev hBv:=@Bool.false_eq_true
abbrev hBw:=@Array.perm_iff_toList_perm
abbrev hBx:=@PySem.mem_of_lookup
abbrev hBy:=@List.getElem_of_mem
abbrev hBz:=@List.foldl_append
abbrev hC0:=@List.Pairwise.imp_of_mem
abbrev hC1:=@Array.length_toList
abbrev hC2:=@Array.getD_eq_getD_getElem?
abbrev hC3:=@List.cons_lt_cons_iff
abbrev hC4:=@Array.toList_push
abbrev hC5:=@List.pairwise_singleton
abbrev hC6:=@List.getElem?_append_right
abbrev hC7:=@List.mem_of_mem_take
abbrev hC8:=@PySem.W.kia_one
abbrev hC9:=@List.range_succ
abbrev hCa:=@List.length_drop
abbrev hCb:=@Nat.testBit_log2
abbrev hCc:=@Nat.testBit_succ
abbrev hCd:=@List.length_replicate
abbrev hCe:=@List.getElem?_eq_none
abbrev hCf:=@Nat.xor_lt_two_pow
abbrev hCg:=@List.nodup_range
abbrev hCh:=@List.eraseIdx_eq_take_drop_succ
abbrev hCi:=@List.length_cons
abbrev hCj:=@List.lookup_cons
abbrev hCk:=@Bool.not_eq_true
abbrev hCl:=@List.mem_of_mem_drop
abbrev hCm:=@Nat.lt_irrefl
abbrev hCn:=@Nat.ne_of_gt
abbrev hCo:=@List.Perm.refl
abbrev hCp:=@Nat.testBit_or
abbrev hCq:=@List.filterMap_cons
abbrev hCr:=@PyProof.Rows.callWith_type1
abbrev hCs:=@Nat.not_lt_zero
abbrev hCt:=@Nat.succ_le_succ
abbrev hCu:=@List.map_snd_zip
abbrev hCv:=@List.mem_reverse
abbrev hCw:=@List.mem_filterMap
abbrev hCx:=@List.any_cons
abbrev hCy:=@Nat.lt_of_le_of_lt
abbrev hCz:=@List.Perm.append_left
abbrev hD0:=@Nat.xor_assoc
abbrev hD1:=@List.drop_eq_getElem_cons
abbrev hD4:=@Nat.shiftRight_eq_div_pow
abbrev hD5:=@Int.le_refl
abbrev hD6:=@List.mem_or_eq_of_mem_set
abbrev hD7:=@Nat.pow_lt_pow_right
abbrev hD9:=@Bool.eq_iff_iff
abbrev hDa:=@List.length_set
abbrev hDb:=@Nat.lt_succ_of_lt
abbrev hDc:=@Bool.or_eq_true
abbrev hDd:=@List.take_left'
abbrev hDe:=@List.drop_left'
abbrev hDf:=@List.sublist_append_left
abbrev hDg:=@List.Sublist.refl
abbrev hDh:=@Int.le_of_lt
abbrev hDi:=@List.replicate_succ
abbrev hDj:=@Nat.pow_pos
abbrev hDk:=@List.map_id
abbrev hDl:=@Array.toList_inj
abbrev hDm:=@Array.toList_map
abbrev hDn:=@List.not_mem_nil
abbrev hDo:=@PySem.W.cellsFrom_some
abbrev hDp:=@Int.natCast_nonneg
abbrev hDq:=@List.of_mem_zip
abbrev hDr:=@List.find?_cons
abbrev hDs:=@PyProof.Rows.kws_cons
abbrev hDt:=@Int.natCast_add
abbrev hDu:=@List.ext_getElem?
abbrev hDv:=@List.getElem?_set_ne
abbrev hDw:=@PyProof.Rows.kws_nil
abbrev hDx:=@Nat.lt_succ_self
abbrev hDy:=@List.all_eq_true
abbrev hDz:=@Array.toList_zip
abbrev hE0:=@Nat.lt_log2_self
abbrev hE1:=@List.mem_map_of_mem
abbrev hE2:=@Nat.lt_or_ge
abbrev hE3:=@Nat.xor_self
abbrev hE4:=@Nat.succ_pos
abbrev hE5:=@List.map_id'
namespace L2
open PySem PySem.Spec PyProof.Rows
abbrev Key:=Sum Int Str
noncomputable def keyIs:Key->Value->Bool
 | .inl k,v=>Value.isInt k v
 | .inr x,v=>Value.isStrOf x v
noncomputable def keyH (w:World):Key->Int
 | .inl k=>hashInt k
 | .inr x=>hashStr w x
theorem keyIs_shape:∀ {k:Key} {v:Value},keyIs k v=true->(∃ i t,k=Sum.inl i/\v=Value.int i t)\/(∃ x t,k=Sum.inr x/\v=Value.str x t)
 | .inl i,v,h=>by
  obtain⟨t,e⟩:=Value.isInt_shape (k:=i) (v:=v) h;exact .inl ⟨i,t,rfl,e⟩
 | .inr x,v,h=>by
  obtain⟨t,e⟩:=Value.isStrOf_shape (x:=x) (v:=v) h;exact .inr ⟨x,t,rfl,e⟩
theorem keyIs_int (i:Int) (t:Tok):keyIs (.inl i) (.int i t)=true:=by simp[keyIs,Value.isInt]
theorem keyIs_str (x:Str) (t:Tok):keyIs (.inr x) (.str x t)=true:=by simp[keyIs,Value.isStrOf]
theorem key_ll (a b:Int):decide ((Sum.inl a:Key)=Sum.inl b)=(a == b):=by
 by_cases e:a=b
 ·subst e;simp
 ·have h:¬(Sum.inl a:Key)=Sum.inl b:=fun q=>e (Sum.inl.inj q)
  rw[decide_eq_false h];exact(beq_eq_false_iff_ne.mpr e).symm
theorem key_rr (a b:Str):decide ((Sum.inr a:Key)=Sum.inr b)=decide (a=b):=by
 by_cases e:a=b
 ·subst e;simp
 ·have h:¬(Sum.inr a:Key)=Sum.inr b:=fun q=>e (Sum.inr.inj q)
  rw[decide_eq_false h,decide_eq_false e]
theorem key_lr (a:Int) (b:Str):decide ((Sum.inl a:Key)=Sum.inr b)=false:=decide_eq_false (fun q=>nomatch q)
theorem key_rl (a:Str) (b:Int):decide ((Sum.inr a:Key)=Sum.inl b)=false:=decide_eq_false (fun q=>nomatch q)
noncomputable def qBb (prog:Program) (w:World):PySem.KeyKind prog w Key where
 is:=keyIs
 hash:=keyH w
 inj:=fun v a b ha hb=>by
  rcases keyIs_shape ha with ⟨i,t,rfl,rfl⟩ | ⟨x,t,rfl,rfl⟩
  ·rcases keyIs_shape hb with ⟨j,u,rfl,e⟩ | ⟨y,u,rfl,e⟩
   ·injection e with e1 _;rw[e1]
   ·exact nomatch e
  ·rcases keyIs_shape hb with ⟨j,u,rfl,e⟩ | ⟨y,u,rfl,e⟩
   ·exact nomatch e
   ·injection e with e1 _;rw[e1]
 byValue:=fun k v h=>by
  rcases keyIs_shape h with ⟨i,t,rfl,rfl⟩ | ⟨x,t,rfl,rfl⟩ <;> rfl
 pyHash:=fun hv h=>by
  rcases keyIs_shape hv with ⟨i,t,rfl,rfl⟩ | ⟨x,t,rfl,rfl⟩
  ·exact wpAny_pyHash_int h
  ·exact wpAny_pyHash_str h
 eqBool:=fun hu hv h=>by
  rcases keyIs_shape hu with ⟨i,t,rfl,rfl⟩ | ⟨x,t,rfl,rfl⟩
  ·rcases keyIs_shape hv with ⟨j,u,rfl,rfl⟩ | ⟨y,u,rfl,rfl⟩
   ·rw[key_ll]at h;exact wpAny_eqBool_int h
   ·rw[key_lr]at h;exact SeqAt.EqAt.int_str i t y u _ _ _ _ h
  ·rcases keyIs_shape hv with ⟨j,u,rfl,rfl⟩ | ⟨y,u,rfl,rfl⟩
   ·rw[key_rl]at h;exact SeqAt.EqAt.str_int x t j u _ _ _ _ h
   ·rw[key_rr]at h;exact wpAny_eqBool_str h
 «strs»:=fun k x t v h=>by
  rcases keyIs_shape h with ⟨i,u,rfl,e⟩ | ⟨y,u,rfl,e⟩
  ·exact nomatch e
  ·injection e with e1 _
   subst e1;cases v <;> rfl
theorem mixKind_int (prog:Program) (w:World) (i:Int) (t:Tok):(qBb prog w).is (.inl i) (.int i t)=true:=keyIs_int i t
theorem mixKind_str (prog:Program) (w:World) (x:Str) (t:Tok):(qBb prog w).is (.inr x) (.str x t)=true:=keyIs_str x t
end L2
namespace L2
open PySem PySem.Spec PyProof.Rows
inductive V where
 | non | bl (b:Bool) | int (i:Int) | str (x:Str) | byt (b:Array UInt8) | flt (b:UInt64) | ref (a:Addr) | ty (n:String)
 deriving DecidableEq
def qBp:V->Value->Prop
 | .non,u=>u=Value.none
 | .bl b,u=>u=Value.bool b
 | .int i,u=>∃ t,u=Value.int i t
 | .str x,u=>∃ t,u=Value.str x t
 | .byt b,u=>∃ t,u=Value.bytes b t
 | .flt b,u=>∃ t,u=Value.float b t
 | .ref a,u=>u=Value.ref a
 | .ty n,u=>u=Value.type n
abbrev qA9:List V->List Value->Prop:=Paired qBp
theorem qA9.length (r:qA9 xs us):xs.length=us.length:=Paired.length r
theorem qA9.get:∀ {xs:List V} {us:List Value} {i:Nat} {x:V},qA9 xs us->xs[i]?=some x->∃ u,us[i]?=some u/\qBp x u
 | _,_,_,_,.nil,e=>by simp at e
 | _,_,0,_,.cons r _,e=>by simp at e;subst e;exact⟨_,rfl,r⟩
 | _,_,i+1,x,.cons _ t,e=>by
  obtain⟨u,h1,h2⟩:=qA9.get (i:=i) (x:=x) t (by simpa using e);exact⟨u,by simpa using h1,h2⟩
theorem qA9.set (r:qBp x u):∀ {xs:List V} {us:List Value} (i:Nat),qA9 xs us->qA9 (xs.set i x) (us.set i u)
 | _,_,_,.nil=>.nil
 | _,_,0,.cons _ t=>.cons r t
 | _,_,i+1,.cons q t=>.cons q (qA9.set r i t)
theorem qA9.append:∀ {xs ys:List V} {us ws:List Value},qA9 xs us->qA9 ys ws->qA9 (xs++ys) (us++ws)
 | _,_,_,_,.nil,s=>s
 | _,_,_,_,.cons r t,s=>.cons r (qA9.append t s)
theorem qA9.take:∀ {xs:List V} {us:List Value} (n:Nat),qA9 xs us->qA9 (xs.take n) (us.take n)
 | _,_,0,_=>.nil
 | _,_,_+1,.nil=>.nil
 | _,_,n+1,.cons r t=>.cons r (qA9.take n t)
theorem qA9.drop:∀ {xs:List V} {us:List Value} (n:Nat),qA9 xs us->qA9 (xs.drop n) (us.drop n)
 | _,_,0,r=>r
 | _,_,_+1,.nil=>.nil
 | _,_,n+1,.cons _ t=>qA9.drop n t
def RelO:Option V->Option Value->Prop
 | some v,some u=>qBp v u
 | none,none=>True
 | _,_=>False
def KV {κ:Type}:List (κ×V)->List (κ×Value)->Prop:=Paired fun (p:κ×V) (q:κ×Value)=>p.1=q.1/\qBp p.2 q.2
noncomputable def kV:Key->V
 | .inl i=>.int i
 | .inr x=>.str x
inductive HO where
  | lst (xs:List V)
  | tup (xs:List V)
  | dK (kvs:List (Key×V)) | dT (kvs:List (List Key×V))
  | set (S:Int->Bool) (n:Nat)
  | ins (C dx:Addr) (fs:List (Str×V))
  | own (x:Addr)
  | xd (fs:List (Str×V))
  | met (f x:Addr)
  | rng (lo hi:Int)
  | frz (o:Obj) (u:HO)
  | tbl (ps:Array Value)
  | ext (φ:Heap->Prop)
abbrev Hp:=Addr->Option HO
noncomputable def upd (H:Hp) (a:Addr) (o:HO):Hp:=fun b=>if b=a then some o else H b
theorem upd_same:upd H a o a=some o:=by unfold upd;rw[if_pos rfl]
theorem upd_ne (h:b≠a):upd H a o b=H b:=by unfold upd;rw[if_neg h]
theorem qB3:upd (upd H a o) a u=upd H a u:=by
 funext b;unfold upd;split <;> rfl
theorem ne_of {H:Hp} {a b:Addr} {o u:HO} (h:H a=some o) (h':H b=some u) (d:o≠u):a≠b:=by
 intro e;subst e;rw[h]at h';exact d (hAu h')
theorem qAe {H:Hp} {a b:Addr} {o:HO} (h:H a=some o) (h':H b=none):a≠b:=by
 intro e;subst e;rw[h]at h';cases h'
section
variable (P:Program) (w:World)
def qBq (H:Hp) (h:Heap) (a:Addr):HO->Prop
 | .lst xs=>xs.length<=sizeLine/\∃ (its:List Value) (n:Nat),qA9 xs its/\h.get? a=some { cls:=.type "list",data:=.seq its.toArray n }
 | .tup xs=>xs.length<=sizeLine/\∃ its:List Value,qA9 xs its/\IsTup h a its.toArray
 | .dK kvs=>kvs.length<=sizeLine/\(a == sysModules)=false/\∃ vs,KV kvs vs/\h.DictOf (qBb P w) a vs
 | .dT kvs=>kvs.length<=sizeLine/\(a == sysModules)=false/\∃ xs:List (List Key×Addr×Value),
   Paired (fun (p:List Key×V) (q:List Key×Addr×Value)=>p.1=q.1/\H q.2.1=some (.tup (p.1.map kV))/\qBp p.2 q.2.2) kvs xs /\
   ∃ o es ep,h.get? a=some o/\o.ExactDict/\o.data = .dict es ep/\es.toList=xs.map (entryOfKey (tupleKind (qBb P w)))/\(xs.map (·.1)).Nodup
 | .set S n=>h.SetOf (intKind P w) a S n
 | .ins C dx fs=>H dx=some (.own a)/\fs.length<=1000/\dx≠a/\h.get? a=some (PySem.W.instObj C dx) /\
   ∃ mA,h.Ns1 dx mA/\(∀ f,RelO (fs.lookup f) (mA f))/\PySem.Within mA (fs.map (·.1))
 | .own _=>∃ o,h.get? a=some o
 | .xd fs=>∃ mA,h.Ns1 a mA/\∀ f,RelO (fs.lookup f) (mA f)
 | .rng lo hi=>∃ t u v,h.get? a=some { cls:=.type "range",data:=.fields #[.int lo t,.int hi u,.int 1 v] }
 | .frz o u=>h.get? a=some o/\qBq H h a u
 | .tbl ps=>h.get? a=some { cls:=.none,data:=.fields ps }
 | .met f x=>h.get? a=some (PySem.W.methodObj (.ref f) (.ref x))
 | .ext φ=>φ h/\(∃ o,h.get? a=some o)/\∀ h1 h2:Heap,φ h1->(∀ o,h1.get? a=some o->h2.get? a=some o)->φ h2
def HOk (H:Hp) (h:Heap):Prop:=∀ a o,H a=some o->qBq P w H h a o
end
section
variable {P:Program} {w:World} {H H':Hp} {h h':Heap} {a:Addr} {o:HO}
theorem qBq.lt (x:qBq P w H h a o):a<h.objs.size:=by
 cases o with
 | lst xs=>obtain⟨_,_,_,_,e⟩:=x;exact Heap.lt_size e
 | tup xs=>obtain⟨_,_,_,p⟩:=x;exact p.lt
 | dK kvs=>obtain⟨_,_,_,_,o,_,_,e,_⟩:=x;exact Heap.lt_size e
 | dT kvs=>obtain⟨_,_,_,_,o,_,_,e,_⟩:=x;exact Heap.lt_size e
 | set S n=>obtain⟨o,_,_,_,e,_⟩:=x;exact Heap.lt_size e
 | ins C dx fs=>obtain⟨_,_,_,e,_⟩:=x;exact Heap.lt_size e
 | own y=>obtain⟨_,e⟩:=x;exact Heap.lt_size e
 | xd fs=>obtain⟨_,⟨_,_,_,e,_⟩,_⟩:=x;exact Heap.lt_size e
 | rng lo hi=>obtain⟨_,_,_,e⟩:=x;exact Heap.lt_size e
 | frz ob u=>obtain⟨e,_⟩:=x;exact Heap.lt_size e
 | tbl ps=>exact Heap.lt_size (show h.get? a=some _ from x)
 | met f y=>exact Heap.lt_size (show h.get? a=some _ from x)
 | ext φ=>obtain⟨_,⟨_,e⟩,_⟩:=x;exact Heap.lt_size e
theorem Paired.mapP:∀ {l₁:List α} {l₂:List β},Paired F l₁ l₂->(∀ a b,F a b->G a b)->Paired G l₁ l₂
 | _,_,.nil,_=>.nil
 | _,_,.cons r t,f=>.cons (f _ _ r) (Paired.mapP t f)
theorem qBq.stay (x:qBq P w H h a o) (k:∀ b u,(b=a\/H b=some (.own a))->h.get? b=some u->h'.get? b=some u)
  (ho:∀ b,H b=some (.own a)->H' b=some (.own a)) (ht:∀ b xs,H b=some (.tup xs)->H' b=some (.tup xs)):qBq P w H' h' a o:=by
 induction o with
 | lst xs=>obtain⟨z,its,n,r,e⟩:=x;exact⟨z,its,n,r,k _ _ (.inl rfl) e⟩
 | tup xs=>obtain⟨z,its,r,ob,e,c⟩:=x;exact⟨z,its,r,ob,k _ _ (.inl rfl) e,c⟩
 | dK kvs=>obtain⟨z,y,vs,r,ob,es,ep,e,c⟩:=x;exact⟨z,y,vs,r,ob,es,ep,k _ _ (.inl rfl) e,c⟩
 | dT kvs =>
  obtain⟨z,y,xs,r,ob,es,ep,e,c⟩:=x;exact⟨z,y,xs,Paired.mapP r fun p q z=>⟨z.1,ht _ _ z.2.1,z.2.2⟩,ob,es,ep,k _ _ (.inl rfl) e,c⟩
 | set S n=>obtain⟨ob,es,ep,t,e,c⟩:=x;exact⟨ob,es,ep,t,k _ _ (.inl rfl) e,c⟩
 | ins C dx fs =>
  obtain⟨d,z,ne,e,mA,⟨od,es,ep,e2,c⟩,r⟩:=x;exact⟨ho _ d,z,ne,k _ _ (.inl rfl) e,mA,⟨od,es,ep,k _ _ (.inr d) e2,c⟩,r⟩
 | own y=>obtain⟨ob,e⟩:=x;exact⟨ob,k _ _ (.inl rfl) e⟩
 | xd fs=>obtain⟨mA,⟨od,es,ep,e,c⟩,r⟩:=x;exact⟨mA,⟨od,es,ep,k _ _ (.inl rfl) e,c⟩,r⟩
 | rng lo hi=>obtain⟨t,u,v,e⟩:=x;exact⟨t,u,v,k _ _ (.inl rfl) e⟩
 | frz ob u ih=>obtain⟨e,q⟩:=x;exact⟨k _ _ (.inl rfl) e,ih q⟩
 | tbl ps =>
  have e:h.get? a=some { cls:=.none,data:=.fields ps }:=x;show h'.get? a=some { cls:=.none,data:=.fields ps };exact k a _ (.inl rfl) e
 | met f y =>
  have e:h.get? a=some (PySem.W.methodObj (.ref f) (.ref y)):=x;show h'.get? a=some (PySem.W.methodObj (.ref f) (.ref y));exact k a _ (.inl rfl) e
 | ext φ=>obtain⟨p,⟨o,e⟩,st⟩:=x;exact⟨st _ _ p fun o q=>k _ _ (.inl rfl) q,⟨o,k _ _ (.inl rfl) e⟩,st⟩
theorem HOk.lt (x:HOk P w H h) (e:H a=some o):a<h.objs.size:=(x a o e).lt
theorem HOk.fresh (x:HOk P w H h) (e:h.objs.size<=a):H a=none:=by
 cases q:H a with
 | none=>rfl
 | some u=>exact absurd (hAl (x.lt q) e) (hCm _)
theorem HOk.kept (x:HOk P w H h) (k:∀ b u,h.get? b=some u->h'.get? b=some u):HOk P w H h':=fun a o e =>
 (x a o e).stay (fun b u _ q=>k b u q) (fun _ q=>q) fun _ _ q=>q
theorem HOk.laid (x:HOk P w H h) (k:∀ b u,h.get? b=some u->h'.get? b=some u) (hp:h.objs.size<=a) (new:qBq P w (upd H a o) h' a o):HOk P w (upd H a o) h':=fun b u e=>by
 have hn:=x.fresh hp;by_cases hb:b=a
 ·subst hb;rw[upd_same]at e;cases e;exact new
 ·rw[upd_ne hb]at e;exact(x b u e).stay (fun c v _ q=>k c v q) (fun c q=>by rw[upd_ne (qAe q hn)];exact q) fun c xs q=>by rw[upd_ne (qAe q hn)];exact q
end
def Rd (H:Hp) (a:Addr) (u:HO):Prop:=H a=some u\/∃ o,H a=some (.frz o u)
theorem Rd.ok (r:Rd H a u) (x:HOk P w H h):qBq P w H h a u:=by
 rcases r with r | ⟨o,r⟩
 ·exact x a u r
 ·obtain⟨_,q⟩:=x a _ r;exact q
def Mut:Option HO->Prop
 | some (.lst _)=>True
 | some (.dK _)=>True
 | some (.dT _)=>True
 | some (.set _ _)=>True
 | some (.ins _ _ _)=>True
 | some (.ext _)=>True
 | _=>False
section
variable {P:Program} {w:World} {H:Hp} {h h':Heap} {x e:Addr} {o':HO}
theorem HOk.write (ok:HOk P w H h) (mu:Mut (H x)) (he:e=x\/H e=some (.own x)) (k:∀ b u,b≠e->h.get? b=some u->h'.get? b=some u) (heo:∃ u,h'.get? e=some u)
  (new:qBq P w (upd H x o') h' x o'):HOk P w (upd H x o') h':=fun b u q=>by
 have nown:∀ c y,H c=some (.own y)->c≠x:=fun c y r z=>by subst z;rw[r]at mu;exact mu
 have ntup:∀ c xs,H c=some (.tup xs)->c≠x:=fun c xs r z=>by subst z;rw[r]at mu;exact mu
 by_cases hb:b=x
 ·subst hb;rw[upd_same]at q;cases q;exact new
 ·rw[upd_ne hb]at q;by_cases hbe:b=e
  ·have q':H b=some (.own x):=by
    rcases he with z | z
    ·exact absurd (hbe.trans z) hb
    ·rw[hbe];exact z
   rw[q]at q';cases q';obtain⟨v,hv⟩:=heo;exact⟨v,by rw[hbe];exact hv⟩
  ·refine(ok b u q).stay (fun c v hc r=>k c v ?_ r) (fun c r=>by rw[upd_ne (nown c b r)];exact r) fun c xs r=>by rw[upd_ne (ntup c xs r)];exact r
   rcases hc with rfl | hc
   ·exact hbe
   ·rintro rfl;rcases he with z | z
    ·exact nown c b hc z
    ·rw[hc]at z;cases z;exact hb rfl
end
structure Un (fs ex:List Addr) (H H':Hp) (h h':Heap):Prop where
 keep:∀ b o,h.get? b=some o->H b=none->b∉fs->b∉ex->h'.get? b=some o
 slot:∀ b o,h.get? b=some o->H b=none->b∈fs->b∉ex->∃ sl,h'.get? b=some { o with slots:=sl }
 free:∀ b o,h.get? b=some o->H b=none->b∉ex->H' b=none
 there:∀ b o,h.get? b=some o->b∉ex->∃ o',h'.get? b=some o'
 tups:∀ b xs,H b=some (.tup xs)->H' b=some (.tup xs)
 frzs:∀ b o u,H b=some (.frz o u)->H' b=some (.frz o u)
 tbls:∀ b ps,H b=some (.tbl ps)->∃ more,H' b=some (.tbl (ps++more))
section
variable {fs fs' ex ex':List Addr} {H H1 H2:Hp} {h h1 h2 h':Heap} {a x e:Addr} {o:HO}
theorem Un.any (u:Un fs ex H H1 h h1) (q:h.get? b=some ob) (n:H b=none) (hx:b∉ex):∃ sl,h1.get? b=some { ob with slots:=sl }:=by
 by_cases hb:b∈fs
 ·exact u.slot b ob q n hb hx
 ·exact⟨ob.slots,u.keep b ob q n hb hx⟩
theorem Un.kept (k:∀ b u,h.get? b=some u->h'.get? b=some u):Un fs ex H H h h' :=
 ⟨fun b ob q _ _ _=>k b ob q,fun b ob q _ _ _=>⟨ob.slots,k b ob q⟩,fun _ _ _ n _=>n,fun b ob q _=>⟨ob,k b ob q⟩,fun _ _ q=>q,fun _ _ _ q=>q,fun _ ps q=>⟨#[],by rw[q];simp⟩⟩
theorem Un.refl:Un fs ex H H h h:=Un.kept fun _ _ q=>q
theorem Un.laid (k:∀ b u,h.get? b=some u->h'.get? b=some u) (hp:h.objs.size<=a) (hn:H a=none):Un fs ex H (upd H a o) h h' where
 keep:=fun b u q _ _ _=>k b u q
 slot:=fun b u q _ _ _=>⟨u.slots,k b u q⟩
 free:=fun b u q n _=>by rw[upd_ne (hB0 (hAl (Heap.lt_size q) hp))];exact n
 there:=fun b u q _=>⟨u,k b u q⟩
 tups:=fun b xs q=>by rw[upd_ne (qAe q hn)];exact q
 frzs:=fun b u xs q=>by rw[upd_ne (qAe q hn)];exact q
 tbls:=fun b ps q=>⟨#[],by rw[upd_ne (qAe q hn),q];simp⟩
theorem Un.write (mu:Mut (H x)) (he:e=x\/H e=some (.own x)) (k:∀ b u,b≠e->h.get? b=some u->h'.get? b=some u) (heo:∃ u,h'.get? e=some u):Un fs ex H (upd H x o) h h':=by
 have hx:∀ b,H b=none->b≠x:=fun b n z=>by subst z;rw[n]at mu;exact mu
 have hb:∀ b,H b=none->b≠e:=fun b n z=>by
  subst z;rcases he with r | r
  ·exact hx b n r
  ·rw[n]at r;cases r
 have hm:∀ b u,H b=some u->¬Mut (some u)->b≠x:=fun b u q nm z=>by subst z;rw[q]at mu;exact nm mu
 refine⟨fun b u q n _ _=>k b u (hb b n) q,fun b u q n _ _=>⟨u.slots,k b u (hb b n) q⟩,fun b u q n _=>by rw[upd_ne (hx b n)];exact n,fun b u q _=>?_,
  fun b xs q=>by rw[upd_ne (hm b _ q fun z=>z)];exact q,fun b u xs q=>by rw[upd_ne (hm b _ q fun z=>z)];exact q,fun b ps q=>⟨#[],by rw[upd_ne (hm b _ q fun z=>z),q];simp⟩⟩
 by_cases hbe:b=e
 ·subst hbe;exact heo
 ·exact⟨u,k b u hbe q⟩
end
noncomputable def trk (h:Heap) (H:Hp):List Addr:=(List.range h.objs.size).filter fun a=>(H a).isSome
noncomputable def hidT (h:Heap) (H:Hp):Heap:=PySem.W.hideAll h (trk h H)
theorem hidT_size (h:Heap) (H:Hp):(hidT h H).objs.size=h.objs.size:=PySem.W.hideAll_size _ _
theorem hidT_get (e:h.get? b=some o) (n:H b=none):(hidT h H).get? b=some o :=
 PySem.W.hideAll_get _ e fun hm=>by
  have q:(H b).isSome=true:=(hAf.mp hm).2;rw[n]at q;simp at q
theorem of_hidT (e:(hidT h H).get? b=some o):h.get? b=some o/\H b=none:=by
 have e':h.get? b=some o:=PySem.W.of_hideAll (trk h H) e;refine⟨e',?_⟩;cases q:H b with
 | none=>rfl
 | some x =>
  have hm:b∈trk h H:=hAf.mpr ⟨hAt.mpr (Heap.lt_size e'),by simp[q]⟩;have z:(hidT h H).get? b=none:=PySem.W.hideAll_none (trk h H) hm;rw[z]at e;cases e
noncomputable def allNews (g h:Heap) (L:Addr):List (Addr×Obj):=(List.range h.objs.size).filterMap fun a=>if a=L\/(g.get? a).isSome=true then none else (h.get? a).map fun o=>(a,o)
noncomputable def rest (g h:Heap) (L d:Addr):List (Addr×Obj):=(allNews g h L).filter fun p=>decide (p.1≠d)
end L2
namespace L2
open PySem PySem.Spec PyProof.Rows
structure Mod (K:PySem.W.Frag) (mg:Str->Option Value) (base:Heap):Prop where
 kin:K.In base
 glob:base.Ns mainGlobals mg
 blt:∃ mb,base.Ns builtinsNs mb/\∀ x:Str,x≠"__name__"->mb x=bootBuiltins x
 nolimit:base.NoLimit
structure Cx where
 prog:Program
 w:World
 K:PySem.W.Frag
 mg:Str->Option Value
 base:Heap
 A:Around
 N:List Str
 s₀:Shared
 H₀:Hp
 env:Env
 outer:List Env
 stack:List Env
 ex:List Addr
 fn:Str->Bool
 calm:Bool
 pn:List (Addr×Obj)
 xe:Value->Shared->Prop
noncomputable def frs (l:List Env):List Addr:=l.filterMap (·.frame)
noncomputable abbrev Cx.fs (X:Cx):List Addr:=frs X.outer
def Vis (sc:Scope) (x:Str):Prop:=sc.names.lookup x=some .local\/sc.names.lookup x=some .cell\/sc.names.lookup x=some .free
def Loc (sc:Scope) (x:Str):Prop:=sc.names.lookup x=some .local\/sc.names.lookup x=some .cell
def Look (env:Env) (h:Heap) (m:Str->Option Value) (x:Str) (u:Value):Prop :=
 (env.kindOf x=some .local/\m x=some u)\/((env.kindOf x=some .cell\/env.kindOf x=some .free)/\∃ c,env.cells.lookup x=some c/\h.IsCell c (some u))
structure Cx.Ok (X:Cx):Prop where
 mod:Mod X.K X.mg X.base
 kind:X.env.scope.kind = .function
 glob:X.env.globals=mainGlobals
 blt:X.env.builtins=builtinsNs
 above:X.s₀.heap.objs.size<=X.env.locals
 inj:∀ x y c,X.env.cells.lookup x=some c->X.env.cells.lookup y=some c->x=y
 has:∀ x,(X.env.kindOf x=some .cell\/X.env.kindOf x=some .free)->∃ c,X.env.cells.lookup x=some c
 cab:∀ x c,X.fn x=true->X.env.cells.lookup x=some c->X.s₀.heap.objs.size<=c
 hd:X.calm=true->X.A.handled=none
 frames:X.A.frames=some X.stack
 stk:X.stack=X.outer\/(X.stack=X.env :: X.outer/\X.env.frame=some X.env.locals)
 exf:∀ b∈X.ex,b≠X.env.locals/\∀ x c,X.env.cells.lookup x=some c->c≠b
 bs:∀ b o,X.base.get? b=some o->X.s₀.heap.get? b=some o/\X.H₀ b=none
 bsz:X.base.objs.size<=X.s₀.heap.objs.size
 noex:∀ b o,X.base.get? b=some o->b∉X.ex
 exfs:∀ b∈X.ex,b∉X.fs
 funs:X.s₀.heap.FunFrames X.base X.outer
 frf:∀ b∈X.fs,X.H₀ b=none
structure Inv (X:Cx) (pins:List (Addr×Obj)) (σ:List (Option V)) (H:Hp) (s:Shared):Prop where
 ok:X.Ok
 os:s.os=X.s₀.os
 bare:AllBare s.gens
 base:Un X.fs X.ex X.H₀ H X.s₀.heap s.heap
 loc:∃ m,s.heap.Ns X.env.locals m/\∀ (i:Nat) (x:Str) (v:V),X.N[i]?=some x->σ[i]?=some (some v)->Vis X.env.scope x->∃ u,qBp v u/\Look X.env s.heap m x u
 cell:∀ x c,X.env.cells.lookup x=some c->∃ v,s.heap.IsCell c v
 free:H X.env.locals=none
 freeC:∀ x c,X.env.cells.lookup x=some c->H c=none
 pin:∀ p∈X.pn++pins,s.heap.get? p.1=some p.2/\H p.1=none/\p.1≠X.env.locals/\p.1∉X.fs/\∀ v,p.2.data≠.cell v
 hok:HOk X.prog X.w H s.heap
 len:σ.length=X.N.length
section
variable {X:Cx} {pins:List (Addr×Obj)} {σ:List (Option V)} {H H':Hp} {s:Shared} {h':Heap}
theorem Cx.Ok.nofr (ok:X.Ok) (e:X.base.get? b=some o):b∉X.fs:=fun hb=>by
 have:=(ok.funs.mem hb).1;rw[e]at this;cases this
theorem Inv.bs (I:Inv X pins σ H s):∀ b o,X.base.get? b=some o->s.heap.get? b=some o/\H b=none:=fun b o e =>
 ⟨I.base.keep b o (I.ok.bs b o e).1 (I.ok.bs b o e).2 (I.ok.nofr e) (I.ok.noex b o e),I.base.free b o (I.ok.bs b o e).1 (I.ok.bs b o e).2 (I.ok.noex b o e)⟩
theorem Inv.bk (I:Inv X pins σ H s):∀ b o,X.base.get? b=some o->s.heap.get? b=some o:=fun b o e=>(I.bs b o e).1
theorem Inv.mod (I:Inv X pins σ H s):Mod X.K X.mg X.base:=I.ok.mod
theorem Inv.kIn (I:Inv X pins σ H s):X.K.In s.heap:=I.ok.mod.kin.keeps I.bk
theorem Inv.lt (I:Inv X pins σ H s):X.env.locals<s.heap.objs.size:=let ⟨_,hn,_⟩:=I.loc;hn.lt
theorem Inv.sz (I:Inv X pins σ H s):X.s₀.heap.objs.size<=s.heap.objs.size:=hAr I.ok.above (hBd I.lt)
theorem Inv.nofs (I:Inv X pins σ H s) (h:s.heap.objs.size<=a):a∉X.fs:=fun hb=>by
 obtain⟨_,o,ho,_⟩:=I.ok.funs.mem hb;exact absurd (hAl (Heap.lt_size ho) (hAr I.sz h)) (hCm _)
theorem Inv.cne (I:Inv X pins σ H s):∀ x c,X.env.cells.lookup x=some c->c≠X.env.locals:=fun x c e z=>by
 obtain⟨v,o,ho,hd⟩:=I.cell x c e;obtain⟨m,⟨o',es,ep,ho',hd',_⟩,_⟩:=I.loc;rw[z,ho']at ho;cases ho;rw[hd']at hd;cases hd
theorem Inv.funs (I:Inv X pins σ H s):s.heap.FunFrames X.base X.outer:=by
 have all:∀ (l:List Env),(∀ b∈frs l,b∈X.fs)->X.s₀.heap.FunFrames X.base l->s.heap.FunFrames X.base l:=by
  intro l
  induction l with
  | nil=>intro _ _;trivial
  | cons env r ih =>
   intro hs hl;obtain⟨hk,⟨L,o,hf,hn,ho,hd⟩,hr⟩:=hl;have hL:L∈X.fs:=hs L (by unfold frs;rw[hCq,hf];exact hAe);obtain⟨sl,e⟩:=I.base.slot L o ho (I.ok.frf L hL) hL fun z=>I.ok.exfs L z hL
   exact⟨hk,⟨L,_,hf,hn,e,hd⟩,ih (fun b hb=>hs b (by unfold frs;rw[hCq,hf];exact hAc _ hb)) hr⟩
 exact all X.outer (fun _ hb=>hb) I.ok.funs
theorem Inv.stack (I:Inv X pins σ H s):s.heap.FunFrames X.base X.stack:=by
 rcases I.ok.stk with e | ⟨e,hf⟩
 ·rw[e];exact I.funs
 ·rw[e];obtain⟨m,hn,_⟩:=I.loc;refine .cons (by rw[I.ok.kind];decide) hf hn ?_ I.funs;exact Heap.get?_none_of_le (hAr I.ok.bsz I.ok.above)
theorem Inv.stkSub (I:Inv X pins σ H s):∀ b∈frs X.stack,b∈X.env.locals :: X.fs:=fun b hb=>by
 rcases I.ok.stk with e | ⟨e,hf⟩
 ·rw[e]at hb;exact hAc _ hb
 ·rw[e]at hb;unfold frs at hb;rw[hCq,hf]at hb;exact hb
theorem Inv.stkFree (I:Inv X pins σ H s):∀ b∈frs X.stack,H b=none:=fun b hb=>by
 rcases hAh.mp (I.stkSub b hb) with e | hb
 ·rw[e];exact I.free
 ·obtain⟨_,o,ho,_⟩:=I.ok.funs.mem hb;exact I.base.free b o ho (I.ok.frf b hb) fun z=>I.ok.exfs b z hb
theorem Inv.step {g':Array GenState} {t':Nat} {d':Drawn} {ch:List Addr} (I:Inv X pins σ H s)
  (hch:∀ b∈ch,(b∈X.ex\/X.s₀.heap.objs.size<=b)/\b≠X.env.locals/\(∀ x c,X.env.cells.lookup x=some c->c≠b)/\∀ p∈X.pn++pins,p.1≠b)
  (keep:∀ b o,b≠X.env.locals->b∉X.fs->b∉ch->s.heap.get? b=some o->H b=none->h'.get? b=some o)
  (slot:∀ b o,b≠X.env.locals->b∈X.fs->b∉ch->s.heap.get? b=some o->H b=none->∃ sl,h'.get? b=some { o with slots:=sl }) (free:∀ b o,b∉ch->s.heap.get? b=some o->H b=none->H' b=none)
  (there:∀ b o,b∉ch->s.heap.get? b=some o->∃ o',h'.get? b=some o')
  (tups:∀ b xs,H b=some (.tup xs)->H' b=some (.tup xs)) (frzs:∀ b o u,H b=some (.frz o u)->H' b=some (.frz o u)) (tbls:∀ b ps,H b=some (.tbl ps)->∃ more,H' b=some (.tbl (ps++more)))
  (ns:∀ m,s.heap.Ns X.env.locals m->h'.Ns X.env.locals m) (hok:HOk X.prog X.w H' h') (hg:AllBare g') :
  Inv X pins σ H' { s with heap:=h',gens:=g',drawn:=d',toks:=t' }:=by
 have neL:∀ b o,X.s₀.heap.get? b=some o->b≠X.env.locals:=fun b o e=>hB0 (hAl (Heap.lt_size e) I.ok.above)
 have neC:∀ b o,X.s₀.heap.get? b=some o->b∉X.ex->b∉ch:=fun b o e hx hb=>by
  rcases(hch b hb).1 with z | z
  ·exact hx z
  ·exact absurd (hAl (Heap.lt_size e) z) (hCm _)
 have cellK:∀ x c,X.env.cells.lookup x=some c->∀ v,s.heap.IsCell c v->h'.IsCell c v:=fun x c e v ⟨o,ho,hd⟩=>by
  have nch:c∉ch:=fun z=>(hch c z).2.2.1 x c e rfl
  by_cases hc:c∈X.fs
  ·obtain⟨sl,q⟩:=slot c o (I.cne x c e) hc nch ho (I.freeC x c e);exact⟨_,q,hd⟩
  ·exact⟨o,keep c o (I.cne x c e) hc nch ho (I.freeC x c e),hd⟩
 refine⟨I.ok,I.os,hg,⟨fun b o e n hb hx=>?_,fun b o e n hb hx=>?_,fun b o e n hx=>?_,fun b o e hx=>?_,fun b xs e=>tups b xs (I.base.tups b xs e),fun b o xs e=>frzs b o xs (I.base.frzs b o xs e),fun b ps e=>?_⟩,?_,fun x c e=>?_,?_,fun x c e=>?_,fun p hp=>?_,hok,I.len⟩
 ·exact keep b o (neL b o e) hb (neC b o e hx) (I.base.keep b o e n hb hx) (I.base.free b o e n hx)
 ·obtain⟨sl,e1⟩:=I.base.slot b o e n hb hx;obtain⟨sl',e2⟩:=slot b _ (neL b o e) hb (neC b o e hx) e1 (I.base.free b o e n hx);exact⟨sl',e2⟩
 ·obtain⟨o',e1⟩:=I.base.there b o e hx;exact free b o' (neC b o e hx) e1 (I.base.free b o e n hx)
 ·obtain⟨o',e1⟩:=I.base.there b o e hx;exact there b o' (neC b o e hx) e1
 ·obtain⟨m1,e1⟩:=I.base.tbls b ps e;obtain⟨m2,e2⟩:=tbls b _ e1;exact⟨m1++m2,by rw[e2,Array.append_assoc]⟩
 ·obtain⟨m,hn,hl⟩:=I.loc;refine⟨m,ns m hn,fun i x v e1 e2 e3=>?_⟩;obtain⟨u,r,l⟩:=hl i x v e1 e2 e3;refine⟨u,r,?_⟩;rcases l with l | ⟨k,c,e,z⟩
  ·exact .inl l
  ·exact .inr ⟨k,c,e,cellK x c e _ z⟩
 ·obtain⟨v,z⟩:=I.cell x c e;exact⟨v,cellK x c e v z⟩
 ·obtain⟨m,⟨o,_,_,ho,_⟩,_⟩:=I.loc;exact free _ o (fun z=>(hch _ z).2.1 rfl) ho I.free
 ·obtain⟨v,o,ho,hd⟩:=I.cell x c e;exact free c o (fun z=>(hch c z).2.2.1 x c e rfl) ho (I.freeC x c e)
 ·obtain⟨e,n,ne,nf,d⟩:=I.pin p hp;have nch:p.1∉ch:=fun z=>(hch p.1 z).2.2.2 p hp rfl
  exact⟨keep p.1 p.2 ne nf nch e n,free p.1 p.2 nch e n,ne,nf,d⟩
theorem Inv.un {t':Nat} (I:Inv X pins σ H s) (u:Un X.fs [] H H' s.heap h') (hok:HOk X.prog X.w H' h'):Inv X pins σ H' { s with heap:=h',toks:=t' }:=by
 obtain⟨m,⟨o,es,ep,ho,r⟩,_⟩:=id I.loc;obtain⟨sl,hL⟩:=u.any ho I.free (by simp);exact I.step (g':=s.gens) (d':=s.drawn) (ch:=[]) (fun _ z=>nomatch z) (fun b o _ hb _ e n=>u.keep b o e n hb (by simp)) (fun b o _ hb _ e n=>u.slot b o e n hb (by simp)) (fun b o _ e n=>u.free b o e n (by simp)) (fun b o _ e=>u.there b o e (by simp)) u.tups u.frzs u.tbls (fun m' hm=>by
  obtain⟨o',es',ep',ho',r'⟩:=hm;rw[ho]at ho';cases ho';exact⟨_,es',ep',hL,r'⟩) hok I.bare
theorem Inv.call {g':Array GenState} {t':Nat} {d':Drawn} {ch:List Addr} (I:Inv X pins σ H s) (u:Un (frs X.stack) ch H H' s.heap h') (hok:HOk X.prog X.w H' h') (hg:AllBare g')
  (hch:∀ b∈ch,(b∈X.ex\/X.s₀.heap.objs.size<=b)/\b≠X.env.locals/\(∀ x c,X.env.cells.lookup x=some c->c≠b)/\∀ p∈X.pn++pins,p.1≠b) :
  Inv X pins σ H' { s with heap:=h',gens:=g',drawn:=d',toks:=t' }:=by
 obtain⟨m,⟨o,es,ep,ho,r⟩,_⟩:=id I.loc;obtain⟨sl,hL⟩:=u.any ho I.free fun z=>(hch _ z).2.1 rfl
 exact I.step (ch:=ch) hch (fun b o hL hb hc e n=>u.keep b o e n (fun z=>(hAh.mp (I.stkSub b z)).elim hL hb) hc) (fun b o _ _ hc e n=>u.any e n hc) (fun b o hc e n=>u.free b o e n hc) (fun b o hc e=>u.there b o e hc) u.tups u.frzs u.tbls (fun m' hm=>by
  obtain⟨o',es',ep',ho',r'⟩:=hm;rw[ho]at ho';cases ho';exact⟨_,es',ep',hL,r'⟩) hok hg
theorem Inv.turned {t':Nat} {it:Addr} (I:Inv X pins σ H s) (k:∀ b o,b≠it->s.heap.get? b=some o->h'.get? b=some o) (hn:H it=none) (hL:it≠X.env.locals)
  (h1:it∈X.ex\/X.s₀.heap.objs.size<=it) (h2:∀ x c,X.env.cells.lookup x=some c->c≠it) (h3:∀ p∈X.pn++pins,p.1≠it):Inv X pins σ H { s with heap:=h',toks:=t' }:=by
 have nit:∀ b u,H b=some u->b≠it:=fun b u e z=>by rw[z,hn]at e;cases e
 refine I.step (g':=s.gens) (d':=s.drawn) (ch:=[it]) (fun b hb=>?_) (fun b o _ _ hc e _=>k b o (fun z=>hc (by simp[z])) e) (fun b o _ _ hc e _=>⟨o.slots,k b o (fun z=>hc (by simp[z])) e⟩) (fun _ _ _ _ n=>n)
  (fun b o hc e=>⟨o,k b o (fun z=>hc (by simp[z])) e⟩) (fun _ _ e=>e) (fun _ _ _ e=>e) (fun b ps e=>⟨#[],by rw[e];simp⟩) (fun m hm=>?_) (fun b u e=>?_) I.bare
 ·have e:b=it:=by simpa using hb
  subst e;exact⟨h1,hL,h2,h3⟩
 ·obtain⟨o,es,ep,ho,r⟩:=hm;exact⟨o,es,ep,k _ o (Ne.symm hL) ho,r⟩
 ·refine(I.hok b u e).stay (fun c v hc q=>k c v ?_ q) (fun _ q=>q) fun _ _ q=>q
  rcases hc with z | z
  ·rw[z];exact nit b u e
  ·exact nit c _ z
theorem Inv.tok (I:Inv X pins σ H s) (t:Nat):Inv X pins σ H { s with toks:=t }:=I.un (h':=s.heap) (t':=t) Un.refl I.hok
theorem Inv.kept (I:Inv X pins σ H s) (k:∀ b u,s.heap.get? b=some u->h'.get? b=some u):Inv X pins σ H { s with heap:=h',toks:=t' }:=I.un (Un.kept k) (I.hok.kept k)
theorem Inv.laid (I:Inv X pins σ H s) (k:∀ b u,s.heap.get? b=some u->h'.get? b=some u) (hp:s.heap.objs.size<=a) (new:qBq X.prog X.w (upd H a o) h' a o) :
  Inv X pins σ (upd H a o) { s with heap:=h',toks:=t' }:=I.un (Un.laid k hp (I.hok.fresh hp)) (I.hok.laid k hp new)
theorem Inv.write (I:Inv X pins σ H s) (mu:Mut (H x)) (he:e=x\/H e=some (.own x)) (k:∀ b u,b≠e->s.heap.get? b=some u->h'.get? b=some u) (heo:∃ u,h'.get? e=some u)
  (new:qBq X.prog X.w (upd H x o) h' x o):Inv X pins σ (upd H x o) { s with heap:=h',toks:=t' }:=I.un (Un.write mu he k heo) (I.hok.write mu he k heo new)
theorem Inv.weak (I:Inv X pins σ H s) (hl:σ'.length=σ.length) (w:∀ (i:Nat) v,σ'[i]?=some (some v)->σ[i]?=some (some v)):Inv X pins σ' H s :=
 ⟨I.ok,I.os,I.bare,I.base,let ⟨m,hn,hl'⟩:=I.loc;⟨m,hn,fun i x v e1 e2 e3=>hl' i x v e1 (w i v e2) e3⟩,I.cell,I.free,I.freeC,I.pin,I.hok,hl.trans I.len⟩
theorem Inv.pins_of (I:Inv X pins σ H s) (h:∀ p∈pins',s.heap.get? p.1=some p.2/\H p.1=none/\p.1≠X.env.locals/\p.1∉X.fs/\∀ v,p.2.data≠.cell v):Inv X pins' σ H s :=
 ⟨I.ok,I.os,I.bare,I.base,I.loc,I.cell,I.free,I.freeC,fun p hp=>(hAb.mp hp).elim (fun z=>I.pin p (hAg _ z)) (h p),I.hok,I.len⟩
theorem nodup_ix {N:List Str} (hN:N.Nodup) {i j:Nat} {x:Str} (a:N[i]?=some x) (b:N[j]?=some x):i=j:=by
 obtain⟨h1,e1⟩:=hAv.mp a;obtain⟨h2,e2⟩:=hAv.mp b;exact(List.getElem_inj hN).mp (e1.trans e2.symm)
theorem store_ok2 {M:Model} {A:Around} {E:Value->Shared->Prop} {i:Nat} {x:Str} {v:V} {u:Value} {Q:Unit->Shared->Prop} (I:Inv X pins σ H s) (hN:X.N.Nodup) (hi:X.N[i]?=some x) (hx:Loc X.env.scope x) (r:qBp v u)
  (h:∀ s',Inv X pins (σ.set i (some v)) H s'->(∃ a,Heap.SameBut a s.heap s'.heap/\(a=X.env.locals\/X.env.cells.lookup x=some a))->Q () s') (hf:X.fn x=true\/X.env.scope.names.lookup x=some .local:=by first | exact .inl rfl | exact .inr rfl | assumption):wpAny M A (storeName X.env x u) Q E s:=by
 obtain⟨m,hn,hl⟩:=id I.loc;have hcls:(X.env.scope.kind == .class || (X.env.scope.kind == .module && X.env.locals != X.env.globals))=false:=by rw[I.ok.kind];rfl
 have hiσ:i < σ.length:=by rw[I.len];exact(hAv.mp hi).1
 have cne:=I.cne;have tracked:∀ {a:Addr} {h':Heap},(∃ o,s.heap.get? a=some o/\H a=none)->Heap.SameBut a s.heap h'->HOk X.prog X.w H h':=fun {a h'} ha hs b ob e=>by
  obtain⟨_,_,hfree⟩:=ha;refine(I.hok b ob e).stay (fun c w' hc q=>(hs.2 c ?_).trans q) (fun _ q=>q) fun _ _ q=>q
  rintro rfl;rcases hc with rfl | hc
  ·rw[hfree]at e;cases e
  ·rw[hfree]at hc;cases hc
 rcases hx with hk | hk
 ·refine wpAny_storeName_local hk hn (fun h' hn' hs=>?_) hcls;obtain⟨oL,_,_,hoL,_⟩:=id hn;refine h _ ⟨I.ok,I.os,I.bare,⟨fun b o e n hb hx=>?_,fun b o e n hb hx=>?_,I.base.free,fun b o e hx=>?_,I.base.tups,I.base.frzs,I.base.tbls⟩,⟨_,hn',fun j y v' e1 e2 e3=>?_⟩,fun y c e=>?_,I.free,I.freeC,fun p hp=>?_,tracked ⟨oL,hoL,I.free⟩ hs,by simpa using I.len⟩ ⟨_,hs,.inl rfl⟩
  ·exact(hs.2 b (hB0 (hAl (Heap.lt_size e) I.ok.above))).trans (I.base.keep b o e n hb hx)
  ·obtain⟨sl,e1⟩:=I.base.slot b o e n hb hx;exact⟨sl,(hs.2 b (hB0 (hAl (Heap.lt_size e) I.ok.above))).trans e1⟩
  ·obtain⟨o',e1⟩:=I.base.there b o e hx;exact⟨o',(hs.2 b (hB0 (hAl (Heap.lt_size e) I.ok.above))).trans e1⟩
  ·by_cases hj:j=i
   ·subst hj;rw[hi]at e1;cases e1;rw[List.getElem?_set_self hiσ]at e2;cases e2;exact⟨u,r,.inl ⟨hk,by simp⟩⟩
   ·rw[hDv (Ne.symm hj)]at e2;obtain⟨u',r',q⟩:=hl j y v' e1 e2 e3;refine⟨u',r',?_⟩;rcases q with ⟨k,e⟩ | ⟨k,c,e,z⟩
    ·refine .inl ⟨k,?_⟩;have:y≠x:=fun e=>hj (nodup_ix hN e1 (e▸hi))
     simp[this,e]
    ·exact .inr ⟨k,c,e,z.sameBut hs (cne y c e)⟩
  ·obtain⟨w',z⟩:=I.cell y c e;exact⟨w',z.sameBut hs (cne y c e)⟩
  ·obtain⟨e,n,ne,nf,d⟩:=I.pin p hp;exact⟨(hs.2 p.1 ne).trans e,n,ne,nf,d⟩
 ·have hfn:X.fn x=true:=by
   rcases hf with z | z
   ·exact z
   ·rw[z]at hk;cases hk
  obtain⟨c,hc⟩:=I.ok.has x (.inl hk);obtain⟨w',z⟩:=I.cell x c hc;refine wpAny_storeName_cell I.ok.kind hk hc z (fun h' hc' hs=>?_);obtain⟨oc,hoc,hocd⟩:=id z;refine h { s with heap:=h' } ⟨I.ok,I.os,I.bare,⟨fun b o e n hb hx=>?_,fun b o e n hb hx=>?_,I.base.free,fun b o e hx=>?_,I.base.tups,I.base.frzs,I.base.tbls⟩,⟨m,hn.sameBut hs (Ne.symm (cne x c hc)),fun j y v' e1 e2 e3=>?_⟩,fun y c' e=>?_,I.free,I.freeC,fun p hp=>?_,tracked ⟨oc,hoc,I.freeC x c hc⟩ hs,by simpa using I.len⟩ ⟨c,hs,.inr hc⟩
  ·exact(hs.2 b (hB0 (hAl (Heap.lt_size e) (I.ok.cab x c hfn hc)))).trans (I.base.keep b o e n hb hx)
  ·obtain⟨sl,e1⟩:=I.base.slot b o e n hb hx;exact⟨sl,(hs.2 b (hB0 (hAl (Heap.lt_size e) (I.ok.cab x c hfn hc)))).trans e1⟩
  ·obtain⟨o',e1⟩:=I.base.there b o e hx;exact⟨o',(hs.2 b (hB0 (hAl (Heap.lt_size e) (I.ok.cab x c hfn hc)))).trans e1⟩
  ·by_cases hj:j=i
   ·subst hj;rw[hi]at e1;cases e1;rw[List.getElem?_set_self hiσ]at e2;cases e2;exact⟨u,r,.inr ⟨.inl hk,c,hc,hc'⟩⟩
   ·rw[hDv (Ne.symm hj)]at e2;obtain⟨u',r',q⟩:=hl j y v' e1 e2 e3;refine⟨u',r',?_⟩;rcases q with q | ⟨k,c',e,z'⟩
    ·exact .inl q
    ·refine .inr ⟨k,c',e,z'.sameBut hs ?_⟩;rintro rfl;exact hj (nodup_ix hN e1 (I.ok.inj _ _ _ e hc▸hi))
  ·by_cases hcc:c'=c
   ·subst hcc;exact⟨_,hc'⟩
   ·obtain⟨w2,z2⟩:=I.cell y c' e;exact⟨w2,z2.sameBut hs hcc⟩
  ·obtain⟨e,n,ne,nf,d⟩:=I.pin p hp;refine⟨(hs.2 p.1 ?_).trans e,n,ne,nf,d⟩;intro q;rw[q,hoc]at e;have q':oc=p.2:=hAu e;exact d w' (by rw[<-q'];exact hocd)
theorem store_ok (I:Inv X pins σ H s) (hN:X.N.Nodup) (hi:X.N[i]?=some x) (hx:Loc X.env.scope x) (r:qBp v u)
  (h:∀ s',Inv X pins (σ.set i (some v)) H s'->Q () s') (hf:X.fn x=true\/X.env.scope.names.lookup x=some .local:=by first | exact .inl rfl | exact .inr rfl | assumption):wpAny M A (storeName X.env x u) Q E s :=
 store_ok2 I hN hi hx r (fun s' I' _=>h s' I') hf
theorem Inv.call' (I:Inv X pins σ H s) (ho:s'.os=s.os) (u:Un (frs X.stack) ch H H' s.heap s'.heap) (hok:HOk X.prog X.w H' s'.heap) (hg:AllBare s'.gens)
  (hch:∀ b∈ch,(b∈X.ex\/X.s₀.heap.objs.size<=b)/\b≠X.env.locals/\(∀ x c,X.env.cells.lookup x=some c->c≠b)/\∀ p∈X.pn++pins,p.1≠b):Inv X pins σ H' s':=by
 obtain⟨h',g',d',t',o'⟩:=s';have e:o'=s.os:=ho;subst e;exact I.call (g':=g') (t':=t') (d':=d') u hok hg hch
end
abbrev XK:=Value->Option Addr->Hp->Prop
abbrev St:=List (Option V)
abbrev VK:=V->Hp->Prop
abbrev TE:=St->Hp->VK->Prop
abbrev TT:=St->Hp->(Bool->Hp->Prop)->Prop
abbrev TA:=St->Hp->(List V->Hp->Prop)->Prop
structure Ends where
 nx:St->Hp->Prop
 rt:VK
 bk:St->Hp->Prop:=fun _ _=>False
 ct:St->Hp->Prop:=fun _ _=>False
abbrev TS:=Ends->St->Hp->Prop
def EP (X:Cx) (pins:List (Addr×Obj)) (σ:St) (Q:VK) (u:Value) (s':Shared):Prop:=∃ v H',Inv X pins σ H' s'/\qBp v u/\Q v H'
def TP (X:Cx) (pins:List (Addr×Obj)) (σ:St) (Q:Bool->Hp->Prop) (b:Bool) (s':Shared):Prop:=∃ H',Inv X pins σ H' s'/\Q b H'
def AP (X:Cx) (pins:List (Addr×Obj)) (σ:St) (Q:List V->Hp->Prop) (us:List Value) (s':Shared):Prop:=∃ vs H',Inv X pins σ H' s'/\qA9 vs us/\Q vs H'
def SP (X:Cx) (pins:List (Addr×Obj)) (D:Ends) (f:Flow) (s':Shared):Prop :=
 match f with
 | .next=>∃ σ' H',Inv X pins σ' H' s'/\D.nx σ' H'
 | .brk=>∃ σ' H',Inv X pins σ' H' s'/\D.bk σ' H'
 | .cont=>∃ σ' H',Inv X pins σ' H' s'/\D.ct σ' H'
 | .ret u=>∃ v σ' H',Inv X pins σ' H' s'/\qBp v u/\D.rt v H'
def PE (X:Cx) (e:Expr) (t:TE):Prop :=
 ∀ (pins:List (Addr×Obj)) (s:Shared) (σ:St) (H:Hp) (Q:VK),Inv X pins σ H s->t σ H Q->wpAny (model X.prog X.w) X.A (eval e X.env) (EP X pins σ Q) X.xe s
def PT (X:Cx) (e:Expr) (t:TT):Prop :=
 ∀ (pins:List (Addr×Obj)) (s:Shared) (σ:St) (H:Hp) (Q:Bool->Hp->Prop),Inv X pins σ H s->t σ H Q->wpAny (model X.prog X.w) X.A (isTrue e X.env (eval e X.env)) (TP X pins σ Q) X.xe s
def PW (X:Cx) (e:Expr) (t:TT):Prop :=
 ∀ (whole:Sem Value) (pins:List (Addr×Obj)) (s:Shared) (σ:St) (H:Hp) (Q:Bool->Hp->Prop),Inv X pins σ H s->t σ H Q->wpAny (model X.prog X.w) X.A (isTrue e X.env whole) (TP X pins σ Q) X.xe s
theorem PW.pt (h:PW X e t):PT X e t:=h _
def PA (X:Cx) (es:List Expr) (t:TA):Prop :=
 ∀ (pos:Pos) (pins:List (Addr×Obj)) (s:Shared) (σ:St) (H:Hp) (Q:List V->Hp->Prop),Inv X pins σ H s->t σ H Q->wpAny (model X.prog X.w) X.A (spliced (backTo pos (starEach es X.env))) (AP X pins σ Q) X.xe s
def PS (X:Cx) (st:Stmt) (t:TS):Prop :=
 ∀ (pins:List (Addr×Obj)) (s:Shared) (σ:St) (H:Hp) (D:Ends),Inv X pins σ H s->t D σ H->wpAny (model X.prog X.w) X.A (exec st X.env) (SP X pins D) X.xe s
def PSs (X:Cx) (st:List Stmt) (t:TS):Prop :=
 ∀ (pins:List (Addr×Obj)) (s:Shared) (σ:St) (H:Hp) (D:Ends),Inv X pins σ H s->t D σ H->wpAny (model X.prog X.w) X.A (execs st X.env) (SP X pins D) X.xe s
theorem thn (h:wpAny M A t Q E s) (hQ:∀ a s,Q a s->Q' a s):wpAny M A t Q' E s:=wpAny_mono h hQ fun _ _ x=>x
end L2
namespace L2
open PySem PySem.Spec PyProof.Rows
section
variable {X:Cx}
def tVar (i:Nat):TE:=fun σ H Q=>∃ v,σ[i]?=some (some v)/\Q v H
def tC (v:V):TE:=fun _ H Q=>Q v H
theorem pe_var (hN:X.N[i]?=some x) (hv:Vis X.env.scope x) (hd:(x == ("__debug__" : Str))=false:=by decide) (hcd:(x == ("__classdict__" : Str))=false:=by decide):PE X (.Name x pos) (tVar i):=by
 intro pins s σ H Q I h;obtain⟨v,e,h⟩:=h;obtain⟨m,hn,hl⟩:=I.loc;obtain⟨u,r,l⟩:=hl i x v hN e hv;have fin:EP X pins σ Q u s:=⟨v,H,I,r,h⟩;rcases l with ⟨hk,hm⟩ | ⟨hk,c,hc,hcell⟩
 ·exact wpAny_Name (wpAny_loadName_local I.ok.kind hk hn hm fin) hd
 ·rcases hk with hk | hk
  ·exact wpAny_Name (wpAny_loadName_cell I.ok.kind hk hc hcell fin) hd
  ·exact wpAny_Name (wpAny_loadName_free I.ok.kind hk hc hcell fin hcd) hd
theorem qAc {i j pos}:PE X (.Constant (.int i) j pos) (tC (.int i)):=fun _ _ _ H _ I h=>wpAny_Constant_int ⟨.int i,H,I.tok _,⟨_,rfl⟩,h⟩
theorem pe_bl {b j pos}:PE X (.Constant (.bool b) j pos) (tC (.bl b)):=fun _ _ _ H _ I h=>Constant_bool ⟨.bl b,H,I,rfl,h⟩
theorem pe_str {x j pos}:PE X (.Constant (.str x) j pos) (tC (.str x)):=fun _ _ _ H _ I h=>Calls.Constant_str ⟨.str x,H,I.tok _,⟨_,rfl⟩,h⟩
def Gl (X:Cx) (x:Str):Prop:=X.env.kindOf x=some .globalImplicit
theorem ld_glob (I:Inv X pins σ H s) (hg:Gl X x) (hm:X.mg x=some u) (h:Q u s)
  (hd:(x == ("__debug__" : Str))=false:=by decide):wpAny (model X.prog X.w) X.A (eval (.Name x pos) X.env) Q E s :=
 Calls.Name_function_global I.ok.kind hg (Calls.loadGlobal_global (by rw[I.ok.glob];exact I.mod.glob.keeps I.bk) hm h) hd
theorem qEm (I:Inv X pins σ H s) (hg:Gl X x) (hm:X.mg x=none) (hv:bootBuiltins x=some u) (h:Q u s)
  (hn:x≠"__name__":=by decide) (hd:(x == ("__debug__" : Str))=false:=by decide):wpAny (model X.prog X.w) X.A (eval (.Name x pos) X.env) Q E s:=by
 obtain⟨mb,h1,h2⟩:=I.mod.blt;exact Calls.Name_function_global I.ok.kind hg (Calls.loadGlobal_builtin (by rw[I.ok.glob];exact I.mod.glob.keeps I.bk) hm (by rw[I.ok.blt];exact h1.keeps I.bk) ((h2 x hn).trans hv) h) hd
theorem pe_bltn (hg:Gl X x) (hm:X.mg x=none) (hv:bootBuiltins x=some u) (r:qBp v u) (hn:x≠"__name__":=by decide) (hd:(x == ("__debug__" : Str))=false:=by decide):PE X (.Name x pos) (tC v) :=
 fun _ _ _ H _ I h=>qEm I hg hm hv ⟨v,H,I,r,h⟩ hn hd
variable {a b:Expr} {ta tb:TE} {pos:Pos}
def tB (t:TE):TT:=fun σ H Q=>t σ H fun x H1=>∃ c,x = .bl c/\Q c H1
theorem qE9 (h:PE X e t) (he:∀ whole,isTrue e X.env whole=(do let v ← whole;standAt e.pos;holding [v] (truthy v)):=by intro _;rfl):PT X e (tB t):=by
 intro pins s σ H Q I hw;refine isTrue_plain (thn (h pins s σ H _ I hw) fun v s1 ⟨x,H1,I1,r1,q1⟩=>?_) (he _);obtain⟨d,rfl,q⟩:=q1;cases r1;exact wpAny_truthy_bool ⟨H1,I1,q⟩
variable {tA tB':TT} {rest:List Expr}
def tAnd (t u:TT):TT:=fun σ H Q=>t σ H fun c H1=>if c=true then u σ H1 Q else Q false H1
def tOr (t u:TT):TT:=fun σ H Q=>t σ H fun c H1=>if c=true then Q true H1 else u σ H1 Q
def tNot (t:TT):TT:=fun σ H Q=>t σ H fun c H1=>Q (!c) H1
theorem qCl (ha:PT X a tA):PW X (.BoolOp .And [a] pos) tA:=by
 intro wh pins s σ H Q I h;refine isTrue_and (thn (ha pins s σ H Q I h) fun c s1 e=>?_);cases c with
 | true=>exact isTrue_and_nil e
 | false=>exact e
theorem pw_or1 (ha:PT X a tA):PW X (.BoolOp .Or [a] pos) tA:=by
 intro wh pins s σ H Q I h;refine isTrue_or (thn (ha pins s σ H Q I h) fun c s1 e=>?_);cases c with
 | false=>exact isTrue_or_nil e
 | true=>exact e
theorem qDq (ha:PT X a tA) (hb:PW X (.BoolOp .And (b :: rest) pos) tB'):PW X (.BoolOp .And (a :: b :: rest) pos) (tAnd tA tB'):=by
 intro wh pins s σ H Q I h;refine isTrue_and (thn (ha pins s σ H _ I h) fun c s1 ⟨H1,I1,q1⟩=>?_);cases c with
 | true=>exact hb wh pins s1 σ H1 Q I1 q1
 | false=>exact⟨H1,I1,q1⟩
theorem pw_or (ha:PT X a tA) (hb:PW X (.BoolOp .Or (b :: rest) pos) tB'):PW X (.BoolOp .Or (a :: b :: rest) pos) (tOr tA tB'):=by
 intro wh pins s σ H Q I h;refine isTrue_or (thn (ha pins s σ H _ I h) fun c s1 ⟨H1,I1,q1⟩=>?_);cases c with
 | true=>exact⟨H1,I1,q1⟩
 | false=>exact hb wh pins s1 σ H1 Q I1 q1
theorem qG6 (ha:PT X a tA):PT X (.UnaryOp .Not a pos) (tNot tA):=by
 intro pins s σ H Q I h;exact isTrue_not (ha pins s σ H (fun c H1=>Q (!c) H1) I h)
def tIf (t:TT) (ta tb:TE):TE:=fun σ H Q=>t σ H fun c H1=>if c=true then ta σ H1 Q else tb σ H1 Q
theorem pe_ifExp (hc:PT X c tA) (ha:PE X a ta) (hb:PE X b tb):PE X (.IfExp c a b pos) (tIf tA ta tb):=by
 intro pins s σ H Q I h;refine wpAny_IfExp (thn (hc pins s σ H _ I h) fun d s1 ⟨H1,I1,q1⟩=>?_);cases d with
 | true=>exact ha pins s1 σ H1 Q I1 q1
 | false=>exact hb pins s1 σ H1 Q I1 q1
end
end L2
namespace L2
open PySem PySem.Spec PyProof.Rows
def SqL (K:PySem.W.Frag) (H:Hp) (a:Addr) (xs:List V):Prop :=
 Rd H a (.lst xs) \/
  ∃ (o:Obj) (its:Array Value) (n:Nat),K.lookup a=some o/\o.cls = .type "list"/\o.dict=none/\o.data = .seq its n/\its.size<=sizeLine/\qA9 xs its.toList
def SqT (K:PySem.W.Frag) (H:Hp) (a:Addr) (xs:List V):Prop :=
 Rd H a (.tup xs) \/
  ∃ (o:Obj) (its:Array Value) (n:Nat),K.lookup a=some o/\o.cls = .type "tuple"/\o.data = .seq its n/\its.size<=sizeLine/\qA9 xs its.toList
noncomputable def absV:Value->Option V
 | .none=>some .non
 | .bool b=>some (.bl b)
 | .int i _=>some (.int i)
 | .str x _=>some (.str x)
 | .bytes b _=>some (.byt b)
 | .float b _=>some (.flt b)
 | .ref a=>some (.ref a)
 | .type n=>some (.ty n)
 | _=>none
theorem qBp.abs (r:qBp x u):absV u=some x:=by
 cases x with
 | non=>cases r;rfl
 | bl _=>cases r;rfl
 | int _=>obtain⟨t,rfl⟩:=r;rfl
 | str _=>obtain⟨t,rfl⟩:=r;rfl
 | byt _=>obtain⟨t,rfl⟩:=r;rfl
 | flt _=>obtain⟨t,rfl⟩:=r;rfl
 | ref _=>cases r;rfl
 | ty _=>cases r;rfl
theorem qBp.inj (r:qBp x u) (q:qBp y u):x=y:=hAu (r.abs.symm.trans q.abs)
theorem qA9.inj:∀ {xs ys:List V} {us:List Value},qA9 xs us->qA9 ys us->xs=ys
 | _,_,_,.nil,.nil=>rfl
 | _,_,_,.cons r t,.cons r' t'=>by rw[r.inj r',qA9.inj t t']
section
variable {X:Cx} {pins:List (Addr×Obj)} {σ:St} {H:Hp} {s:Shared} {a:Addr} {xs ys:List V}
theorem SqL.of {K:PySem.W.Frag} (h:H a=some (.lst xs)):SqL K H a xs:=.inl (.inl h)
theorem SqT.of {K:PySem.W.Frag} (h:H a=some (.tup xs)):SqT K H a xs:=.inl (.inl h)
theorem Inv.list (I:Inv X pins σ H s) (h:SqL X.K H a xs):∃ its:List Value,qA9 xs its/\PlainL s.heap a its.toArray/\xs.length<=sizeLine:=by
 rcases h with h | ⟨o,its,n,hk,hc,hd,hs,hz,r⟩
 ·obtain⟨z,its,n,r,e⟩:=h.ok I.hok;exact⟨its,r,⟨_,n,e,rfl,rfl,rfl⟩,z⟩
 ·refine⟨its.toList,r,⟨o,n,I.kIn a o hk,hc,hd,by simpa using hs⟩,?_⟩;have e:=r.length;simp only[hC1]at e;omega
theorem Inv.tuple (I:Inv X pins σ H s) (h:SqT X.K H a xs):∃ its:List Value,qA9 xs its/\IsTup s.heap a its.toArray/\xs.length<=sizeLine:=by
 rcases h with h | ⟨o,its,n,hk,hc,hs,hz,r⟩
 ·obtain⟨z,its,r,p⟩:=h.ok I.hok;exact⟨its,r,p,z⟩
 ·refine⟨its.toList,r,⟨o,I.kIn a o hk,hc,n,by simpa using hs⟩,?_⟩;have e:=r.length;simp only[hC1]at e;omega
theorem Inv.list_inj (I:Inv X pins σ H s) (h:SqL X.K H a xs) (h':SqL X.K H a ys):xs=ys:=by
 obtain⟨its,r,⟨o,n,e,_,_,d⟩,_⟩:=I.list h;obtain⟨its',r',⟨o',n',e',_,_,d'⟩,_⟩:=I.list h';rw[e]at e';cases e';rw[d]at d';injection d' with d1 _
 have:its=its':=by simpa using congrArg Array.toList d1
 subst this;exact r.inj r'
end
noncomputable abbrev Cx.wish (X:Cx) (E:Value->Shared->Prop):Cx:={ X with xe:=E }
noncomputable abbrev Cx.nox (X:Cx):Cx:=X.wish fun _ _=>False
theorem Cx.Ok.wish {X:Cx} (ok:X.Ok) (E:Value->Shared->Prop):(X.wish E).Ok :=
 ⟨ok.mod,ok.kind,ok.glob,ok.blt,ok.above,ok.inj,ok.has,ok.cab,ok.hd,ok.frames,ok.stk,ok.exf,ok.bs,ok.bsz,ok.noex,ok.exfs,ok.funs,ok.frf⟩
theorem Cx.Ok.unwish {X:Cx} {E:Value->Shared->Prop} (ok:(X.wish E).Ok):X.Ok :=
 ⟨ok.mod,ok.kind,ok.glob,ok.blt,ok.above,ok.inj,ok.has,ok.cab,ok.hd,ok.frames,ok.stk,ok.exf,ok.bs,ok.bsz,ok.noex,ok.exfs,ok.funs,ok.frf⟩
section
variable {X:Cx} {pins:List (Addr×Obj)} {σ:St} {H:Hp} {s:Shared} {E:Value->Shared->Prop}
theorem Inv.wish (I:Inv X pins σ H s) (E:Value->Shared->Prop):Inv (X.wish E) pins σ H s:=⟨I.ok.wish E,I.os,I.bare,I.base,I.loc,I.cell,I.free,I.freeC,I.pin,I.hok,I.len⟩
theorem Inv.unwish (I:Inv (X.wish E) pins σ H s):Inv X pins σ H s:=⟨I.ok.unwish,I.os,I.bare,I.base,I.loc,I.cell,I.free,I.freeC,I.pin,I.hok,I.len⟩
theorem SP.unwish (h:SP (X.wish E) pins D f s'):SP X pins D f s':=by
 cases f with
 | next=>obtain⟨σ',H',I,q⟩:=h;exact⟨σ',H',I.unwish,q⟩
 | brk=>obtain⟨σ',H',I,q⟩:=h;exact⟨σ',H',I.unwish,q⟩
 | cont=>obtain⟨σ',H',I,q⟩:=h;exact⟨σ',H',I.unwish,q⟩
 | ret u=>obtain⟨v,σ',H',I,r,q⟩:=h;exact⟨v,σ',H',I.unwish,r,q⟩
theorem PSs.nox {st:List Stmt} {t:TS} (h:PSs X.nox st t):PSs X st t:=fun pins s σ H D I hw =>
 wpAny_mono (h pins s σ H D (I.wish _) hw) (fun _ _ q=>q.unwish) fun _ _ z=>False.elim z
end
section
variable {X:Cx} {st:Stmt} {rest:List Stmt} {t u:TS} {e:Expr} {te:TE} {pos:Pos}
def tNext:TS:=fun D σ H=>D.nx σ H
def tSeq (t u:TS):TS:=fun D σ H=>t { D with nx:=u D } σ H
theorem qAu:PSs X [] tNext:=fun _ _ σ H _ I h=>wpAny_execs_nil ⟨σ,H,I,h⟩
theorem qAa (h1:PS X st t) (h2:PSs X rest u):PSs X (st :: rest) (tSeq t u):=by
 intro pins s σ H D I h;refine wpAny_execs_cons (thn (h1 pins s σ H { D with nx:=u D } I h) fun f s1 q=>?_);cases f with
 | next =>
  obtain⟨σ',H',I',q⟩:=q;exact h2 pins s1 σ' H' D I' q
 | ret v=>exact q
 | brk=>exact q
 | cont=>exact q
theorem pss_one (h1:PS X st t):PSs X [st] t:=by
 intro pins s σ H D I h;refine wpAny_execs_cons (thn (h1 pins s σ H D I h) fun f s1 q=>?_);cases f with
 | next=>exact wpAny_execs_nil q
 | ret v=>exact q
 | brk=>exact q
 | cont=>exact q
theorem Inv.quiet (I:Inv X pins σ H s):interactive X.env=false:=by simp[interactive,I.ok.kind]
def tDrop (te:TE):TS:=fun D σ H=>te σ H fun _ H1=>D.nx σ H1
theorem ps_expr (he:PE X e te) (hs:swapsWith e none pos.line X.env=pure false:=by rfl):PS X (.Expr e pos) (tDrop te):=by
 intro pins s σ H D I h;exact wpAny_Expr_any (thn (he pins s σ H _ I h) fun v s1 ⟨x,H1,I1,r1,q1⟩=>⟨σ,H1,I1,q1⟩) I.quiet hs
def tRet (te:TE):TS:=fun D σ H=>te σ H D.rt
theorem ps_ret (he:PE X e te):PS X (.Return (some e) pos) (tRet te):=by
 intro pins s σ H D I h;exact wpAny_Return_some (thn (he pins s σ H _ I h) fun v s1 ⟨x,H1,I1,r1,q1⟩=>⟨x,σ,H1,I1,r1,q1⟩)
def tIfS (c:TT) (t u:TS):TS:=fun D σ H=>c σ H fun b H1=>if b=true then t D σ H1 else u D σ H1
theorem qBf (hc:PT X c tc) (ha:PSs X a t) (hb:PSs X b u):PS X (.If c a b pos) (tIfS tc t u):=by
 intro pins s σ H D I h;refine wpAny_If (thn (hc pins s σ H _ I h) fun d s1 ⟨H1,I1,q1⟩=>?_);cases d with
 | true=>exact ha pins s1 σ H1 D I1 q1
 | false=>exact hb pins s1 σ H1 D I1 q1
def tNever:TS:=fun _ _ _=>False
theorem ps_never:PS X st tNever:=fun _ _ _ _ _ _ h=>h.elim
end
abbrev TG:=V->St->Hp->(St->Hp->Prop)->Prop
abbrev TGs:=List V->St->Hp->(St->Hp->Prop)->Prop
def PG (X:Cx) (target:Expr) (t:TG):Prop :=
 ∀ (pins:List (Addr×Obj)) (s:Shared) (σ:St) (H:Hp) (v:V) (u:Value) (Q:St->Hp->Prop),Inv X pins σ H s->qBp v u->t v σ H Q ->
  wpAny (model X.prog X.w) X.A (assign target X.env u) (fun _ s'=>∃ σ' H',Inv X pins σ' H' s'/\Q σ' H') X.xe s
def PGs (X:Cx) (ts:List Expr) (t:TGs):Prop :=
 ∀ (pins:List (Addr×Obj)) (s:Shared) (σ:St) (H:Hp) (vs:List V) (us:List Value) (Q:St->Hp->Prop),Inv X pins σ H s->qA9 vs us->t vs σ H Q ->
  wpAny (model X.prog X.w) X.A (assignInOrder ((assignEach ts X.env).map (·.2)) us) (fun _ s'=>∃ σ' H',Inv X pins σ' H' s'/\Q σ' H') X.xe s
abbrev TSet:=V->V->V->Hp->(Hp->Prop)->Prop
def PSet (X:Cx) (t:TSet):Prop :=
 ∀ (pins:List (Addr×Obj)) (s:Shared) (σ:St) (H:Hp) (o i v:V) (ov iv u:Value) (Q:Hp->Prop),Inv X pins σ H s->qBp o ov->qBp i iv->qBp v u->t o i v H Q ->
  wpAny (model X.prog X.w) X.A (setItem ov iv u) (fun _ s'=>∃ H',Inv X pins σ H' s'/\Q H') X.xe s
section
variable {X:Cx} {pos:Pos}
def gName (i:Nat):TG:=fun v σ H Q=>Q (σ.set i (some v)) H
theorem qAd (hN:X.N.Nodup) (hi:X.N[i]?=some x) (hx:Loc X.env.scope x) (hf:X.fn x=true\/X.env.scope.names.lookup x=some .local:=by first | exact .inl rfl | exact .inr rfl | assumption):PG X (.Name x pos) (gName i):=by
 intro pins s σ H v u Q I r h;exact wpAny_assign_Name (store_ok I hN hi hx r (fun s' I'=>⟨_,H,I',h⟩) hf)
def gNil:TGs:=fun vs σ H Q=>vs=[]/\Q σ H
def gCons (t:TG) (u:TGs):TGs:=fun vs σ H Q=>∃ v r,vs=v :: r/\t v σ H fun σ' H'=>u r σ' H' Q
theorem qCx:PGs X [] gNil:=by
 intro pins s σ H vs us Q I r h;obtain⟨e,h⟩:=h;subst e;cases r;exact assignInOrder_nil ⟨σ,H,I,h⟩
theorem qA4 (h1:PG X e t) (h2:PGs X es u)
  (hs:(assignEach (e :: es) X.env).map (·.2)=assign e X.env :: (assignEach es X.env).map (·.2):=by rfl):PGs X (e :: es) (gCons t u):=by
 intro pins s σ H vs us Q I r h;obtain⟨v,vr,e1,h⟩:=h;subst e1;cases r with
 | cons r rr =>
  rw[hs];refine assignInOrder_cons (thn (h1 pins s σ H _ _ _ I r h) fun _ s1 ⟨σ1,H1,I1,q1⟩=>?_);exact h2 pins s1 σ1 H1 _ _ Q I1 rr q1
def gTup (K:PySem.W.Frag) (n:Nat) (t:TGs):TG:=fun v σ H Q=>∃ a xs,v = .ref a/\SqT K H a xs/\xs.length=n/\t xs σ H Q
theorem qEf (hc:X.calm=true) (h:PGs X es t)
  (hn:(assignEach es X.env).length=n:=by rfl) (hst:(assignEach es X.env).findIdx? (·.1)=none:=by rfl):PG X (.Tuple es k pos) (gTup X.K n t):=by
 intro pins s σ H v u Q I r hw;obtain⟨a,xs,e1,hq,hl,hw⟩:=hw;subst e1;cases r;obtain⟨its,rv,ht,hz⟩:=I.tuple hq;refine assign_Tuple_tuple (I.ok.hd hc) ht (by simp[hn,<-hl,rv.length]) hst fun h' hx=>?_
 have I1:Inv X pins σ H { s with heap:=h' }:=I.kept (t':=s.toks) fun b o e=>hx b o (hB0 (Heap.lt_size e)) e
 exact h pins _ σ H xs _ Q I1 (by simpa using rv) hw
def gSub (to ti:TE) (t:TSet):TG:=fun v σ H Q=>to σ H fun o H1=>ti σ H1 fun i H2=>t o i v H2 fun H3=>Q σ H3
theorem pg_sub (ho:PE X o to) (hi:PE X i ti) (hs:PSet X t)
  (ha:∀ v,assign (.Subscript o i pos) X.env v=(do
   let ov ← holding [v] (eval o X.env)
   let iv ← holding [v,ov] (eval i X.env)
   standAt pos
   holding [v,ov,iv] (setItem ov iv v)
   release [v,ov,iv] []):=by intro _;rfl):PG X (.Subscript o i pos) (gSub to ti t):=by
 intro pins s σ H v u Q I r h;rw[ha];refine wpAny_bind (wpAny_holding (thn (ho pins s σ H _ I h) fun ov s1 ⟨x,H1,I1,r1,q1⟩=>?_));refine wpAny_bind (wpAny_holding (thn (hi pins s1 σ H1 _ I1 q1) fun iv s2 ⟨y,H2,I2,r2,q2⟩=>?_));refine wpAny_bind (wpAny_standAt (wpAny_bind (wpAny_holding (thn (hs pins s2 σ H2 x y v ov iv u _ I2 r1 r2 r q2) fun _ s3 ⟨H3,I3,q3⟩=>?_))));exact wpAny_release ⟨σ,H3,I3,q3⟩
def tAsg (te:TE) (g:TG):TS:=fun D σ H=>te σ H fun x H1=>g x σ H1 D.nx
theorem qEe (he:PE X e te) (hg:PG X tg g) (hs:swapsWithSole [tg] e pos.line X.env=pure false:=by rfl) (hw:swappedStores [tg] e X.env=pure none:=by rfl)
  (h1:(assignEach [tg] X.env).map (·.2)=[assign tg X.env]:=by rfl):PS X (.Assign [tg] e pos) (tAsg te g):=by
 intro pins s σ H D I h;refine wpAny_Assign_stores (thn (he pins s σ H _ I h) fun v s1 ⟨x,H1,I1,r1,q1⟩=>?_) hs hw;rw[h1];exact thn (hg pins s1 σ H1 x v _ I1 r1 q1) fun _ s2 q=>q
theorem qAg (hN:X.N.Nodup) (hi:X.N[i]?=some x) (hx:Loc X.env.scope x) (he:PE X e te) (hs:swapsWith e (some (.Name x pos')) pos.line X.env=pure false:=by rfl) (hf:X.fn x=true\/X.env.scope.names.lookup x=some .local:=by first | exact .inl rfl | exact .inr rfl | assumption) :
  PS X (.Assign [.Name x pos'] e pos) (tAsg te (gName i)):=by
 intro pins s σ H D I h;refine wpAny_Assign_Name (thn (he pins s σ H _ I h) fun v s1 ⟨y,H1,I1,r1,q1⟩=>?_) hs;exact store_ok I1 hN hi hx r1 (fun s2 I2=>⟨_,H1,I2,q1⟩) hf
end
section
variable {X:Cx} {pos:Pos}
def tWhile (c:TT) (tb:TS):TS:=fun D σ H=>∃ W:Nat->St->Hp->Prop,(∃ m,W m σ H)/\∀ m σ H,W m σ H ->
 c σ H fun b H1=>if b=true then ∃ N:St->Hp->Prop,(∀ σ' H',N σ' H'->∃ m',m'<m/\W m' σ' H')/\tb { D with nx:=N,ct:=N,bk:=D.nx } σ H1 else D.nx σ H1
theorem ps_while (hp:PassesOwn (model X.prog X.w) X.A X.env X.xe) (hc:PT X c tc) (hb:PSs X body tb):PS X (.While c body [] pos) (tWhile tc tb):=by
 intro pins s σ H D I h;obtain⟨W,⟨m0,w0⟩,turn⟩:=h;refine wpAny_While (codeAny_whileLoop (fun n s'=>∃ σ' H',Inv X pins σ' H' s'/\W n σ' H') ?_ m0 ⟨σ,H,I,w0⟩);rintro n s1 ⟨σ1,H1,I1,w1⟩;refine wpAny_passesOwn hp (thn (hc pins s1 σ1 H1 _ I1 (turn n σ1 H1 w1)) fun b s2 ⟨H2,I2,q2⟩=>?_);cases b with
 | true =>
  obtain⟨N,hN,q2⟩:=q2;rw[if_pos rfl];refine wpAny_passesOwn hp (thn (hb pins s2 σ1 H2 _ I2 q2) fun f s3 q3=>?_);cases f with
  | next =>
   obtain⟨σ3,H3,I3,n3⟩:=q3;obtain⟨m',hm,w3⟩:=hN σ3 H3 n3;exact⟨m',hm,σ3,H3,I3,w3⟩
  | cont =>
   obtain⟨σ3,H3,I3,n3⟩:=q3;obtain⟨m',hm,w3⟩:=hN σ3 H3 n3;exact⟨m',hm,σ3,H3,I3,w3⟩
  | brk=>exact q3
  | ret v=>exact q3
 | false =>
  rw[if_neg hB1];exact wpAny_execs_nil ⟨σ1,H2,I2,q2⟩
end
structure It where
 go:Nat->Hp->Prop
 yld:Nat->Hp->V->Hp->Prop
 stop:Nat->Hp->Prop
def FpOk (X:Cx) (pins:List (Addr×Obj)) (H:Hp) (b:Addr):Prop :=
 H b=none/\b≠X.env.locals/\b∉X.fs/\(b∈X.ex\/X.s₀.heap.objs.size<=b)/\(∀ x c,X.env.cells.lookup x=some c->c≠b)/\∀ p∈X.pn++pins,p.1≠b
theorem Inv.fpOk (I:Inv X pins σ H s) (hb:s.heap.objs.size<=b) (hn:H' b=none):FpOk X pins H' b:=by
 refine⟨hn,hCn (hAl I.lt hb),I.nofs hb,.inr (hAr I.sz hb),fun x c e z=>?_,fun p hp z=>?_⟩
 ·obtain⟨v,q⟩:=I.cell x c e;exact absurd (hAl q.lt (by rw[z];exact hb)) (hCm _)
 ·exact absurd (hAl (Heap.lt_size (I.pin p hp).1) (by rw[z];exact hb)) (hCm _)
structure Turn (P:Program) (w:World) (K:PySem.W.Frag) (tg:Expr) (J:It) (fp:List Addr) (it:Addr) (tn:Nat->Heap->Prop):Prop where
 mem:it∈fp
 obj:∀ i h,tn i h->∀ b∈fp,∃ o,h.get? b=some o/\∀ v,o.data≠.cell v
 keep:∀ i h h',tn i h->(∀ b∈fp,∀ o,h.get? b=some o->h'.get? b=some o)->tn i h'
 item:∀ (X:Cx),X.prog=P->X.w=w->X.K=K->X.calm=true->∀ (i:Nat) (pins:List (Addr×Obj)) (s:Shared) (σ:St) (H:Hp) (E:Value->Shared->Prop),Inv X pins σ H s->(∀ b∈fp,FpOk X pins H b)->tn i s.heap->J.go i H ->
  wpAny (model P w) X.A (pyNext (.ref it)) (fun r s1=>∃ u,r=some u /\
   wpAny (model P w) X.A (letOwnedTupleGo tg (.ref it) u) (fun _ s2=>∃ x H',Inv X pins σ H' s2/\qBp x u/\J.yld i H x H'/\tn (i+1) s2.heap/\∀ b∈fp,H' b=none) E s1) E s
 done:∀ (X:Cx),X.prog=P->X.w=w->X.K=K->X.calm=true->∀ (i:Nat) (pins:List (Addr×Obj)) (s:Shared) (σ:St) (H:Hp) (E:Value->Shared->Prop),Inv X pins σ H s->(∀ b∈fp,FpOk X pins H b)->tn i s.heap->J.stop i H ->
  wpAny (model P w) X.A (pyNext (.ref it)) (fun r s1=>r=none/\Inv X pins σ H s1) E s
 self:∀ (A:Around) (i:Nat) (s:Shared) (Q:Value->Shared->Prop) (E:Value->Shared->Prop),tn i s.heap->Q (.ref it) s->wpAny (model P w) A (pyIter (.ref it)) Q E s
abbrev TI:=St->Hp->(It->Hp->Prop)->Prop
def PIE (X:Cx) (pins:List (Addr×Obj)) (σ:St) (tg:Expr) (R:It->Hp->Prop) (itv:Value) (s2:Shared):Prop :=
 ∃ (it:Addr) (fp:List Addr) (tn:Nat->Heap->Prop) (J:It) (H':Hp),itv = .ref it/\Inv X pins σ H' s2/\Turn X.prog X.w X.K tg J fp it tn/\tn 0 s2.heap/\(∀ b∈fp,FpOk X pins H' b)/\R J H'
def PI (X:Cx) (tg iter:Expr) (wi:TI):Prop :=
 ∀ (pins:List (Addr×Obj)) (s:Shared) (σ:St) (H:Hp) (R:It->Hp->Prop),Inv X pins σ H s->wi σ H R ->
  wpAny (model X.prog X.w) X.A (eval iter X.env) (fun v s1=>wpAny (model X.prog X.w) X.A (pyIter v) (PIE X pins σ tg R) X.xe s1) X.xe s
theorem go_of (ho:s.heap.get? it=some o) (hc:o.cls = .type n) (hd:o.data = .fields vs)
  (hn:["enumerate","zip","dict_itemiterator","dict_reverseitemiterator","odict_iterator","itertools.zip_longest","itertools.pairwise"].contains n=false) (hQ:Q () s):wpAny M A (letOwnedTupleGo tg (.ref it) u) Q E s:=by
 unfold letOwnedTupleGo;cases tg <;> first
  | exact wpAny_pure hQ
  | (cases u <;> first
    | exact wpAny_pure hQ
    | (refine wpAny_bind (wpAny_load ho ?_);rw[hc,hd];show wpAny M A (if (["enumerate","zip","dict_itemiterator","dict_reverseitemiterator","odict_iterator","itertools.zip_longest","itertools.pairwise"].contains n && vs[0]? == some (rawInt _))=true then _ else _) Q E s;rw[if_neg (by intro h;rw[hn,Bool.false_and]at h;cases h)];exact wpAny_pure hQ))
noncomputable def Itl (K:PySem.W.Frag) (a:Addr):It :=
 ⟨fun i H=>∃ xs x,SqL K H a xs/\xs[i]?=some x,fun i H x H'=>H'=H/\∀ xs,SqL K H a xs->xs[i]?=some x,fun i H=>∃ xs,SqL K H a xs/\xs.length<=i⟩
noncomputable def Itr (lo:Int) (n:Nat):It:=⟨fun i _=>i<n,fun i H x H'=>H'=H/\x = .int (lo+i),fun i _=>n<=i⟩
theorem turn_list {P:Program} {w:World} {K:PySem.W.Frag} {tg:Expr} (a it:Addr):Turn P w K tg (Itl K a) [it] it (fun i h=>h.IsListIter it a i) where
 mem:=by simp
 obj:=fun i h st b hb=>by
  have e:b=it:=by simpa using hb
  subst e;obtain⟨o,e,c,d⟩:=st;exact⟨o,e,fun v z=>by rw[d]at z;cases z⟩
 keep:=fun i h h' st k=>st.at fun o e=>k it (by simp) o e
 item:=by
  intro X hP hw hK hc i pins s σ H E I hf st hg;subst hP hw hK;obtain⟨xs,x,hq,hx⟩:=hg;obtain⟨its,rv,p,hz⟩:=I.list hq;obtain⟨u,hu,ru⟩:=rv.get hx;obtain⟨f0,f1,f2,f3,f4,f5⟩:=hf it (by simp);refine wpAny_pyNext_list_item st p.isList (x:=u) (by simpa using hu) fun h' st' sb=>?_
  have I1:Inv X pins σ H { s with heap:=h' }:=I.turned (t':=s.toks) (fun b o hb e=>(sb.2 b hb).trans e) f0 f1 f3 f4 f5;obtain⟨o,e,c,d⟩:=id st';exact⟨u,rfl,go_of (s:={ s with heap:=h' }) e c d (by decide) ⟨x,H,I1,ru,⟨rfl,fun ys hy=>by rw[I.list_inj hy hq];exact hx⟩,st',fun b hb=>(hf b hb).1⟩⟩
 done:=by
  intro X hP hw hK hc i pins s σ H E I hf st hg;subst hP hw hK;obtain⟨xs,hq,hx⟩:=hg;obtain⟨its,rv,p,hz⟩:=I.list hq;obtain⟨f0,f1,f2,f3,f4,f5⟩:=hf it (by simp);have hl:=rv.length;exact wpAny_pyNext_list_end (I.ok.hd hc) st p.isList (by simp;omega) fun h' eb=>⟨rfl,I.turned (t':=s.toks) (fun b o hb e=>eb b o hb e) f0 f1 f3 f4 f5⟩
 self:=fun _ _ _ _ _ st h=>wpAny_pyIter_listiter st h
theorem turn_range {P:Program} {w:World} {K:PySem.W.Frag} {tg:Expr} (it:Addr) (lo:Int) (n:Nat):Turn P w K tg (Itr lo n) [it] it (fun i h=>IsRangeIter h it (lo+(i:Nat)*1) ((n:Int) - (i:Nat)) 1) where
 mem:=by simp
 obj:=fun i h st b hb=>by
  have e:b=it:=by simpa using hb
  subst e;exact⟨_,st,fun v z=>by
   have z':Data.fields _=Data.cell v:=z;cases z'⟩
 keep:=fun i h h' st k=>k it (by simp) _ st
 item:=by
  intro X hP hw hK hc i pins s σ H E I hf st hg;subst hP hw hK;obtain⟨f0,f1,f2,f3,f4,f5⟩:=hf it (by simp);have W:=Walks.range (prog:=X.prog) (w:=X.w) (I.ok.hd hc) it lo 1 n;refine W.item i s _ _ hg st fun v h' tk hv st' kk=>?_
  obtain⟨t,rfl⟩:=hv;have I1:Inv X pins σ H { s with heap:=h',toks:=tk }:=I.turned (fun b o hb e=>kk b o (by simpa using hb) e) f0 f1 f3 f4 f5;refine⟨_,rfl,go_of (s:={ s with heap:=h',toks:=tk }) (n:="range_iterator") st' rfl rfl (by decide) ⟨.int (lo+i),H,I1,⟨t,?_⟩,⟨rfl,rfl⟩,st',fun b hb=>(hf b hb).1⟩⟩;rw[Int.mul_one]
 done:=by
  intro X hP hw hK hc i pins s σ H E I hf st hg;subst hP hw hK;obtain⟨f0,f1,f2,f3,f4,f5⟩:=hf it (by simp);exact wpAny_pyNext_range_end (I.ok.hd hc) st (by have:n<=i:=hg;omega) fun h' eb=>⟨rfl,I.turned (t':=s.toks) (fun b o hb e=>eb b o hb e) f0 f1 f3 f4 f5⟩
 self:=fun _ _ _ _ _ st h=>wpAny_pyIter_rangeiter st h
end L2
namespace L2
open PySem PySem.Spec PyProof.Rows
section
variable {X:Cx} {tg:Expr}
def iList (K:PySem.W.Frag) (tl:TE):TI:=fun σ H R=>tl σ H fun x H1=>∃ a,x = .ref a/\(∃ xs,SqL K H1 a xs)/\R (Itl K a) H1
theorem qAn {l:Expr} {tl:TE} (hl:PE X l tl):PI X tg l (iList X.K tl):=by
 intro pins s σ H R I h;refine thn (hl pins s σ H _ I h) fun v s1 ⟨x,H1,I1,r1,q1⟩=>?_
 obtain⟨a,e,⟨xs,hq⟩,q⟩:=q1;subst e;cases r1;obtain⟨its,rv,p,hz⟩:=I1.list hq;refine wpAny_pyIter_list p.isList ?_;refine⟨s1.heap.objs.size,[s1.heap.objs.size],_,_,H1,rfl,I1.kept (t':=s1.toks) fun b o e=>Heap.get?_push_of_some _ e,turn_list a _,⟨_,Heap.get?_push_size _ rfl,rfl,rfl⟩,fun b hb=>?_,q⟩;have e:b=s1.heap.objs.size:=by simpa using hb
 subst e;exact I1.fpOk (hA5 _) (I1.hok.fresh (hA5 _))
theorem range_it {pins:List (Addr×Obj)} {σ:St} {H:Hp} {s:Shared} {R:It->Hp->Prop} {E:Value->Shared->Prop} {lo hi:Int} {t u v:Tok} {tk:Nat} (I:Inv X pins σ H s) (h1:-(2^62)<=lo) (h2:lo<2^62) (h3:-(2^62)<=hi) (h4:hi<2^62)
  (q:R (Itr lo (hi - lo).toNat) H):wpAny (model X.prog X.w) X.A (pyIter (.ref s.heap.objs.size)) (PIE X pins σ tg R) E { s with heap:=s.heap.push { cls:=.type "range",data:=.fields #[.int lo t,.int hi u,.int 1 v] },toks:=tk }:=by
 refine wpAny_pyIter_range (IsRange.new ..) (small_one h1 h2 h3 h4) ?_;have I1:Inv X pins σ H { s with heap:=s.heap.push { cls:=.type "range",data:=.fields #[.int lo t,.int hi u,.int 1 v] },toks:=tk }:=I.kept fun b o e=>Heap.get?_push_of_some _ e
 refine⟨(s.heap.push { cls:=.type "range",data:=.fields #[.int lo t,.int hi u,.int 1 v] }).objs.size,[(s.heap.push { cls:=.type "range",data:=.fields #[.int lo t,.int hi u,.int 1 v] }).objs.size],_,_,H,rfl,
  I1.kept (t':=tk) fun b o e=>Heap.get?_push_of_some _ e,turn_range _ lo (hi - lo).toNat,?_,fun b hb=>?_,q⟩
 ·have e1:lo+((0:Nat):Int)*1=lo:=by simp
  have e2:(((hi - lo).toNat:Nat):Int) - ((0:Nat):Int)=Builtin.Range.rangeSize lo hi 1:=by rw[rangeSize_one];split <;> omega
  show IsRangeIter _ _ (lo+((0:Nat):Int)*1) ((((hi - lo).toNat:Nat):Int) - ((0:Nat):Int)) 1;rw[e1,e2];exact Heap.get?_push_size _ rfl
 ·have e:b=(s.heap.push { cls:=.type "range",data:=.fields #[.int lo t,.int hi u,.int 1 v] }).objs.size:=by simpa using hb
  subst e;exact I1.fpOk (hA5 _) (I1.hok.fresh (hA5 _))
def iRng1 (ta:TA):TI:=fun σ H R=>ta σ H fun vs H1=>∃ j:Int,vs=[.int j]/\-(2^62)<=j/\j<2^62/\R (Itr 0 j.toNat) H1
def iRng2 (ta:TA):TI:=fun σ H R=>ta σ H fun vs H1=>∃ i j:Int,vs=[.int i,.int j]/\(-(2^62)<=i/\i<2^62/\-(2^62)<=j/\j<2^62)/\R (Itr i (j - i).toNat) H1
theorem qAw {a:Expr} {ta:TA} {p pos:Pos} (hg:Gl X "range") (hm:X.mg "range" = none) (ha:PA X [a] ta) (hs:starEach [a] X.env=[(false,eval a X.env)]:=by rfl):PI X tg (.Call (.Name "range" p) [a] [] pos) (iRng1 ta):=by
 intro pins s σ H R I h;refine Call_ (qEm I hg hm boot_range (hCr (thn (ha pos pins s σ H _ I h) fun us s1 ⟨vs,H1,I1,r1,q1⟩=>?_) hs rfl));obtain⟨j,e,q1,q2,q⟩:=q1;subst e;cases r1 with
 | cons r rr =>
  cases rr;obtain⟨t,rfl⟩:=r;exact call_range_1 (range_it I1 (by omega) (by omega) q1 q2 (by simpa using q))
theorem pi_range2 (hg:Gl X "range") (hm:X.mg "range" = none) (ha:PA X [a,b] ta) (hs:starEach [a,b] X.env=[(false,eval a X.env),(false,eval b X.env)]:=by rfl) (hs2:starEach [b] X.env=[(false,eval b X.env)]:=by rfl) :
  PI X tg (.Call (.Name "range" p) [a,b] [] pos) (iRng2 ta):=by
 intro pins s σ H R I h;refine Call_ (qEm I hg hm boot_range (hCr (thn (ha pos pins s σ H _ I h) fun us s1 ⟨vs,H1,I1,r1,q1⟩=>?_) (by rw[hs,hs2]) (by rw[hs2];rfl)));obtain⟨i,j,e,⟨q1,q2,q3,q4⟩,q⟩:=q1;subst e;cases r1 with
 | cons r rr =>
  cases rr with
  | cons r' rr =>
   cases rr;obtain⟨t,rfl⟩:=r;obtain⟨t',rfl⟩:=r';exact call_range_2 (range_it I1 q1 q2 q3 q4 q)
def tFor (wi:TI) (g:TG) (tb:TS):TS:=fun D σ H=>wi σ H fun J H1=>∃ W:Nat->Nat->St->Hp->Prop,(∃ m,W 0 m σ H1)/\∀ i m σ H,W i m σ H ->
 (J.stop i H/\D.nx σ H)\/(J.go i H/\∃ N:St->Hp->Prop,(∀ σ' H',N σ' H'->∃ m',m'<m/\W (i+1) m' σ' H')/\∀ x H',J.yld i H x H'->g x σ H' fun σ2 H2=>tb { D with nx:=N,ct:=N,bk:=D.nx } σ2 H2)
noncomputable def qG7 (fp:List Addr) (h:Heap):List (Addr×Obj):=fp.filterMap fun b=>(h.get? b).map fun o=>(b,o)
theorem qCa (hb:b∈fp) (e:h.get? b=some o):(b,o)∈qG7 fp h:=hCw.mpr ⟨b,hb,by rw[e];rfl⟩
theorem of_pinsAt (hp:p∈qG7 fp h):p.1∈fp/\h.get? p.1=some p.2:=by
 obtain⟨b,hb,e⟩:=hCw.mp hp;cases q:h.get? b with
 | none=>rw[q]at e;cases e
 | some o =>
  rw[q]at e;have e':(b,o)=p:=hAu e;subst e';exact⟨hb,q⟩
theorem Inv.pinned (I:Inv X pins σ H s) (hf:∀ b∈fp,FpOk X pins H b) (ho:∀ b∈fp,∃ o,s.heap.get? b=some o/\∀ v,o.data≠.cell v):Inv X (pins++qG7 fp s.heap) σ H s :=
 I.pins_of fun p hp=>(hAb.mp hp).elim (fun z=>I.pin p (hA8 _ z)) fun z=>by
  obtain⟨hb,e⟩:=of_pinsAt z;obtain⟨f0,f1,f2,_⟩:=hf p.1 hb;obtain⟨o,e',d⟩:=ho p.1 hb;rw[e]at e';cases e';exact⟨e,f0,f1,f2,d⟩
theorem Inv.unpinned (I:Inv X (pins++pl) σ H s):Inv X pins σ H s:=I.pins_of fun p hp=>I.pin p (hA8 _ (hAg _ hp))
theorem qAz (hp:PassesOwn (model X.prog X.w) X.A X.env X.xe) (hc:X.calm=true) (hi:PI X tg iter wi) (hg:PG X tg g) (hb:PSs X body tb)
  (hs:∀ x,foldedSetIterable iter X.env x=pure x:=by intro _;rfl):PS X (.For tg iter body [] pos) (tFor wi g tb):=by
 intro pins s σ H D I h;refine wpAny_For (thn (hi pins s σ H _ I h) fun v s1 h1=>thn h1 fun itv s2 h2=>?_) hs;obtain⟨it,fp,tn,J,H2,e,I2,T,st2,f2,W,⟨m0,w0⟩,turn⟩:=h2;subst e;have stat:∀ {H':Hp},(∀ b∈fp,H' b=none)->∀ b∈fp,FpOk X pins H' b:=fun hn b hb=>⟨hn b hb,(f2 b hb).2⟩
 refine codeAny_forLoop_any (fun n s'=>∃ i σ' H',Inv X pins σ' H' s'/\tn i s'.heap/\(∀ b∈fp,H' b=none)/\W i n σ' H') ?_ m0 ⟨0,σ,H2,I2,st2,fun b hb=>(f2 b hb).1,w0⟩;rintro n s3 ⟨i,σ3,H3,I3,st3,fr3,w3⟩;rcases turn i n σ3 H3 w3 with ⟨stop,qn⟩ | ⟨go,N,hN,step⟩
 ·refine wpAny_passesOwn hp (thn (T.done X rfl rfl rfl hc i pins s3 σ3 H3 X.xe I3 (stat fr3) st3 stop) fun r s4 ⟨hr,I4⟩=>?_);subst hr;exact wpAny_execs_nil ⟨σ3,H3,I4,qn⟩
 ·refine wpAny_passesOwn hp (thn (T.item X rfl rfl rfl hc i pins s3 σ3 H3 X.xe I3 (stat fr3) st3 go) fun r s4 ⟨u,hr,h4⟩=>?_);subst hr;refine wpAny_passesOwn hp (thn h4 fun _ s5 ⟨x,H5,I5,r5,y5,st5,fr5⟩=>?_);have I5':=I5.pinned (stat fr5) (T.obj _ _ st5);refine wpAny_passesOwn hp (thn (hg _ s5 σ3 H5 x u _ I5' r5 (step x H5 y5)) fun _ s6 ⟨σ6,H6,I6,q6⟩=>?_);refine wpAny_passesOwn hp (thn (hb _ s6 σ6 H6 _ I6 q6) fun f s7 q7=>?_);have again:∀ {σ7:St} {H7:Hp},Inv X (pins++qG7 fp s5.heap) σ7 H7 s7->N σ7 H7->∃ m,m<n/\∃ i σ' H',Inv X pins σ' H' s7/\tn i s7.heap/\(∀ b∈fp,H' b=none)/\W i m σ' H':=fun {σ7 H7} I7 n7=>by
   obtain⟨m',hm,w7⟩:=hN σ7 H7 n7;refine⟨m',hm,i+1,σ7,H7,I7.unpinned,T.keep _ _ _ st5 fun b hb o e=>(I7.pin (b,o) (hA8 _ (hA8 _ (qCa hb e)))).1,fun b hb=>?_,w7⟩;obtain⟨o,e,d⟩:=T.obj _ _ st5 b hb;exact(I7.pin (b,o) (hA8 _ (hA8 _ (qCa hb e)))).2.1
  cases f with
  | next=>obtain⟨σ7,H7,I7,n7⟩:=q7;exact again I7 n7
  | cont=>obtain⟨σ7,H7,I7,n7⟩:=q7;exact again I7 n7
  | brk=>obtain⟨σ7,H7,I7,q7⟩:=q7;exact⟨σ7,H7,I7.unpinned,q7⟩
  | ret v=>obtain⟨x7,σ7,H7,I7,r7,q7⟩:=q7;exact⟨x7,σ7,H7,I7.unpinned,r7,q7⟩
end
theorem qA2 {K:PySem.W.Frag} {a:Addr} {xs:List V} {g:TG} {tb:TS} {D:Ends} {σ:St} {H:Hp} (Pv:Nat->St->Hp->Prop) (h0:Pv 0 σ H) (hl:∀ i σ H,i<=xs.length->Pv i σ H->SqL K H a xs)
  (hs:∀ i x σ H,xs[i]?=some x->Pv i σ H->g x σ H fun σ2 H2=>tb { D with nx:=Pv (i+1),ct:=Pv (i+1),bk:=D.nx } σ2 H2) (hd:∀ σ H,Pv xs.length σ H->D.nx σ H) :
  ∃ W:Nat->Nat->St->Hp->Prop,(∃ m,W 0 m σ H)/\∀ i m σ H,W i m σ H ->
   ((Itl K a).stop i H/\D.nx σ H)\/((Itl K a).go i H/\∃ N:St->Hp->Prop,(∀ σ' H',N σ' H'->∃ m',m'<m/\W (i+1) m' σ' H')/\∀ x H',(Itl K a).yld i H x H'->g x σ H' fun σ2 H2=>tb { D with nx:=N,ct:=N,bk:=D.nx } σ2 H2):=by
 refine⟨fun i m σ H=>m=xs.length - i/\i<=xs.length/\Pv i σ H,⟨xs.length,by simp,hAp _,h0⟩,?_⟩;rintro i m σ H ⟨rfl,hi,p⟩;have q:=hl i σ H hi p;by_cases hlt:i<xs.length
 ·refine .inr ⟨⟨xs,xs[i],q,by simp[hlt]⟩,Pv (i+1),fun σ' H' p'=>⟨xs.length - (i+1),by omega,rfl,hlt,p'⟩,fun x H' y=>?_⟩;obtain⟨e,y⟩:=y;subst e;exact hs i x σ _ (y xs q) p
 ·have e:i=xs.length:=by omega
  subst e;exact .inl ⟨⟨xs,q,hA5 _⟩,hd σ H p⟩
theorem qA7 {lo:Int} {n:Nat} {g:TG} {tb:TS} {D:Ends} {σ:St} {H:Hp} (Pv:Nat->St->Hp->Prop) (h0:Pv 0 σ H)
  (hs:∀ i σ H,i<n->Pv i σ H->g (.int (lo+i)) σ H fun σ2 H2=>tb { D with nx:=Pv (i+1),ct:=Pv (i+1),bk:=D.nx } σ2 H2) (hd:∀ σ H,Pv n σ H->D.nx σ H) :
  ∃ W:Nat->Nat->St->Hp->Prop,(∃ m,W 0 m σ H)/\∀ i m σ H,W i m σ H ->
   ((Itr lo n).stop i H/\D.nx σ H)\/((Itr lo n).go i H/\∃ N:St->Hp->Prop,(∀ σ' H',N σ' H'->∃ m',m'<m/\W (i+1) m' σ' H')/\∀ x H',(Itr lo n).yld i H x H'->g x σ H' fun σ2 H2=>tb { D with nx:=N,ct:=N,bk:=D.nx } σ2 H2):=by
 refine⟨fun i m σ H=>m=n - i/\i<=n/\Pv i σ H,⟨n,by simp,hAp _,h0⟩,?_⟩;rintro i m σ H ⟨rfl,hi,p⟩;by_cases hlt:i<n
 ·refine .inr ⟨hlt,Pv (i+1),fun σ' H' p'=>⟨n - (i+1),by omega,rfl,hlt,p'⟩,fun x H' y=>?_⟩;obtain⟨e,y⟩:=y;subst e y;exact hs i σ _ hlt p
 ·have e:i=n:=by omega
  subst e;exact .inl ⟨hA5 _,hd σ H p⟩
end L2
namespace L2
open PySem PySem.Spec PyProof.Rows
abbrev R2:=V->V->Hp->VK->Prop
def OpR (X:Cx) (f:Value->Value->Sem Value) (r:R2):Prop :=
 ∀ (pins:List (Addr×Obj)) (s:Shared) (σ:St) (H:Hp) (x y:V) (v u:Value) (Q:VK),Inv X pins σ H s->qBp x v->qBp y u->r x y H Q ->
  wpAny (model X.prog X.w) X.A (f v u) (EP X pins σ Q) X.xe s
def UnR (X:Cx) (f:Value->Sem Value) (r:V->Hp->VK->Prop):Prop :=
 ∀ (pins:List (Addr×Obj)) (s:Shared) (σ:St) (H:Hp) (x:V) (v:Value) (Q:VK),Inv X pins σ H s->qBp x v->r x H Q ->
  wpAny (model X.prog X.w) X.A (f v) (EP X pins σ Q) X.xe s
def qB9 (X:Cx) (f:Value) (r:List V->Hp->VK->Prop):Prop :=
 ∀ (pins:List (Addr×Obj)) (s:Shared) (σ:St) (H:Hp) (xs:List V) (us:List Value) (Q:VK),Inv X pins σ H s->qA9 xs us->r xs H Q ->
  wpAny (model X.prog X.w) X.A (call f us) (EP X pins σ Q) X.xe s
def tOp (r:R2) (ta tb:TE):TE:=fun σ H Q=>ta σ H fun x H1=>tb σ H1 fun y H2=>r x y H2 Q
def tUn (r:V->Hp->VK->Prop) (ta:TE):TE:=fun σ H Q=>ta σ H fun x H1=>r x H1 Q
def rI (C:Int->Int->Prop) (g:Int->Int->V):R2:=fun x y H Q=>∃ i j,x = .int i/\y = .int j/\C i j/\Q (g i j) H
def rI0 (g:Int->Int->V):R2:=fun x y H Q=>∃ i j,x = .int i/\y = .int j/\Q (g i j) H
def rU (g:Int->V):V->Hp->VK->Prop:=fun x H Q=>∃ i,x = .int i/\Q (g i) H
section
variable {X:Cx} {a b c:Expr} {ta tb tc:TE} {pos:Pos}
theorem binT (ha:PE X a ta) (hb:PE X b tb) {pins:List (Addr×Obj)} {s:Shared} {σ:St} {H:Hp} {R:V->V->Hp->Prop} (I:Inv X pins σ H s)
  (h:ta σ H fun x H1=>tb σ H1 fun y H2=>R x y H2) {Q:Value->Shared->Prop} {f:Value->Value->Sem Value}
  (hf:∀ v u s2 x y H2,Inv X pins σ H2 s2->qBp x v->qBp y u->R x y H2->wpAny (model X.prog X.w) X.A (f v u) Q X.xe s2) :
  wpAny (model X.prog X.w) X.A (eval a X.env) (fun v s₁=>wpAny (model X.prog X.w) X.A (eval b X.env) (fun u s₂=>wpAny (model X.prog X.w) X.A (f v u) Q X.xe s₂) X.xe s₁) X.xe s:=by
 refine thn (ha pins s σ H _ I h) fun v s1 ⟨x,H1,I1,r1,q1⟩=>?_
 refine thn (hb pins s1 σ H1 _ I1 q1) fun u s2 ⟨y,H2,I2,r2,q2⟩=>?_
 exact hf v u s2 x y H2 I2 r1 r2 q2
theorem qAh {op:Operator} {r:R2} (ho:OpR X (binaryOp op) r) (ha:PE X a ta) (hb:PE X b tb):PE X (.BinOp a op b pos) (tOp r ta tb):=by
 intro pins s σ H Q I h;exact wpAny_BinOp (binT ha hb I h fun v u s2 x y H2 I2 rx ry q=>ho pins s2 σ H2 x y v u Q I2 rx ry q)
theorem pe_un (ho:UnR X (unaryOp op) r) (ha:PE X a ta):PE X (.UnaryOp op a pos) (tUn r ta):=by
 intro pins s σ H Q I h;exact UnaryOp_ (thn (ha pins s σ H _ I h) fun v s1 ⟨x,H1,I1,r1,q1⟩=>ho pins s1 σ H1 x v Q I1 r1 q1)
theorem opI {f:Value->Value->Sem Value} {C:Int->Int->Prop} {g:Int->Int->Int}
  (rule:∀ (i j:Int) (t u:Tok) (s:Shared) (Q:Value->Shared->Prop) (E:Value->Shared->Prop),C i j->Q (.int (g i j) s.toks) { s with toks:=s.toks+1 }->wpAny (model X.prog X.w) X.A (f (.int i t) (.int j u)) Q E s) :
  OpR X f (rI C fun i j=>.int (g i j)):=by
 intro pins s σ H x y v u Q I rx ry h;obtain⟨i,j,rfl,rfl,hc,q⟩:=h;obtain⟨t,rfl⟩:=rx;obtain⟨t',rfl⟩:=ry;exact rule i j t t' s _ _ hc ⟨.int (g i j),H,I.tok _,⟨_,rfl⟩,q⟩
theorem opI0 {f:Value->Value->Sem Value} {g:Int->Int->Int}
  (rule:∀ (i j:Int) (t u:Tok) (s:Shared) (Q:Value->Shared->Prop) (E:Value->Shared->Prop),Q (.int (g i j) s.toks) { s with toks:=s.toks+1 }->wpAny (model X.prog X.w) X.A (f (.int i t) (.int j u)) Q E s) :
  OpR X f (rI0 fun i j=>.int (g i j)):=by
 intro pins s σ H x y v u Q I rx ry h;obtain⟨i,j,rfl,rfl,q⟩:=h;obtain⟨t,rfl⟩:=rx;obtain⟨t',rfl⟩:=ry;exact rule i j t t' s _ _ ⟨.int (g i j),H,I.tok _,⟨_,rfl⟩,q⟩
theorem opB0 {f:Value->Value->Sem Value} {g:Int->Int->Bool}
  (rule:∀ (i j:Int) (t u:Tok) (s:Shared) (Q:Value->Shared->Prop) (E:Value->Shared->Prop),Q (.bool (g i j)) s->wpAny (model X.prog X.w) X.A (f (.int i t) (.int j u)) Q E s) :
  OpR X f (rI0 fun i j=>.bl (g i j)):=by
 intro pins s σ H x y v u Q I rx ry h;obtain⟨i,j,rfl,rfl,q⟩:=h;obtain⟨t,rfl⟩:=rx;obtain⟨t',rfl⟩:=ry;exact rule i j t t' s _ _ ⟨.bl (g i j),H,I,rfl,q⟩
def CDiv (i j:Int):Prop:=0<j/\j<1073741824
def CPow (i j:Int):Prop:=0<=j/\j<=1000000/\i.natAbs<2^64
def CMul (i j:Int):Prop:=(-(2^64)<i/\i<2^64)\/(-(2^64)<j/\j<2^64)
theorem CMul.ok (h:CMul i j):IntMulOk i j:=by
 rcases h with ⟨h1,h2⟩ | ⟨h1,h2⟩
 ·exact .of_left (intBits_le_64 h1 h2)
 ·exact .of_right (intBits_le_64 h1 h2)
theorem two_pow_nn (k:Nat):(0:Int)<=2^k:=by
 rw[two_pow_cast];exact hDp _
theorem qBa:OpR X (binaryOp .Add) (rI0 fun i j=>.int (i+j)):=opI0 fun _ _ _ _ _ _ _ q=>add_int q
theorem qCp:OpR X (binaryOp .Sub) (rI0 fun i j=>.int (i - j)):=opI0 fun _ _ _ _ _ _ _ q=>sub_int q
theorem qC3:OpR X (binaryOp .Mult) (rI CMul fun i j=>.int (i*j)):=opI fun _ _ _ _ _ _ _ hc q=>mul_int q hc.ok
theorem op_fdiv:OpR X (binaryOp .FloorDiv) (rI CDiv fun i j=>.int (i / j)):=opI fun i j _ _ _ _ _ hc q=>by
 have h1:(0:Int)<j:=hc.1;have h2:j<1073741824:=hc.2;exact floordiv_int (by omega) (by rw[Int.fdiv_eq_ediv_of_nonneg i (by omega)];exact q) (.inl (PyProof.noPylong_small (by omega)))
theorem qDc:OpR X (binaryOp .Mod) (rI (fun _ j=>0<j) fun i j=>.int (i % j)):=opI fun i j _ _ _ _ _ hc q=>by
 have h1:(0:Int)<j:=hc;exact mod_int' (by omega) (by rw[Int.fmod_eq_emod_of_nonneg i (by omega)];exact q)
theorem op_pow:OpR X (binaryOp .Pow) (rI CPow fun i j=>.int (i^j.toNat)):=opI fun _ _ _ _ _ _ _ hc q=>pow_int_small hc.1 hc.2.1 hc.2.2 q
theorem qBx:OpR X (binaryOp .LShift) (rI CPow fun i j=>.int (i*2^j.toNat)):=opI fun _ _ _ _ _ _ _ hc q=>lshift_int_small hc.1 hc.2.1 hc.2.2 q
theorem qFa:OpR X (binaryOp .RShift) (rI (fun _ j=>0<=j) fun i j=>.int (i / 2^j.toNat)):=opI fun i j _ _ _ _ _ hc q =>
 rshift_int hc (by rw[Int.fdiv_eq_ediv_of_nonneg i (two_pow_nn _)];exact q)
theorem qBg:OpR X (binaryOp .BitAnd) (rI0 fun i j=>.int (Builtin.bitAnd i j)):=opI0 fun _ _ _ _ _ _ _ q=>and_int q
theorem op_or:OpR X (binaryOp .BitOr) (rI0 fun i j=>.int (Builtin.bitOr i j)):=opI0 fun _ _ _ _ _ _ _ q=>or_int q
theorem qC2:OpR X (binaryOp .BitXor) (rI0 fun i j=>.int (Builtin.bitXor i j)):=opI0 fun _ _ _ _ _ _ _ q=>xor_int q
theorem unI {f:Value->Sem Value} {g:Int->Int}
  (rule:∀ (i:Int) (t:Tok) (s:Shared) (Q:Value->Shared->Prop) (E:Value->Shared->Prop),Q (.int (g i) s.toks) { s with toks:=s.toks+1 }->wpAny (model X.prog X.w) X.A (f (.int i t)) Q E s) :
  UnR X f (rU fun i=>.int (g i)):=by
 intro pins s σ H x v Q I rx h;obtain⟨i,rfl,q⟩:=h;obtain⟨t,rfl⟩:=rx;exact rule i t s _ _ ⟨.int (g i),H,I.tok _,⟨_,rfl⟩,q⟩
theorem un_neg:UnR X (unaryOp .USub) (rU fun i=>.int (-i)):=unI fun _ _ _ _ _ q=>neg_int q
theorem un_inv:UnR X (unaryOp .Invert) (rU fun i=>.int (Builtin.bitNot i)):=unI fun _ _ _ _ _ q=>invert_int q
end
noncomputable def scal:V->V->Bool
 | .non,.non=>true | .non,.int _=>true | .int _,.non=>true | .non,.bl _=>true | .bl _,.non=>true | .non,.str _=>true | .str _,.non=>true
 | .int _,.int _=>true | .bl _,.bl _=>true | .str _,.str _=>true | .byt _,.byt _=>true
 | .int _,.str _=>true | .str _,.int _=>true | .bl _,.str _=>true | .str _,.bl _=>true
 | _,_=>false
def rEq:R2:=fun x y H Q=>scal x y=true/\Q (.bl (decide (x=y))) H
def rNe:R2:=fun x y H Q=>scal x y=true/\Q (.bl (!decide (x=y))) H
theorem dec_int:decide (V.int i=V.int j)=(i == j):=by
 rw[hD9];simp
theorem dec_bl:decide (V.bl i=V.bl j)=(i == j):=by
 rw[hD9];simp
theorem dec_str:decide (V.str i=V.str j)=(i == j):=by
 rw[hD9];simp
theorem dec_byt:decide (V.byt i=V.byt j)=(i.toList == j.toList):=by
 rw[hD9];cases i;cases j;simp
section
variable {X:Cx} {a b c:Expr} {ta tb tc:TE} {pos:Pos}
theorem fin_bl (I:Inv X pins σ H s) (q:Q (.bl k) H) (e:k=k'):EP X pins σ Q (.bool k') s:=by
 subst e;exact⟨.bl k,H,I,rfl,q⟩
theorem qBl:OpR X (compareOp .Eq) rEq:=by
 intro pins s σ H x y v u Q I rx ry h;obtain⟨hs,q⟩:=h;cases x with
 | non =>
  cases rx;cases y with
  | non=>cases ry;exact PySem.EqNone.eq_none_none (fin_bl I q (by simp))
  | bl j=>cases ry;exact PySem.EqNone.eq_none_bool (fin_bl I q (by simp))
  | int j=>obtain⟨t',rfl⟩:=ry;exact PySem.EqNone.eq_none_int (fin_bl I q (by simp))
  | str j=>obtain⟨t',rfl⟩:=ry;exact PySem.EqNone.eq_none_str (fin_bl I q (by simp))
  | _=>exact absurd (show false=true from hs) hB1
 | bl i =>
  cases rx;cases y with
  | non=>cases ry;exact PySem.EqNone.eq_bool_none (fin_bl I q (by simp))
  | bl j=>cases ry;exact eq_bool (fin_bl I q dec_bl)
  | str j=>obtain⟨t',rfl⟩:=ry;exact PySem.EqMixed.eq_bool_str (fin_bl I q (by simp))
  | _=>exact absurd (show false=true from hs) hB1
 | int i =>
  obtain⟨t,rfl⟩:=rx;cases y with
  | non=>cases ry;exact PySem.EqNone.eq_int_none (fin_bl I q (by simp))
  | int j=>obtain⟨t',rfl⟩:=ry;exact eq_int (fin_bl I q dec_int)
  | str j=>obtain⟨t',rfl⟩:=ry;exact PySem.EqMixed.eq_int_str (fin_bl I q (by simp))
  | _=>exact absurd (show false=true from hs) hB1
 | str i =>
  obtain⟨t,rfl⟩:=rx;cases y with
  | non=>cases ry;exact PySem.EqNone.eq_str_none (fin_bl I q (by simp))
  | bl j=>cases ry;exact PySem.EqMixed.eq_str_bool (fin_bl I q (by simp))
  | int j=>obtain⟨t',rfl⟩:=ry;exact PySem.EqMixed.eq_str_int (fin_bl I q (by simp))
  | str j=>obtain⟨t',rfl⟩:=ry;exact eq_str (fin_bl I q dec_str)
  | _=>exact absurd (show false=true from hs) hB1
 | byt i =>
  obtain⟨t,rfl⟩:=rx;cases y with
  | byt j=>obtain⟨t',rfl⟩:=ry;exact PySem.W.eq_bytes (fin_bl I q dec_byt)
  | _=>exact absurd (show false=true from hs) hB1
 | _=>cases y <;> exact absurd (show false=true from hs) hB1
theorem qDz:OpR X (compareOp .NotEq) rNe:=by
 intro pins s σ H x y v u Q I rx ry h;obtain⟨hs,q⟩:=h;cases x with
 | non =>
  cases rx;cases y with
  | non=>cases ry;exact PySem.EqNone.ne_none_none (fin_bl I q (by simp))
  | bl j=>cases ry;exact PySem.EqNone.ne_none_bool (fin_bl I q (by simp))
  | int j=>obtain⟨t',rfl⟩:=ry;exact PySem.EqNone.ne_none_int (fin_bl I q (by simp))
  | str j=>obtain⟨t',rfl⟩:=ry;exact PySem.EqNone.ne_none_str (fin_bl I q (by simp))
  | _=>exact absurd (show false=true from hs) hB1
 | bl i =>
  cases rx;cases y with
  | non=>cases ry;exact PySem.EqNone.ne_bool_none (fin_bl I q (by simp))
  | bl j=>cases ry;exact ne_bool (fin_bl I q (congrArg not dec_bl))
  | str j=>obtain⟨t',rfl⟩:=ry;exact PySem.EqMixed.ne_bool_str (fin_bl I q (by simp))
  | _=>exact absurd (show false=true from hs) hB1
 | int i =>
  obtain⟨t,rfl⟩:=rx;cases y with
  | non=>cases ry;exact PySem.EqNone.ne_int_none (fin_bl I q (by simp))
  | int j=>obtain⟨t',rfl⟩:=ry;exact ne_int (fin_bl I q (congrArg not dec_int))
  | str j=>obtain⟨t',rfl⟩:=ry;exact PySem.EqMixed.ne_int_str (fin_bl I q (by simp))
  | _=>exact absurd (show false=true from hs) hB1
 | str i =>
  obtain⟨t,rfl⟩:=rx;cases y with
  | non=>cases ry;exact PySem.EqNone.ne_str_none (fin_bl I q (by simp))
  | bl j=>cases ry;exact PySem.EqMixed.ne_str_bool (fin_bl I q (by simp))
  | int j=>obtain⟨t',rfl⟩:=ry;exact PySem.EqMixed.ne_str_int (fin_bl I q (by simp))
  | str j=>obtain⟨t',rfl⟩:=ry;exact ne_str (fin_bl I q (congrArg not dec_str))
  | _=>exact absurd (show false=true from hs) hB1
 | byt i =>
  obtain⟨t,rfl⟩:=rx;cases y with
  | byt j=>obtain⟨t',rfl⟩:=ry;exact PySem.W.ne_bytes (fin_bl I q (congrArg not dec_byt))
  | _=>exact absurd (show false=true from hs) hB1
 | _=>cases y <;> exact absurd (show false=true from hs) hB1
theorem op_lt:OpR X (compareOp .Lt) (rI0 fun i j=>.bl (decide (i<j))):=opB0 fun _ _ _ _ _ _ _ q=>lt_int q
theorem op_gt:OpR X (compareOp .Gt) (rI0 fun i j=>.bl (decide (j<i))):=opB0 fun _ _ _ _ _ _ _ q=>gt_int q
theorem op_ge:OpR X (compareOp .GtE) (rI0 fun i j=>.bl (decide (j<=i))):=opB0 fun _ _ _ _ _ _ _ q=>ge_int q
theorem qAq (b:Expr) (h:op≠.In:=by decide) (h2:op≠.NotIn:=by decide):behindInMarks op b=false:=by
 have e1:(op == CmpOp.In)=false:=by cases op <;> first | rfl | exact absurd rfl h
 have e2:(op == CmpOp.NotIn)=false:=by cases op <;> first | rfl | exact absurd rfl h2
 cases b <;> simp[behindInMarks,e1,e2]
theorem qDa {op:CmpOp} {r:R2} (ho:OpR X (compareOp op) r) (ha:PE X a ta) (hb:PE X b tb) (hm:behindInMarks op b=false):PE X (.Compare a [op] [b] pos) (tOp r ta tb):=by
 intro pins s σ H Q I h;exact wpAny_Compare1 (binT ha hb I h fun v u s2 x y H2 I2 rx ry q=>ho pins s2 σ H2 x y v u Q I2 rx ry q) hm
def tTest (t:TE):TT:=fun σ H Q=>t σ H fun x H'=>∃ k,x = .bl k/\Q k H'
theorem qAk (ho:OpR X (compareOp op) r) (ha:PE X a ta) (hb:PE X b tb) (hm:behindInMarks op b=false):PT X (.Compare a [op] [b] pos) (tTest (tOp r ta tb)):=by
 intro pins s σ H Q I h;refine wpAny_isTrue_Compare1 (thn (ha pins s σ H _ I h) fun v s1 ⟨x,H1,I1,r1,q1⟩=>thn (hb pins s1 σ H1 _ I1 q1) fun u s2 ⟨y,H2,I2,r2,q2⟩ =>
  thn (ho pins s2 σ H2 x y v u _ I2 r1 r2 q2) fun c s3 ⟨z,H3,I3,r3,k,e,q3⟩=>?_) hm
 subst e;cases r3;exact wpAny_truthy_bool ⟨H3,I3,q3⟩
theorem line63:(sizeLine:Nat)<2^63:=by rw[sizeLine_eq];decide
theorem qDl:OpR X (binaryOp .Add) (fun x y H Q=>∃ i j,x = .str i/\y = .str j/\i.length+j.length<=sizeLine/\Q (.str (i++j)) H):=by
 intro pins s σ H x y v u Q I rx ry h;obtain⟨i,j,rfl,rfl,hz,q⟩:=h;obtain⟨t,rfl⟩:=rx;obtain⟨t',rfl⟩:=ry;exact add_str (fun t' tk=>⟨.str (i++j),H,I.tok _,⟨_,rfl⟩,q⟩) hz
theorem qCs (r:qA9 [x] us):∃ u,us=[u]/\qBp x u:=by
 cases r with
 | cons r1 r2=>cases r2;exact⟨_,rfl,r1⟩
theorem vals2 (r:qA9 [x,y] us):∃ u w',us=[u,w']/\qBp x u/\qBp y w':=by
 cases r with
 | cons r1 r2 =>
  cases r2 with
  | cons r3 r4=>cases r4;exact⟨_,_,rfl,r1,r3⟩
theorem qGq (hc:X.calm=true):qB9 X (.builtin "max") (fun xs H Q=>∃ i j,xs=[.int i,.int j]/\Q (.int (if j > i then j else i)) H):=by
 intro pins s σ H xs us Q I r h;obtain⟨i,j,rfl,q⟩:=h;obtain⟨u,w',rfl,⟨t,rfl⟩,⟨t',rfl⟩⟩:=vals2 r;refine max_two_ints (I.ok.hd hc) fun h' tk k=>⟨_,H,I.kept k,?_,q⟩
 by_cases hj:j > i
 ·rw[if_pos hj,if_pos hj];exact⟨_,rfl⟩
 ·rw[if_neg hj,if_neg hj];exact⟨_,rfl⟩
theorem qCq (hc:X.calm=true):qB9 X (.builtin "min") (fun xs H Q=>∃ i j,xs=[.int i,.int j]/\Q (.int (if j<i then j else i)) H):=by
 intro pins s σ H xs us Q I r h;obtain⟨i,j,rfl,q⟩:=h;obtain⟨u,w',rfl,⟨t,rfl⟩,⟨t',rfl⟩⟩:=vals2 r;refine min_two_ints (I.ok.hd hc) fun h' tk k=>⟨_,H,I.kept k,?_,q⟩
 by_cases hj:j<i
 ·rw[if_pos hj,if_pos hj];exact⟨_,rfl⟩
 ·rw[if_neg hj,if_neg hj];exact⟨_,rfl⟩
theorem qDh:qB9 X (.type "int") (fun xs H Q=>(∃ i,xs=[.int i]/\Q (.int i) H)\/∃ k,xs=[.bl k]/\Q (.int (if k then 1 else 0)) H):=by
 intro pins s σ H xs us Q I r h;rcases h with ⟨i,rfl,q⟩ | ⟨k,rfl,q⟩
 ·obtain⟨u,rfl,t,rfl⟩:=qCs r;exact call_int_int ⟨.int i,H,I,⟨_,rfl⟩,q⟩
 ·obtain⟨u,rfl,r1⟩:=qCs r;cases r1;exact call_int_bool ⟨.int (if k then 1 else 0),H,I.tok _,⟨_,rfl⟩,q⟩
end
end L2
namespace L2
open PySem PySem.Spec PyProof.Rows
structure ObjM (h:Heap) (x dx C:Addr) (mA:Str->Option Value):Prop where
 obj:h.get? x=some (PySem.W.instObj C dx)
 ns:h.Ns1 dx mA
 ne:dx≠x
theorem lookIn_ns {h:Heap} {dx:Addr} {mA:Str->Option Value} (n:h.Ns1 dx mA):∃ od,h.get? dx=some od/\∀ name,PySem.W.lookIn name od=some (mA name):=by
 obtain⟨o,es,ep,ho,hd,hk,_,hm⟩:=n;refine⟨o,ho,fun name=>?_⟩;have e:=hm name;unfold nsFind findBy at e;rw[<-Array.find?_toList]at e;unfold PySem.W.lookIn;rw[hd];dsimp only;split
 ·rename_i y q;rw[q]at e;exact congrArg some e
 ·rename_i q;rw[q]at e;have a:es.toList.any (·.refKey)=false:=by
   rw[List.any_eq_false];intro y hy;obtain⟨z,t,hkey⟩:=hk y (Array.mem_toList_iff.mp hy);simp[DictEntry.refKey,hkey]
  have a':¬es.toList.any (·.refKey)=true:=by rw[a];exact hB1
  rw[if_neg a'];exact congrArg some e
theorem ObjM.look (I:ObjM h x dx C mA):∃ od,PySem.W.InstAt h x (PySem.W.instObj C dx) C (some od)/\∀ name,PySem.W.lookIn name od=some (mA name) :=
 let ⟨od,ho,hl⟩:=lookIn_ns I.ns
 ⟨od,⟨I.obj,rfl,rfl,ho⟩,hl⟩
theorem RelO.some_of (r:RelO (some v) o):∃ u,o=some u/\qBp v u:=by
 cases o with
 | none=>exact(show False from r).elim
 | some u=>exact⟨u,rfl,r⟩
section
variable {P:Program} {w:World} {H H':Hp} {h h':Heap} {a C dx:Addr} {fs fs':List (Str×V)}
theorem ins_get (hok:HOk P w H h) (e:H a=some (.ins C dx fs)):∃ mA,ObjM h a dx C mA/\(∀ f,RelO (fs.lookup f) (mA f))/\PySem.Within mA (fs.map (·.1))/\fs.length<=1000/\H dx=some (.own a):=by
 obtain⟨d,z,ne,ob,mA,n,r,q⟩:=(show qBq P w H h a (.ins C dx fs) from hok a _ e);exact⟨mA,⟨ob,n,ne⟩,r,q,z,d⟩
end
structure Cls (K:PySem.W.Frag) (C:Addr):Prop where
 pg:PySem.W.plainGet K C Str.empty=true
 hd:PySem.W.hasDictIn K C=true
 po:PySem.W.plainOver K C=true
 sa:PySem.W.findIn K (.ref C) "__setattr__" = some (some (.builtin "object.__setattr__"))
theorem Cls.get {K:PySem.W.Frag} {C:Addr} (c:Cls K C) (f:Str):PySem.W.plainGet K C f=true:=c.pg
structure Con (K:PySem.W.Frag) (C:Addr) (f:Str) (v:V) (u:Value):Prop where
 at_:PySem.W.findIn K (.ref C) f=some (some u)
 rel:qBp v u
 get:PySem.W.specialIn K u "__get__" = some none
 cp:PySem.W.copiedNames.contains f=false
structure Meth (K:PySem.W.Frag) (C:Addr) (m:Str) (f:Addr):Prop where
 at_:PySem.W.findIn K (.ref C) m=some (some (.ref f))
 fn:PySem.W.isFn K (.ref f)=true
 kp:PySem.W.keepIn K (.ref f)=true
section
variable {X:Cx} {pins:List (Addr×Obj)} {σ:St} {H:Hp} {s:Shared} {A:Around} {E:Value->Shared->Prop} {Q:Value->Shared->Prop} {c:Value} {b:Bool}
inductive TyOf (K:PySem.W.Frag) (H:Hp):V->Value->Prop where
 | non:TyOf K H .non (.type "NoneType")
 | bl (x:Bool):TyOf K H (.bl x) (.type "bool")
 | int (i:Int):TyOf K H (.int i) (.type "int")
 | str (x:Str):TyOf K H (.str x) (.type "str")
 | flt (x:UInt64):TyOf K H (.flt x) (.type "float")
 | lst {a:Addr} {xs:List V} (e:H a=some (.lst xs)):TyOf K H (.ref a) (.type "list")
 | frz {a:Addr} {o:Obj} {xs:List V} (e:H a=some (.frz o (.lst xs))):TyOf K H (.ref a) (.type "list")
 | tup {a:Addr} {xs:List V} (e:H a=some (.tup xs)):TyOf K H (.ref a) (.type "tuple")
 | dK {a:Addr} {kvs:List (Key×V)} (e:H a=some (.dK kvs)):TyOf K H (.ref a) (.type "dict")
 | dT {a:Addr} {kvs:List (List Key×V)} (e:H a=some (.dT kvs)):TyOf K H (.ref a) (.type "dict")
 | ins {a C dx:Addr} {fs:List (Str×V)} (e:H a=some (.ins C dx fs)) (cl:Cls K C) (ha:PySem.W.findIn K (.ref C) "__class__" = some (some (.builtin "object.__class__")))
   (hn:PySem.W.specialIn K (.builtin "object.__class__") "__get__" = some (some (.builtin "getset_descriptor.__get__"))) (htk:PySem.W.takesIn K (.builtin "object.__class__")=some true)
   (hm:PySem.W.mroIn K C (.type "object")=some true):TyOf K H (.ref a) (.ref C)
theorem isinst_ok (I:Inv X pins σ H s) (rx:qBp x u) (ty:TyOf X.K H x t) (e:PySem.W.kitOne X.K t c=some b) (h:∀ tk,Q (.bool b) { s with toks:=tk }) :
  wpAny (model X.prog X.w) A (call (.builtin "isinstance") [u,c]) Q E s:=by
 cases ty with
 | non=>cases(show u=Value.none from rx);exact hC8 PySem.W.kitx_none I.kIn True.intro e (fun z=>nomatch z) h
 | bl y=>cases(show u=Value.bool y from rx);exact hC8 PySem.W.kitx_bool I.kIn True.intro e (fun z=>nomatch z) h
 | int i=>obtain⟨t,q⟩:=(show ∃ t,u=Value.int i t from rx);cases q;exact hC8 PySem.W.kitx_int I.kIn True.intro e (fun z=>nomatch z) h
 | str y=>obtain⟨t,q⟩:=(show ∃ t,u=Value.str y t from rx);cases q;exact hC8 PySem.W.kitx_str I.kIn True.intro e (fun z=>nomatch z) h
 | flt y=>obtain⟨t,q⟩:=(show ∃ t,u=Value.float y t from rx);cases q;exact hC8 PySem.W.kitx_float I.kIn True.intro e (fun z=>nomatch z) h
 | @lst a xs ea =>
  cases(show u=Value.ref a from rx);obtain⟨_,_,n,_,h1⟩:=(show qBq X.prog X.w H s.heap a (.lst xs) from I.hok a _ ea);exact hC8 PySem.W.kitx_list I.kIn ⟨_,h1,rfl⟩ e (fun z=>nomatch z) h
 | @frz a ob xs ea =>
  cases(show u=Value.ref a from rx);obtain⟨_,_,_,n,_,h1⟩:=(show qBq X.prog X.w H s.heap a (.frz ob (.lst xs)) from I.hok a _ ea);exact hC8 PySem.W.kitx_list I.kIn ⟨_,h1,rfl⟩ e (fun z=>nomatch z) h
 | @tup a xs ea =>
  cases(show u=Value.ref a from rx);obtain⟨_,_,_,p⟩:=(show qBq X.prog X.w H s.heap a (.tup xs) from I.hok a _ ea);obtain⟨o,h1,h2,_⟩:=p;exact hC8 PySem.W.kitx_tuple I.kIn ⟨o,h1,h2⟩ e (fun z=>nomatch z) h
 | @dK a kvs ea =>
  cases(show u=Value.ref a from rx);obtain⟨_,_,vs,_,p⟩:=(show qBq X.prog X.w H s.heap a (.dK kvs) from I.hok a _ ea);obtain⟨o,es,ep,h1,h2,_⟩:=p;exact hC8 PySem.W.kitx_dict I.kIn ⟨o,h1,h2.1⟩ e (fun z=>nomatch z) h
 | @dT a kvs ea =>
  cases(show u=Value.ref a from rx);obtain⟨_,_,xs,_,o,es,ep,h1,h2,_⟩:=(show qBq X.prog X.w H s.heap a (.dT kvs) from I.hok a _ ea);exact hC8 PySem.W.kitx_dict I.kIn ⟨o,h1,h2.1⟩ e (fun z=>nomatch z) h
 | @ins a C dx fs ea cl ha hn htk hm =>
  cases(show u=Value.ref a from rx);obtain⟨mA,O,_⟩:=ins_get I.hok ea;obtain⟨od,J,_⟩:=O.look;exact hC8 (PySem.W.kitx_own (cl.get _) cl.hd ha hn htk hm) I.kIn J e (fun z=>nomatch z) h
end
end L2
namespace L2
open PySem PySem.Spec PyProof.Rows
structure Room (k:Nat) (A:Around):Prop where
 hd:A.handled=none
 dp:A.depth+3*k+5<recursionLimit
 un:A.units+16*k+200<cLine
 gd:A.guards=some []
theorem Room.mono (r:Room k A) (h:j<=k):Room j A:=⟨r.hd,by have:=r.dp;omega,by have:=r.un;omega,r.gd⟩
theorem Room.deeper (r:Room (k+1) A) (env:Env):Room k (A.deeper env) :=
 ⟨r.hd,by have:=r.dp;show A.depth+1+3*k+5<_;omega,by have:=r.un;show A.units+3+16*k+200<_;omega,r.gd⟩
theorem Room.in1 (r:Room (k+1) A):Room k A.in1 :=
 ⟨r.hd,by have:=r.dp;show A.depth+3*k+5<_;omega,by have:=r.un;show A.units+1+16*k+200<_;omega,r.gd⟩
theorem Room.depth (r:Room k A):A.depth<recursionLimit:=by have:=r.dp;omega
theorem Room.units (r:Room k A):A.units+64<cLine:=by have:=r.un;omega
def tNil:TA:=fun _ H Q=>Q [] H
def qCb (ta:TE) (tr:TA):TA:=fun σ H Q=>ta σ H fun x H1=>tr σ H1 fun xs H2=>Q (x :: xs) H2
section
variable {X:Cx} {e:Expr} {es:List Expr} {te:TE} {t:TA} {pos:Pos}
theorem pa_nil:PA X [] tNil:=fun _ _ _ _ H Q I h=>Calls.spliced_nil ⟨[],H,I,.nil,h⟩
theorem pa_cons (ha:PE X e te) (hr:PA X es t) (hs:starEach (e :: es) X.env=(false,eval e X.env) :: starEach es X.env:=by rfl):PA X (e :: es) (qCb te t):=by
 intro pos pins s σ H Q I h;rw[hs];show wpAny _ _ (spliced ((false,eval e X.env) :: backTo pos (starEach es X.env))) _ _ s;refine Calls.spliced_cons (thn (ha pins s σ H _ I h) fun u s1 ⟨x,H1,I1,r1,q1⟩=>?_);exact thn (hr pos pins s1 σ H1 _ I1 q1) fun us s2 ⟨xs,H2,I2,r2,q2⟩=>⟨x :: xs,H2,I2,.cons r1 r2,q2⟩
def tTup (t:TA):TE:=fun σ H Q=>t σ H fun xs H1=>xs.length<=sizeLine/\∀ p,H1 p=none->Q (.ref p) (upd H1 p (.tup xs))
def tLst (t:TA):TE:=fun σ H Q=>t σ H fun xs H1=>xs.length<=sizeLine/\∀ p,H1 p=none->Q (.ref p) (upd H1 p (.lst xs))
theorem qCe {x1} (h:PA X es t):PE X (.Tuple es x1 pos) (tTup t):=by
 intro pins s σ H Q I hq;refine wpAny_Tuple_spliced (thn (h pos pins s σ H _ I hq) fun us s1 ⟨xs,H1,I1,r,z,q⟩=>⟨by rw[<-r.length];exact z,?_⟩);have hf:H1 s1.heap.objs.size=none:=I1.hok.fresh (hA5 _);refine⟨.ref s1.heap.objs.size,upd H1 s1.heap.objs.size (.tup xs),I1.laid (t':=s1.toks) (fun b u e=>Heap.get?_push_of_some _ e) (hA5 _) ?_,rfl,q _ hf⟩;exact⟨z,us,r,⟨_,Heap.get?_push_size _ rfl,rfl,_,rfl⟩⟩
theorem pe_lst (h:PA X es t):PE X (.List es pos) (tLst t):=by
 intro pins s σ H Q I hq;refine wpAny_List_spliced (thn (h pos pins s σ H _ I hq) fun us s1 ⟨xs,H1,I1,r,z,q⟩=>⟨by rw[<-r.length];exact z,?_⟩);have hf:H1 s1.heap.objs.size=none:=I1.hok.fresh (hA5 _);refine⟨.ref s1.heap.objs.size,upd H1 s1.heap.objs.size (.lst xs),I1.laid (t':=s1.toks) (fun b u e=>Heap.get?_push_of_some _ e) (hA5 _) ?_,rfl,q _ hf⟩;exact⟨z,us,0,r,Heap.get?_push_size _ rfl⟩
end
abbrev Sp:=List V->Hp->VK->XK->Prop
abbrev CXT:=List Env->Hp->Shared->XK->Value->Shared->Prop
structure Env0 (P:Program) (w:World) (K:PySem.W.Frag) (mg:Str->Option Value) (base:Heap) (A:Around) (outer:List Env) (s:Shared) (H:Hp):Prop where
 frames:A.frames=some outer
 mod:Mod K mg base
 bs:∀ b o,base.get? b=some o->s.heap.get? b=some o/\H b=none
 bsz:base.objs.size<=s.heap.objs.size
 funs:s.heap.FunFrames base outer
 frf:∀ b∈frs outer,H b=none
 hok:HOk P w H s.heap
 bare:AllBare s.gens
def CE (outer:List Env) (P:Program) (w:World) (H:Hp) (s:Shared) (Q:VK) (u:Value) (s':Shared):Prop :=
 ∃ v H',s'.os=s.os/\AllBare s'.gens/\Un (frs outer) [] H H' s.heap s'.heap/\HOk P w H' s'.heap/\qBp v u/\Q v H'
def CR (CX:CXT) (outer:List Env) (P:Program) (w:World) (H:Hp) (s:Shared) (Q:VK) (E:XK) (r:Result) (s':Shared):Prop :=
 match r with
 | .ok (.ret u)=>CE outer P w H s Q u s'
 | .ok _=>False
 | .error e=>CX outer H s E e s'
structure FnOk (P:Program) (w:World) (K:PySem.W.Frag) (mg:Str->Option Value) (base:Heap) (CX:CXT) (k:Nat) (f:Addr) (fd:FuncData) (ps:List Str) (sp:Sp):Prop where
 len:∀ vs H Q E,sp vs H Q E->vs.length=ps.length
 run:∀ (A:Around) (outer:List Env) (s:Shared) (H:Hp) (args:Args) (us:List Value) (vs:List V) (Q:VK) (E:XK),Room k A->Env0 P w K mg base A outer s H->BindsTo s fd args (ps.zip us)->qA9 vs us->sp vs H Q E ->
  codeAny (model P w) A (.call (.ref f) args) (CR CX outer P w H s Q E) s
theorem FnOk.imp {P:Program} {w:World} {K:PySem.W.Frag} {mg:Str->Option Value} {base:Heap} {CX:CXT} {k:Nat} {f:Addr} {fd:FuncData} {ps:List Str} {sp sp':Sp} (F:FnOk P w K mg base CX k f fd ps sp)
  (h:∀ vs H Q E,sp' vs H Q E->sp vs H Q E):FnOk P w K mg base CX k f fd ps sp' :=
 ⟨fun vs H Q E q=>F.len vs H Q E (h _ _ _ _ q),fun A outer s H args us vs Q E hr he hb hv hs=>F.run A outer s H args us vs Q E hr he hb hv (h _ _ _ _ hs)⟩
theorem Env0.in1 {P:Program} {w:World} {K:PySem.W.Frag} {mg:Str->Option Value} {base:Heap} {A:Around} {outer:List Env} {s:Shared} {H:Hp} (e:Env0 P w K mg base A outer s H) :
  Env0 P w K mg base A.in1 outer s H:=⟨e.frames,e.mod,e.bs,e.bsz,e.funs,e.frf,e.hok,e.bare⟩
section
variable {X:Cx} {pins:List (Addr×Obj)} {σ:St} {H:Hp} {s s':Shared}
theorem Inv.env0 (I:Inv X pins σ H s):Env0 X.prog X.w X.K X.mg X.base X.A X.stack s H :=
 ⟨I.ok.frames,I.ok.mod,I.bs,hAr I.ok.bsz I.sz,I.stack,I.stkFree,I.hok,I.bare⟩
theorem Inv.after (I:Inv X pins σ H s) (h:CE X.stack X.prog X.w H s Q u s'):EP X pins σ Q u s':=by
 obtain⟨v,H',os,bare,un,hok,r,q⟩:=h;obtain⟨hh,g,d,t,os'⟩:=s';obtain rfl:os'=s.os:=os;exact⟨v,H',I.call (h':=hh) (g':=g) (d':=d) (t':=t) (ch:=[]) un hok bare (fun b z=>absurd z (by simp)),r,q⟩
end
def tCall (sp:Sp) (dvs:List V) (E:XK) (t:TA):TE:=fun σ H Q=>t σ H fun vs H1=>sp (vs++dvs) H1 Q E
def Binds (K:PySem.W.Frag) (fd:FuncData) (ps:List Str) (ds:List Value):Prop :=
 ∀ (s:Shared) (us:List Value),K.In s.heap->(us++ds).length=ps.length->BindsTo s fd ⟨us,[]⟩ (ps.zip (us++ds))
theorem Binds.all {K:PySem.W.Frag} {fd:FuncData} {ps:List Str} (h:∀ us:List Value,us.length=ps.length->bindArgs fd ⟨us,[]⟩=pure (ps.zip us)):Binds K fd ps []:=fun s us _ hl=>by
 rw[hBe]at hl ⊢;exact .of_eq (h us hl)
def Passes (CX:CXT) (X:Cx) (E:XK):Prop:=∀ (pins:List (Addr×Obj)) (σ:St) (H:Hp) (s:Shared) (e:Value) (s':Shared),Inv X pins σ H s->CX X.stack H s E e s'->X.xe e s'
section
variable {X:Cx} {CX:CXT} {k:Nat} {f C:Addr} {fd:FuncData} {ps:List Str} {sp:Sp} {dvs:List V} {ds:List Value} {E:XK} {x m:Str} {p pos apos:Pos} {e o:Expr} {es:List Expr} {ta:TE} {t:TA}
theorem run_fn (F:FnOk X.prog X.w X.K X.mg X.base CX k f fd ps sp) (hr:Room k X.A) (hb:Binds X.K fd ps ds) (hd:qA9 dvs ds) (hx:Passes CX X E)
  (I:Inv X pins σ H s) (r:qA9 vs us) (h:sp (vs++dvs) H Q E):wpAny (model X.prog X.w) X.A (call (.ref f) us) (EP X pins σ Q) X.xe s:=by
 have r2:qA9 (vs++dvs) (us++ds):=r.append hd;have hl:(us++ds).length=ps.length:=by rw[<-r2.length];exact F.len _ _ _ _ h
 refine wpAny_call (codeAny_mono (F.run X.A X.stack s H ⟨us,[]⟩ (us++ds) (vs++dvs) Q E hr I.env0 (hb s us I.kIn hl) r2 h) fun r s' hq=>?_);cases r with
 | error e=>exact hx pins σ H s e s' I hq
 | ok fl =>
  cases fl with
  | ret u=>exact I.after hq
  | next=>exact False.elim hq
  | brk=>exact False.elim hq
  | cont=>exact False.elim hq
theorem pe_call (F:FnOk X.prog X.w X.K X.mg X.base CX k f fd ps sp) (hr:Room k X.A) (hg:Gl X x) (hm:X.mg x=some (.ref f)) (hk:PySem.W.keepIn X.K (.ref f)=true) (hb:Binds X.K fd ps ds) (hd:qA9 dvs ds) (hx:Passes CX X E)
  (ha:PA X (e :: es) t) (hdb:(x == ("__debug__" : Str))=false:=by decide) (he:starEach (e :: es) X.env=(false,eval e X.env) :: starEach es X.env:=by rfl) (hpl:(backTo pos (starEach es X.env)).any (·.1)=false:=by rfl) :
  PE X (.Call (.Name x p) (e :: es) [] pos) (tCall sp dvs E t):=by
 intro pins s σ H Q I h;refine wpAny_Call_Name_kw (ld_glob I hg hm ?_ hdb);refine PySem.W.callWith_K (h₀:=X.base) I.ok.mod.kin hk (thn (ha pos pins s σ H _ I h) fun us s1 ⟨vs,H1,I1,r,q⟩=>⟨I1.kIn,?_⟩) he hpl;exact run_fn F hr hb hd hx I1 r q
structure Mk (K:PySem.W.Frag) (C f:Addr):Prop where
 makes:PySem.W.makesIn K C=true
 init:PySem.W.findIn K (.ref C) "__init__" = some (some (.ref f))
 fn:PySem.W.isFn K (.ref f)=true
 kp:PySem.W.keepIn K (.ref C)=true
end
section
variable {X:Cx} {CX:CXT} {k:Nat} {f C:Addr} {fd:FuncData} {ps ks:List Str} {sp:Sp} {E:XK} {x m:Str} {p pos apos kpos:Pos} {e o:Expr} {es:List Expr} {kws:List Keyword} {te ta:TE} {t tk:TA} {nm:Option Str}
structure KBinds (K:PySem.W.Frag) (fd:FuncData) (ps ks:List Str) (g:List Value->List Value->List Value) (gV:List V->List V->List V):Prop where
 to:∀ (s:Shared) (us ws:List Value),K.In s.heap->(g us ws).length=ps.length->BindsTo s fd ⟨us,ks.zip ws⟩ (ps.zip (g us ws))
 rel:∀ {vs:List V} {us:List Value} {zs:List V} {ws:List Value},qA9 vs us->qA9 zs ws->qA9 (gV vs zs) (g us ws)
variable {g:List Value->List Value->List Value} {gV:List V->List V->List V}
end
structure FnScope (N P:List Str) (sc:Scope):Prop where
 kind:sc.kind = .function
 co:sc.isCoroutine=false
 gen:sc.isGenerator=false
 nd:N.Nodup
 pre:N.take P.length=P
 par:∀ x∈P,sc.names.lookup x=some .local\/sc.names.lookup x=some .cell
 nofree:∀ y∈sc.names,y.2≠.free
theorem bindL_out {kindOf:Str->Option NameKind} {x:Str}:∀ {binds:List (Str×Value)} {m:Str->Option Value},(∀ v,(x,v)∉binds)->bindL kindOf binds m x=m x
 | [],_,_=>rfl
 | (n,v) :: r,m,h=>by
  unfold bindL;rw[bindL_out fun w hw=>h w (hAc _ hw)];split
  ·have:x≠n:=by rintro rfl;exact h v hAe
   simp[this]
  ·rfl
theorem bindC_out {kindOf:Str->Option NameKind} {x:Str}:∀ {binds:List (Str×Value)} {m:Str->Option Value},(∀ v,(x,v)∉binds)->bindC kindOf binds m x=m x
 | [],_,_=>rfl
 | (n,v) :: r,m,h=>by
  unfold bindC;rw[bindC_out fun w hw=>h w (hAc _ hw)];split
  ·rfl
  ·have:x≠n:=by rintro rfl;exact h v hAe
   simp[this]
theorem bindL_get {kindOf:Str->Option NameKind} {x:Str} {v:Value}:∀ {P:List Str} {vs:List Value} {i:Nat} {m:Str->Option Value},P.Nodup->P[i]?=some x->vs[i]?=some v->kindOf x=some .local ->
  bindL kindOf (P.zip vs) m x=some v
 | [],_,_,_,_,h,_,_=>by simp at h
 | _ :: _,[],_,_,_,_,h,_=>by simp at h
 | p :: P,w :: vs,0,m,nd,h1,h2,hk=>by
  simp at h1 h2;subst h1;subst h2;show bindL kindOf ((p,w) :: P.zip vs) m p=_;unfold bindL;rw[bindL_out fun v hv=>(hBu.mp nd).1 (hDq hv).1,if_pos hk];simp
 | p :: P,w :: vs,i+1,m,nd,h1,h2,hk=>by
  show bindL kindOf ((p,w) :: P.zip vs) m x=_;unfold bindL;exact bindL_get (i:=i) (hBu.mp nd).2 (by simpa using h1) (by simpa using h2) hk
theorem bindC_get {kindOf:Str->Option NameKind} {x:Str} {v:Value}:∀ {P:List Str} {vs:List Value} {i:Nat} {m:Str->Option Value},P.Nodup->P[i]?=some x->vs[i]?=some v->kindOf x≠some .local ->
  bindC kindOf (P.zip vs) m x=some v
 | [],_,_,_,_,h,_,_=>by simp at h
 | _ :: _,[],_,_,_,_,h,_=>by simp at h
 | p :: P,w :: vs,0,m,nd,h1,h2,hk=>by
  simp at h1 h2;subst h1;subst h2;show bindC kindOf ((p,w) :: P.zip vs) m p=_;unfold bindC;rw[bindC_out fun v hv=>(hBu.mp nd).1 (hDq hv).1,if_neg hk];simp
 | p :: P,w :: vs,i+1,m,nd,h1,h2,hk=>by
  show bindC kindOf ((p,w) :: P.zip vs) m x=_;unfold bindC;exact bindC_get (i:=i) (hBu.mp nd).2 (by simpa using h1) (by simpa using h2) hk
noncomputable def qFf (N:List Str) (vs:List V):St:=vs.map some++List.replicate (N.length - vs.length) none
noncomputable def qBy (CX:CXT) (P:Program) (w:World) (K:PySem.W.Frag) (mg:Str->Option Value) (base:Heap) (N:List Str) (qual:Str) (scope:Scope) (f:Addr) (cd:Value) (A:Around) (outer:List Env) (s:Shared) (H:Hp) (E:XK):Cx where
 prog:=P
 w:=w
 K:=K
 mg:=mg
 base:=base
 A:=A.deeper (envOfC qual scope s.heap.objs.size f cd)
 N:=N
 s₀:=s
 H₀:=H
 env:=envOfC qual scope s.heap.objs.size f cd
 outer:=outer
 stack:=envOfC qual scope s.heap.objs.size f cd :: outer
 ex:=[]
 calm:=true
 fn:=fun _=>true
 pn:=[]
 xe:=fun e s'=>wpAny (model P w) (A.deeper (envOfC qual scope s.heap.objs.size f cd)) (leaving (envOfC qual scope s.heap.objs.size f cd) e) (fun _ s''=>CX outer H s E e s'') (fun e' s''=>CX outer H s E e' s'') s'
theorem cell_has {sc:Scope} {n:Nat} {x:Str} (h:sc.names.lookup x=some .cell):∃ c,(cellsFrom n sc.names []).lookup x=some c:=by
 have q:=hDo sc.names n [] (.inl h);exact Option.isSome_iff_exists.mp q
theorem inv_start {CX:CXT} {P:Program} {w:World} {K:PySem.W.Frag} {mg:Str->Option Value} {base:Heap} {N ps:List Str} {qual:Str} {scope:Scope} {f:Addr} {cd:Value} {A:Around} {outer:List Env} {s s1:Shared} {H:Hp} {E:XK} {us:List Value} {vs:List V}
  (S:FnScope N ps scope) (hd:A.handled=none) (e0:Env0 P w K mg base A outer s H) (hl:vs.length=ps.length) (r:qA9 vs us)
  (x:InCallC s s.heap.objs.size (bindL (envOfC qual scope s.heap.objs.size f cd).kindOf (ps.zip us) fun _=>none) (cellsFrom (s.heap.objs.size+1) scope.names []) (bindC (envOfC qual scope s.heap.objs.size f cd).kindOf (ps.zip us) fun _=>none) s1) :
  Inv (qBy CX P w K mg base N qual scope f cd A outer s H E) [] (qFf N vs) H s1:=by
 have hpl:ps.length<=N.length:=by have:=congrArg List.length S.pre;rw[hAi]at this;omega
 obtain⟨h1,tk,rfl,hk⟩:=x.done;have noA:∀ b:Addr,b∉(qBy CX P w K mg base N qual scope f cd A outer s H E).ex:=fun b z=>absurd (show b∈([]:List Addr) from z) (by simp)
 refine⟨⟨e0.mod,S.kind,rfl,rfl,hA5 _,fun y z c h1 h2=>?_,fun y hy=>?_,fun y c _ h=>?_,fun _=>hd,Around.frames_deeper e0.frames,.inr ⟨rfl,rfl⟩,fun b z=>absurd z (noA b),e0.bs,e0.bsz,fun b _ _=>noA b,fun b z=>absurd z (noA b),e0.funs,e0.frf⟩,
  rfl,e0.bare,Un.kept hk,⟨_,x.toInCall.ns,fun i y v h1 h2 h3=>?_⟩,fun y c h=>⟨_,x.cell y c h⟩,e0.hok.fresh (hA5 _),fun y c h=>?_,fun p hp=>absurd (show p∈([]:List (Addr×Obj)) from hp) (by simp),e0.hok.kept hk,?_⟩
 ·exact name_of_addr x.apart (hBx h1) (hBx h2)
 ·have hy:scope.names.lookup y=some .cell\/scope.names.lookup y=some .free:=hy;rcases hy with hy | hy
  ·exact cell_has hy
  ·exact absurd rfl (S.nofree _ (hBx hy))
 ·exact hBd (x.above y c (hBx h))
 ·have hi:i<vs.length:=by
   unfold qFf at h2;by_cases hi:i<vs.length
   ·exact hi
   ·rw[hC6 (by simpa using hi)]at h2;rw[List.getElem?_replicate]at h2;split at h2 <;> cases h2
  have ha:vs[i]?=some v:=by
   unfold qFf at h2;rw[List.getElem?_append_left (by simpa using hi),hAs]at h2;cases e:vs[i]? with
   | none=>rw[e]at h2;cases h2
   | some a=>rw[e]at h2;cases h2;rfl
  obtain⟨u,hu,rv⟩:=r.get ha;have hp:ps[i]?=some y:=by
   rw[<-S.pre,List.getElem?_take_of_lt (by omega)];exact h1
  have ndP:ps.Nodup:=by rw[<-S.pre];exact S.nd.sublist (List.take_sublist _ _)
  refine⟨u,rv,?_⟩;rcases S.par y (hAd hp) with k | k
  ·exact .inl ⟨k,bindL_get ndP hp hu k⟩
  ·obtain⟨c,e⟩:=cell_has (n:=s.heap.objs.size+1) k;refine .inr ⟨.inl k,c,e,?_⟩;have q:=x.cell y c e;rw[bindC_get ndP hp hu (by show scope.names.lookup y≠_;rw[k];decide)]at q;exact q
 ·exact e0.hok.fresh (hBd (x.above y c (hBx h)))
 ·unfold qFf;show _=N.length;rw[hA7,hA1,hCd];omega
theorem fn_of {CX:CXT} {P:Program} {w:World} {K:PySem.W.Frag} {mg:Str->Option Value} {base:Heap} {k:Nat} {f:Addr} {name qual:Str} {params:Arguments} {body:List Stmt} {scope:Scope} {dV kV doc pm cdv ct oc:Value} {an od:Option Addr}
  {osl:Array (Option Value)} {N ps:List Str} {sp:Sp} (lk:K.lookup f=some ⟨oc,od,.func (PySem.W.fnOf name qual params body scope dV kV doc pm an cdv ct),osl⟩) (hcd:PySem.W.codeIn K cdv qual=true) (S:FnScope N ps scope)
  (len:∀ vs H Q E,sp vs H Q E->vs.length=ps.length)
  (hbody:∀ (A:Around) (outer:List Env) (s:Shared) (H:Hp) (vs:List V) (Q:VK) (E:XK),Room k (A.deeper (envOfC qual scope s.heap.objs.size f cdv))->sp vs H Q E ->
   ∃ t,PSs (qBy CX P w K mg base N qual scope f cdv A outer s H E) body t/\t { nx:=fun _ H'=>Q .non H',rt:=Q } (qFf N vs) H) :
  FnOk P w K mg base CX (k+1) f (PySem.W.fnOf name qual params body scope dV kV doc pm an cdv ct) ps sp:=by
 refine⟨len,fun A outer s H args us vs Q E hr e0 hb r hsp=>?_⟩;have hl:=len _ _ _ _ hsp;have KX:K.In s.heap:=e0.mod.kin.keeps fun b o e=>(e0.bs b o e).1
 have lim:s.heap.NoLimit:=e0.mod.nolimit.keeps fun b o e=>(e0.bs b o e).1
 have hkind:∀ y∈ps.zip us,scope.names.lookup y.1=some .local\/(scope.names.lookup y.1=some .cell/\((cellsFrom (s.heap.objs.size+1) scope.names []).lookup y.1).isSome=true):=fun ⟨n,v⟩ hy=>by
  rcases S.par n (hDq hy).1 with q | q
  ·exact .inl q
  ·exact .inr ⟨q,hDo _ _ _ (.inl q)⟩
 refine codeAny_call_function hr.depth (KX _ _ lk) rfl S.co S.gen rfl (PySem.W.codeRec_of KX hcd) (hb _ _ _ _ ?_);refine wpAny_newFunctionEnv_cells S.kind hkind fun env he s1 x=>?_
 subst he;refine⟨lim.keeps x.toInCall.keep,codeAny_func ?_⟩;obtain⟨t,ht,hq⟩:=hbody A outer s H vs Q E (hr.deeper _) hsp;have I:Inv (qBy CX P w K mg base N qual scope f cdv A outer s H E) [] (qFf N vs) H s1:=inv_start S hr.hd e0 hl r x;refine wpAny_mono (ht [] s1 (qFf N vs) H _ I hq) (fun fl s' hs=>?_) fun e s' hs=>hs
 have fin:∀ {σ':St} {H':Hp} {v:V} {u:Value},Inv (qBy CX P w K mg base N qual scope f cdv A outer s H E) [] σ' H' s'->qBp v u->Q v H'->CE outer P w H s Q u s' :=
  fun {σ' H' v u} J rv q=>⟨v,H',J.os,J.bare,J.base,J.hok,rv,q⟩
 cases fl with
 | ret u =>
  obtain⟨v,σ',H',J,rv,q⟩:=hs;exact fin J rv q
 | next =>
  obtain⟨σ',H',J,q⟩:=hs;exact fin (v:=V.non) (u:=Value.none) J rfl q
 | brk =>
  obtain⟨_,_,_,q⟩:=hs;exact False.elim q
 | cont =>
  obtain⟨_,_,_,q⟩:=hs;exact False.elim q
end L2
namespace L2
open PySem PySem.Spec PyProof.Rows
section
variable {X:Cx} {x:Str} {p pos:Pos} {e:Expr} {es:List Expr} {t:TA} {id T:String} {r:List V->Hp->VK->Prop}
def tCB (r:List V->Hp->VK->Prop) (t:TA):TE:=fun σ H Q=>t σ H fun vs H1=>r vs H1 Q
theorem qAj (hc:qB9 X (.builtin id) r) (hg:Gl X x) (hm:X.mg x=none) (hv:bootBuiltins x=some (.builtin id)) (ha:PA X (e :: es) t) (hn:x≠"__name__":=by decide) (hdb:(x == ("__debug__" : Str))=false:=by decide)
  (he:starEach (e :: es) X.env=(false,eval e X.env) :: starEach es X.env:=by rfl) (hpl:(backTo pos (starEach es X.env)).any (·.1)=false:=by rfl):PE X (.Call (.Name x p) (e :: es) [] pos) (tCB r t):=by
 intro pins s σ H Q I h;refine wpAny_Call_Name_kw (qEm I hg hm hv ?_ hn hdb);exact PyProof.Rows.callWith_builtin1 (thn (ha pos pins s σ H _ I h) fun us s1 ⟨vs,H1,I1,r1,q1⟩=>hc pins s1 σ H1 vs us Q I1 r1 q1) he hpl
theorem qA6 (hc:qB9 X (.type T) r) (hg:Gl X x) (hm:X.mg x=none) (hv:bootBuiltins x=some (.type T)) (ha:PA X (e :: es) t) (hn:x≠"__name__":=by decide) (hdb:(x == ("__debug__" : Str))=false:=by decide)
  (he:starEach (e :: es) X.env=(false,eval e X.env) :: starEach es X.env:=by rfl) (hpl:(backTo pos (starEach es X.env)).any (·.1)=false:=by rfl):PE X (.Call (.Name x p) (e :: es) [] pos) (tCB r t):=by
 intro pins s σ H Q I h;refine wpAny_Call_Name_kw (qEm I hg hm hv ?_ hn hdb);exact hCr (thn (ha pos pins s σ H _ I h) fun us s1 ⟨vs,H1,I1,r1,q1⟩=>hc pins s1 σ H1 vs us Q I1 r1 q1) he hpl
end
end L2
namespace HT
open PySem PyProof.Rows
section
variable {prog:Program} {w:World} {A:Around} {E:Value->Shared->Prop} {s:Shared}
noncomputable def sIx (n d:Nat):Option Int->Nat
 | none=>d
 | some v=>if v<0 then (v+(n:Int)).toNat else min v.toNat n
theorem sIx_none (n d:Nat):sIx n d none=d:=rfl
theorem sIx_nat (n d k:Nat):sIx n d (some (k:Int))=min k n:=by
 show(if (k:Int)<0 then ((k:Int)+(n:Int)).toNat else min (k:Int).toNat n)=min k n;rw[if_neg (by omega),hB4]
end
end HT
namespace L2
open PySem PySem.Spec PyProof.Rows
abbrev TO:=St->Hp->(Option Int->Hp->Prop)->Prop
def PO (X:Cx) (e:Option Expr) (t:TO):Prop :=
 ∀ (pins:List (Addr×Obj)) (s:Shared) (σ:St) (H:Hp) (Q:Option Int->Hp->Prop),Inv X pins σ H s->t σ H Q ->
  wpAny (model X.prog X.w) X.A (evalPart e X.env) (fun u s'=>∃ o H',Inv X pins σ H' s'/\IsPart u o/\Q o H') X.xe s
def tNoPart:TO:=fun _ H Q=>Q none H
def tPart (t:TE):TO:=fun σ H Q=>t σ H fun x H1=>∃ i,x = .int i/\Q (some i) H1
section
variable {X:Cx} {e:Expr} {te:TE} {lo hi:Option Expr} {tl th:TO} {pos p2:Pos}
theorem qGd:PO X none tNoPart:=by
 intro pins s σ H Q I h;rw[evalPart_none];exact wpAny_pure ⟨none,H,I,.none,h⟩
theorem qGc (h:PE X e te):PO X (some e) (tPart te):=by
 intro pins s σ H Q I hw;rw[evalPart_some];refine thn (h pins s σ H _ I hw) fun u s1 ⟨x,H1,I1,r1,q1⟩=>?_
 obtain⟨i,rfl,q⟩:=q1;obtain⟨t,rfl⟩:=r1;exact⟨some i,H1,I1,.int i t,q⟩
def SlR (X:Cx) (r:V->Option Int->Option Int->Hp->VK->Prop):Prop :=
 ∀ (pins:List (Addr×Obj)) (s:Shared) (σ:St) (H:Hp) (x:V) (v vl vu:Value) (lo hi:Option Int) (sl:Addr) (Q:VK),Inv X pins σ H s->qBp x v->s.heap.IsSliceOf sl vl vu .none->IsPart vl lo->IsPart vu hi->r x lo hi H Q ->
  ∃ T id,typeLookup (.type T) "__getitem__" = pure (some (.builtin id))/\s.TypeIs v T/\wpAny (model X.prog X.w) X.A (getItem v (.ref sl)) (EP X pins σ Q) X.xe s
def tSl (r:V->Option Int->Option Int->Hp->VK->Prop) (te:TE) (tl th:TO):TE:=fun σ H Q=>te σ H fun x H1=>tl σ H1 fun l H2=>th σ H2 fun u H3=>r x l u H3 Q
theorem qEg (hr:SlR X r) (he:PE X e te) (hl:PO X lo tl) (hu:PO X hi th):PE X (.Subscript e (.Slice lo hi none p2) pos) (tSl r te tl th):=by
 intro pins s σ H Q I h;refine Subscript_ (thn (he pins s σ H _ I h) fun v s1 ⟨x,H1,I1,r1,q1⟩=>?_);refine wpAny_Slice (thn (hl pins s1 σ H1 _ I1 q1) fun vl s2 ⟨l,H2,I2,pl,q2⟩=>thn (hu pins s2 σ H2 _ I2 q2) fun vu s3 ⟨u,H3,I3,pu,q3⟩=>?_);rw[evalPart_none];refine wpAny_pure ?_;have I4:Inv X pins σ H3 { s3 with heap:=s3.heap.push { cls:=.type "slice",data:=.fields #[vl,vu,.none] } }:=I3.kept (t':=s3.toks) fun b ob q=>Heap.get?_push_of_some _ q
 obtain⟨T,id,hT,ht,hg⟩:=hr pins { s3 with heap:=s3.heap.push { cls:=.type "slice",data:=.fields #[vl,vu,.none] } } σ H3 x v vl vu l u s3.heap.objs.size Q I4 r1 (Heap.IsSliceOf.new ..) pl pu q3;show wpAny (model X.prog X.w) X.A (subscriptTail e (.Slice lo hi none p2) v (.ref s3.heap.objs.size)) (EP X pins σ Q) X.xe { s3 with heap:=s3.heap.push { cls:=.type "slice",data:=.fields #[vl,vu,.none] } };exact tail_any (ops:=[.ref s3.heap.objs.size,v]) ht hT hg (by with_unfolding_all rfl)
noncomputable def cutV (xs:List V) (lo hi:Option Int):List V:=(xs.drop (HT.sIx xs.length 0 lo)).take (HT.sIx xs.length xs.length hi - HT.sIx xs.length 0 lo)
theorem cutV_length (xs:List V) (lo hi:Option Int):(cutV xs lo hi).length<=xs.length:=by
 unfold cutV;rw[hAi,hCa];omega
end
end L2
namespace L2
open PySem PySem.Spec PyProof.Rows
noncomputable def ixN (n:Nat) (i:Int):Option Nat:=if 0<=i then (if i<n then some i.toNat else none) else if -(n:Int)<=i then some (i+n).toNat else none
noncomputable def atI {α:Type} (xs:List α) (i:Int):Option α:=(ixN xs.length i).bind fun j=>xs[j]?
theorem ixN_seq (h:ixN n i=some j):seqIndex? i n=some j/\j<n/\-(n:Int)<=i/\i<n:=by
 unfold ixN at h;by_cases h0:0<=i
 ·rw[if_pos h0]at h;by_cases h1:i<n
  ·rw[if_pos h1]at h;have e:i.toNat=j:=hAu h;exact⟨by rw[seqIndex_of h0 h1,e],by omega,by omega,h1⟩
  ·rw[if_neg h1]at h;cases h
 ·rw[if_neg h0]at h;by_cases h1:-(n:Int)<=i
  ·rw[if_pos h1]at h;have e:(i+n).toNat=j:=hAu h;exact⟨by rw[seqIndex_neg (by omega) h1,e],by omega,h1,by omega⟩
  ·rw[if_neg h1]at h;cases h
theorem atI_get (h:atI xs i=some v):∃ j,seqIndex? i xs.length=some j/\xs[j]?=some v/\j<xs.length/\-(xs.length:Int)<=i/\i<xs.length:=by
 unfold atI at h;cases e:ixN xs.length i with
 | none=>rw[e]at h;cases h
 | some j =>
  rw[e]at h;obtain⟨h1,h2,h3,h4⟩:=ixN_seq e;exact⟨j,h1,h,h2,h3,h4⟩
theorem qB5 {α:Type} {xs:List α} {j:Nat} {v:α} (h:xs[j]?=some v):atI xs (j:Int)=some v:=by
 have hj:j<xs.length:=(hAv.mp h).1;have e:ixN xs.length (j:Int)=some j:=by
  unfold ixN;rw[if_pos (by omega),if_pos (by omega)];simp
 unfold atI;rw[e];exact h
def PlainIx (b:Expr):Prop:=∀ o i,subscripted b false o i=operate [o,i] (getItem o i)
def IxR (X:Cx) (r:R2):Prop :=
 ∀ (value slice:Expr) (pins:List (Addr×Obj)) (s:Shared) (σ:St) (H:Hp) (x y:V) (v u:Value) (Q:VK),Inv X pins σ H s->qBp x v->qBp y u->r x y H Q ->
  subscripted slice false v u=operate [v,u] (getItem v u)->wpAny (model X.prog X.w) X.A (subscriptTail value slice v u) (EP X pins σ Q) X.xe s
def MtR (X:Cx) (id:String) (r:V->List V->Hp->VK->Prop):Prop :=
 ∀ (pins:List (Addr×Obj)) (s:Shared) (σ:St) (H:Hp) (x:V) (xs:List V) (v:Value) (us:List Value) (Q:VK),Inv X pins σ H s->qBp x v->qA9 xs us->r x xs H Q ->
  wpAny (model X.prog X.w) X.A (call (.builtin id) (v :: us)) (EP X pins σ Q) X.xe s
section
variable {X:Cx} {a b:Expr} {ta tb:TE} {pos:Pos}
theorem qBv (hr:IxR X r) (ha:PE X a ta) (hb:PE X b tb) (hs:PlainIx b):PE X (.Subscript a b pos) (tOp r ta tb):=by
 intro pins s σ H Q I h;exact Subscript_ (binT ha hb I h fun v u s2 x y H2 I2 rx ry q=>hr a b pins s2 σ H2 x y v u Q I2 rx ry q (hs _ _))
def rIxL (K:PySem.W.Frag):R2:=fun x y H Q=>∃ p xs i v,x = .ref p/\y = .int i/\SqL K H p xs/\atI xs i=some v/\Q v H
def rIxT (K:PySem.W.Frag):R2:=fun x y H Q=>∃ p xs i v,x = .ref p/\y = .int i/\SqT K H p xs/\atI xs i=some v/\Q v H
def rIxS:R2:=fun x y H Q=>∃ z i c,x = .str z/\y = .int i/\z.length<=sizeLine/\atI z.cps.toList i=some c/\Q (.str ⟨#[c]⟩) H
theorem qBe:IxR X (rIxL X.K):=by
 intro value slice pins s σ H x y v u Q I rx ry h hs;obtain⟨p,xs,i,z,rfl,rfl,hq,he,q⟩:=h;cases rx;obtain⟨t,rfl⟩:=ry;obtain⟨its,r,pl,hz⟩:=I.list hq;obtain⟨j,h1,h2,h3,h4,h5⟩:=atI_get he;obtain⟨w,ew,rw'⟩:=r.get h2;have hl:=r.length;have hn:=line63;have fin:EP X pins σ Q w s:=⟨z,H,I,rw',q⟩;by_cases h0:0<=i
 ·have hj:i.toNat=j:=by
   rw[seqIndex_of h0 h5]at h1;exact hAu h1
  exact item_listR pl.isList h0 (by omega) (by rw[hj];simpa using ew) fin hs
 ·have hj:(i+(its.toArray.size:Int)).toNat=j:=by
   rw[seqIndex_neg (by omega) h4]at h1;rw[hAa,<-hl];exact hAu h1
  exact subscriptTail_builtinR (x:=w) pl.isList.typeIs slot_list_getitem.lookup
   (wpAny_getItem_list_neg (Q:=fun r s'=>r=w/\EP X pins σ Q r s') pl.isList (by omega) (by rw[hAa] <;> omega) (by omega) (by rw[hj];simpa using ew) ⟨rfl,fin⟩) hs
theorem qGl:IxR X (rIxT X.K):=by
 intro value slice pins s σ H x y v u Q I rx ry h hs;obtain⟨p,xs,i,z,rfl,rfl,hq,he,q⟩:=h;cases rx;obtain⟨t,rfl⟩:=ry;obtain⟨its,r,pl,hz⟩:=I.tuple hq;obtain⟨j,h1,h2,h3,h4,h5⟩:=atI_get he;obtain⟨w,ew,rw'⟩:=r.get h2;have hl:=r.length;have hn:=line63;have fin:EP X pins σ Q w s:=⟨z,H,I,rw',q⟩;exact subscriptTail_builtinR (x:=w) pl.typeIs slot_tuple_getitem.lookup
  (getItem_tuple (j:=j) (Q:=fun r s'=>r=w/\EP X pins σ Q r s') pl (by omega) (by omega) (by rw[hAa,<-hl];exact h1) (by simpa using ew) ⟨rfl,fin⟩) hs
theorem ix_str:IxR X rIxS:=by
 intro value slice pins s σ H x y v u Q I rx ry h hs;obtain⟨z,i,c,rfl,rfl,hz,he,q⟩:=h;obtain⟨t,rfl⟩:=rx;obtain⟨t',rfl⟩:=ry;obtain⟨j,h1,h2,h3,h4,h5⟩:=atI_get he;have hl:z.cps.toList.length=z.length:=by simp[Str.length]
 rw[hl]at h1 h4 h5;have hn:=line63;exact tail_any (typeIs_str s z t) slot_str_getitem.lookup (getItem_str (c:=c) (by
  have e1:decide (i < -(2^63:Int))=false:=decide_eq_false (by omega);have e2:decide (i >= 2^63)=false:=decide_eq_false (by omega);rw[e1,e2,Bool.or_false]) (by rw[h1];simpa using h2) ⟨.str ⟨#[c]⟩,H,I.tok _,⟨_,rfl⟩,q⟩) hs
theorem mapSeq_set (its:List Value) (n j:Nat) (u:Value):Obj.mapSeq (·.setIfInBounds j u) { cls:=.type "list",data:=.seq its.toArray n }={ cls:=.type "list",data:=.seq (its.set j u).toArray n }:=by
 simp[Obj.mapSeq]
theorem Inv.lst {pins:List (Addr×Obj)} {σ:St} {H:Hp} {s:Shared} {p:Addr} {xs:List V} (I:Inv X pins σ H s) (h:H p=some (.lst xs)) :
  ∃ (its:List Value) (n:Nat),qA9 xs its/\s.heap.get? p=some { cls:=.type "list",data:=.seq its.toArray n }/\xs.length<=sizeLine:=by
 obtain⟨z,its,n,r,e⟩:=I.hok p _ h;exact⟨its,n,r,e,z⟩
theorem Inv.lstUpd {pins:List (Addr×Obj)} {σ:St} {H:Hp} {s:Shared} {p:Addr} {xs ys:List V} {its its':List Value} {n n':Nat} {f:Obj->Obj} (I:Inv X pins σ H s) (h:H p=some (.lst xs))
  (ho:s.heap.get? p=some { cls:=.type "list",data:=.seq its.toArray n }) (hf:f { cls:=.type "list",data:=.seq its.toArray n }={ cls:=.type "list",data:=.seq its'.toArray n' }) (r:qA9 ys its') (hz:ys.length<=sizeLine) (t:Nat) :
  Inv X pins σ (upd H p (.lst ys)) { s with heap:=s.heap.update p f,toks:=t }:=by
 have e:(s.heap.update p f).get? p=some { cls:=.type "list",data:=.seq its'.toArray n' }:=by
  rw[Heap.get?_update_self f ho (by rw[hf] <;> rfl),hf]
 refine I.write (x:=p) (e:=p) (by rw[h];trivial) (.inl rfl) (fun b u hb q=>(Heap.get?_update_other _ _ (Ne.symm hb)).trans q) ⟨_,e⟩ ?_;exact⟨hz,its',n',r,e⟩
def rSetL:V->V->V->Hp->(Hp->Prop)->Prop:=fun o i v H Q=>∃ p xs k j,o = .ref p/\i = .int k/\H p=some (.lst xs)/\ixN xs.length k=some j/\Q (upd H p (.lst (xs.set j v)))
theorem qFn:PSet X rSetL:=by
 intro pins s σ H o i v ov iv u Q I ro ri rv h;obtain⟨p,xs,k,j,rfl,rfl,hp,hj,q⟩:=h;cases ro;obtain⟨t,rfl⟩:=ri;obtain⟨its,n,r,ho,hz⟩:=I.lst hp;obtain⟨h1,h2,h3,h4⟩:=ixN_seq hj;have hl:=r.length;have hn:=line63;have I':Inv X pins σ (upd H p (.lst (xs.set j v))) { s with heap:=s.heap.update p (Obj.mapSeq (·.setIfInBounds j u)) } :=
  I.lstUpd hp ho (mapSeq_set its n j u) (r.set rv j) (by rw[hDa];exact hz) s.toks
 by_cases h0:0<=k
 ·have hk:k.toNat=j:=by
   rw[seqIndex_of h0 h4]at h1;exact hAu h1
  exact PySem.W.ki_setAt ho h0 (by omega) (by rw[hAa,<-hl];exact h4) (by rw[hk];exact⟨_,I',q⟩)
 ·have hk:(k+(its.toArray.size:Int)).toNat=j:=by
   rw[seqIndex_neg (by omega) h3]at h1;rw[hAa,<-hl];exact hAu h1
  exact PySem.W.ki_setBack ho (by omega) (by rw[hAa,<-hl];exact h3) (by omega) (by rw[hk];exact⟨_,I',q⟩)
theorem slice_bounds (lo hi:Option Int) (n:Nat):(sliceBounds lo hi none n).1=((HT.sIx n 0 lo:Nat):Int)/\(sliceBounds lo hi none n).2.1=((HT.sIx n n hi:Nat):Int)/\(sliceBounds lo hi none n).2.2=1:=by
 refine⟨?_,?_,rfl⟩
 ·cases lo with
  | none=>simp[sliceBounds,HT.sIx]
  | some i =>
   simp only[sliceBounds,HT.sIx,Option.getD_none,show(1:Int) > 0 by decide,if_true];by_cases h:i<0
   ·simp only[h,if_true] <;> omega
   ·simp only[h,if_false] <;> omega
 ·cases hi with
  | none=>simp[sliceBounds,HT.sIx]
  | some i =>
   simp only[sliceBounds,HT.sIx,Option.getD_none,show(1:Int) > 0 by decide,if_true];by_cases h:i<0
   ·simp only[h,if_true] <;> omega
   ·simp only[h,if_false] <;> omega
theorem slicePick_cut (its:List Value) (lo hi:Option Int):slicePick its.toArray lo hi none=((its.drop (HT.sIx its.length 0 lo)).take (HT.sIx its.length its.length hi - HT.sIx its.length 0 lo)).toArray:=by
 obtain⟨h1,h2,h3⟩:=slice_bounds lo hi its.toArray.size;unfold slicePick;rw[h1,h2,h3];simp only[sliceRange_one,pick_run,hAa] <;> rfl
def rSlL (K:PySem.W.Frag):V->Option Int->Option Int->Hp->VK->Prop:=fun x lo hi H Q=>∃ a xs,x = .ref a/\SqL K H a xs/\∀ p,H p=none->Q (.ref p) (upd H p (.lst (cutV xs lo hi)))
theorem sl_list:SlR X (rSlL X.K):=by
 intro pins s σ H x v vl vu lo hi sl Q I rx hs pl pu h;obtain⟨a,xs,rfl,hx,q⟩:=h;cases rx;obtain⟨its,r,ht,hz⟩:=I.list hx;have hlen:=r.length;refine⟨"list",_,slot_list_getitem.lookup,ht.isList.typeIs,?_⟩;refine wpAny_getItem_list_slice ht.isList hs pl pu .none (by simp) ?_ (by rw[hAa] <;> omega);rw[slicePick_cut,<-hlen];refine⟨.ref s.heap.objs.size,_,I.laid (t':=s.toks) (o:=.lst (cutV xs lo hi)) (fun b ob q=>Heap.get?_push_of_some _ q) (hA5 _) ?_,rfl,q _ (I.hok.fresh (hA5 _))⟩;exact⟨hAr (cutV_length xs lo hi) hz,_,0,(r.drop (HT.sIx xs.length 0 lo)).take (HT.sIx xs.length xs.length hi - HT.sIx xs.length 0 lo),Heap.get?_push_size _ rfl⟩
noncomputable def qGy:V->Bool
 | .non=>true
 | .bl _=>true
 | .int _=>true
 | .str _=>true
 | _=>false
noncomputable def eqV:V->V->Bool
 | .non,.non=>true
 | .bl a,.bl b=>a == b
 | .bl a,.int b=>(if a then 1 else 0) == b
 | .int a,.bl b=>a == (if b then 1 else 0)
 | .int a,.int b=>a == b
 | .str a,.str b=>a == b
 | _,_=>false
theorem eqAt_V (ry:qBp y u) (rx:qBp x v) (fy:qGy y=true) (fx:qGy x=true):SeqAt.EqAt A s u v (eqV y x):=by
 cases y with
 | non =>
  cases ry;cases x with
  | non=>cases rx;exact SeqAt.EqAt.same _
  | bl b=>cases rx;exact SeqAt.EqAt.none_bool b
  | int b=>obtain⟨t,rfl⟩:=rx;exact SeqAt.EqAt.none_int b t
  | str b=>obtain⟨t,rfl⟩:=rx;exact SeqAt.EqAt.none_str b t
  | _=>exact absurd (show false=true from fx) hB1
 | bl a =>
  cases ry;cases x with
  | non=>cases rx;exact SeqAt.EqAt.bool_none a
  | bl b=>cases rx;exact SeqAt.EqAt.bool_bool a b
  | int b=>obtain⟨t,rfl⟩:=rx;exact SeqAt.EqAt.bool_int a b t
  | str b=>obtain⟨t,rfl⟩:=rx;exact SeqAt.EqAt.bool_str a b t
  | _=>exact absurd (show false=true from fx) hB1
 | int a =>
  obtain⟨t',rfl⟩:=ry;cases x with
  | non=>cases rx;exact SeqAt.EqAt.int_none a t'
  | bl b=>cases rx;exact SeqAt.EqAt.int_bool a t' b
  | int b=>obtain⟨t,rfl⟩:=rx;exact SeqAt.EqAt.int_int a t' b t
  | str b=>obtain⟨t,rfl⟩:=rx;exact SeqAt.EqAt.int_str a t' b t
  | _=>exact absurd (show false=true from fx) hB1
 | str a =>
  obtain⟨t',rfl⟩:=ry;cases x with
  | non=>cases rx;exact SeqAt.EqAt.str_none a t'
  | bl b=>cases rx;exact SeqAt.EqAt.str_bool a t' b
  | int b=>obtain⟨t,rfl⟩:=rx;exact SeqAt.EqAt.str_int a t' b t
  | str b=>obtain⟨t,rfl⟩:=rx;exact SeqAt.EqAt.str_str a t' b t
  | _=>exact absurd (show false=true from fx) hB1
 | _=>exact absurd (show false=true from fy) hB1
noncomputable def eqU (x:V) (u:Value):Bool:=match u with
 | .none=>eqV .non x
 | .bool b=>eqV (.bl b) x
 | .int i _=>eqV (.int i) x
 | .str z _=>eqV (.str z) x
 | _=>false
theorem eqU_of (r:qBp y u) (f:qGy y=true):eqU x u=eqV y x:=by
 cases y with
 | non=>cases r;rfl
 | bl b=>cases r;rfl
 | int i=>obtain⟨t,rfl⟩:=r;rfl
 | str z=>obtain⟨t,rfl⟩:=r;rfl
 | _=>exact absurd (show false=true from f) hB1
theorem qGs:∀ {xs:List V} {us:List Value},qA9 xs us->xs.all qGy=true->us.any (eqU x)=xs.any fun y=>eqV y x
 | _,_,.nil,_=>rfl
 | y :: xs,u :: us,.cons r t,f=>by
  rw[List.all_cons,hBo]at f;rw[hCx,hCx,eqU_of r f.1,qGs t f.2]
theorem qEh (rx:qBp x v) (fx:qGy x=true):∀ {xs:List V} {us:List Value},qA9 xs us->xs.all qGy=true->∀ u∈us,SeqAt.EqAt A s u v (eqU x u)
 | _,_,.nil,_=>fun u hu=>by cases hu
 | y :: xs,u :: us,.cons r t,f=>fun u' hu=>by
  rw[List.all_cons,hBo]at f;rcases hAh.mp hu with rfl | hu
  ·rw[eqU_of r f.1];exact eqAt_V r rx f.1 fx
  ·exact qEh rx fx t f.2 u' hu
noncomputable def inV (x:V) (xs:List V):Bool:=xs.any fun y=>eqV y x
def rIn (K:PySem.W.Frag) (neg:Bool):R2:=fun x y H Q=>∃ p xs,y = .ref p/\(SqL K H p xs\/SqT K H p xs)/\qGy x=true/\xs.all qGy=true/\Q (.bl (if neg then !inV x xs else inV x xs)) H
theorem op_in_seq:OpR X (compareOp .In) (rIn X.K false):=by
 intro pins s σ H x y v u Q I rx ry h;obtain⟨p,xs,rfl,hq,fx,fs,q⟩:=h;cases ry;rcases hq with hq | hq
 ·obtain⟨its,r,pl,hz⟩:=I.list hq;refine SeqAt.in_listAt (eqU x) pl.isList (fun w hw=>qEh rx fx r fs w (by simpa using hw)) ⟨.bl _,H,I,rfl,?_⟩;rw[show its.toArray.any (eqU x)=its.any (eqU x) by simp,qGs r fs];exact q
 ·obtain⟨its,r,pl,hz⟩:=I.tuple hq;refine SeqAt.in_tupleAt (eqU x) pl (fun w hw=>qEh rx fx r fs w (by simpa using hw)) ⟨.bl _,H,I,rfl,?_⟩;rw[show its.toArray.any (eqU x)=its.any (eqU x) by simp,qGs r fs];exact q
theorem qDb:OpR X (compareOp .NotIn) (rIn X.K true):=by
 intro pins s σ H x y v u Q I rx ry h;obtain⟨p,xs,rfl,hq,fx,fs,q⟩:=h;cases ry;rcases hq with hq | hq
 ·obtain⟨its,r,pl,hz⟩:=I.list hq;refine SeqAt.notIn_listAt (eqU x) pl.isList (fun w hw=>qEh rx fx r fs w (by simpa using hw)) ⟨.bl _,H,I,rfl,?_⟩;rw[show its.toArray.any (eqU x)=its.any (eqU x) by simp,qGs r fs];exact q
 ·obtain⟨its,r,pl,hz⟩:=I.tuple hq;refine SeqAt.notIn_tupleAt (eqU x) pl (fun w hw=>qEh rx fx r fs w (by simpa using hw)) ⟨.bl _,H,I,rfl,?_⟩;rw[show its.toArray.any (eqU x)=its.any (eqU x) by simp,qGs r fs];exact q
theorem qAi:qB9 X (.builtin "len") (fun xs H Q=>∃ p ys,xs=[.ref p]/\(SqL X.K H p ys\/SqT X.K H p ys)/\Q (.int ys.length) H):=by
 intro pins s σ H xs us Q I r h;obtain⟨p,ys,rfl,hq,q⟩:=h;obtain⟨u,rfl,rx⟩:=qCs r;cases rx;have hn:=line63;rcases hq with hq | hq
 ·obtain⟨its,r',pl,hz⟩:=I.list hq;have hlen:=r'.length;exact Calls.call_len_list pl.isList (by simp only[hAa] <;> omega) ⟨.int ys.length,H,I.tok _,⟨s.toks+1,by rw[hAa,hlen]⟩,q⟩
 ·obtain⟨its,r',pl,hz⟩:=I.tuple hq;have hlen:=r'.length;exact len_tuple pl (by simp only[hAa] <;> omega) ⟨.int ys.length,H,I.tok _,⟨s.toks+1,by rw[hAa,hlen]⟩,q⟩
theorem qCg:qB9 X (.type "list") (fun xs H Q=>∃ p ys,xs=[.ref p]/\(SqL X.K H p ys\/SqT X.K H p ys)/\∀ l,H l=none->Q (.ref l) (upd H l (.lst ys))):=by
 intro pins s σ H xs us Q I r h;obtain⟨p,ys,rfl,hq,q⟩:=h;obtain⟨u,rfl,rx⟩:=qCs r;cases rx;have fin:∀ (its:List Value),qA9 ys its->ys.length<=sizeLine->∀ (h':Heap) (c':Nat),(∀ b o',s.heap.get? b=some o'->h'.get? b=some o') ->
   h'.get? s.heap.objs.size=some { cls:=.type "list",dict:=none,data:=.seq its.toArray c',slots:=#[] }->EP X pins σ Q (.ref s.heap.objs.size) { s with heap:=h' }:=fun its r' hz h' c' kp e =>
  ⟨.ref s.heap.objs.size,_,I.laid (t':=s.toks) kp (hA5 _) (show qBq X.prog X.w _ h' _ (.lst ys) from ⟨hz,its,c',r',e⟩),rfl,q _ (I.hok.fresh (hA5 _))⟩
 rcases hq with hq | hq
 ·obtain⟨its,r',pl,hz⟩:=I.list hq;have hlen:=r'.length;obtain⟨o,ho,hc,n,hd⟩:=pl.isList;exact call_list_seq p (.inl rfl) ho hc hd (fun h' c' kp e=>fin its r' hz h' c' kp e) (by simp only[hAa] <;> omega)
 ·obtain⟨its,r',pl,hz⟩:=I.tuple hq;have hlen:=r'.length;obtain⟨o,ho,hc,n,hd⟩:=pl;exact call_list_seq p (.inr rfl) ho hc hd (fun h' c' kp e=>fin its r' hz h' c' kp e) (by simp only[hAa] <;> omega)
def tyV (K:PySem.W.Frag) (T:String) (x:V) (H:Hp):Prop:=match x with
 | .str _=>T = "str"
 | .int _=>T = "int"
 | .ref p=>(T = "list"/\∃ xs,SqL K H p xs)\/(T = "tuple"/\∃ o,K.lookup p=some o/\o.cls = .type "tuple"/\o.dict=none) \/
   (T = "dict"/\((∃ kvs,H p=some (.dK kvs))\/∃ kvs,H p=some (.dT kvs)))\/(T = "set"/\∃ S n,H p=some (.set S n))
 | _=>False
theorem tyV_is (I:Inv X pins σ H s) (r:qBp x v) (ty:tyV X.K T x H) :
  s.TypeIs v T/\∀ a,v = .ref a->∃ ob,s.heap.get? a=some ob/\ob.dict=none:=by
 cases x with
 | str z =>
  obtain⟨t,rfl⟩:=r;cases(show T = "str" from ty);exact⟨typeIs_str s z t,fun _ e=>nomatch e⟩
 | int i =>
  obtain⟨t,rfl⟩:=r;cases(show T = "int" from ty);exact⟨typeIs_int s i t,fun _ e=>nomatch e⟩
 | ref p =>
  cases r;rcases ty with ⟨rfl,xs,hq⟩ | ⟨rfl,o,hk,hc,hd⟩ | ⟨rfl,hk⟩ | ⟨rfl,S,n,hk⟩
  ·obtain⟨its,_,pl,_⟩:=I.list hq;refine⟨pl.isList.typeIs,fun a e=>?_⟩;cases e;obtain⟨o,n,e,c,hd,_⟩:=pl;exact⟨o,e,hd⟩
  ·refine⟨⟨o,I.kIn p o hk,hc⟩,fun a e=>?_⟩;cases e;exact⟨o,I.kIn _ o hk,hd⟩
  ·have z:∃ o,s.heap.get? p=some o/\o.ExactDict:=by
    rcases hk with ⟨kvs,hk⟩ | ⟨kvs,hk⟩
    ·obtain⟨_,_,_,_,o,_,_,e,ex,_⟩:=I.hok p _ hk;exact⟨o,e,ex⟩
    ·obtain⟨_,_,_,_,o,_,_,e,ex,_⟩:=I.hok p _ hk;exact⟨o,e,ex⟩
   obtain⟨o,e,ex⟩:=z;refine⟨⟨o,e,ex.1⟩,fun a e2=>?_⟩;cases e2;exact⟨o,e,ex.2.1⟩
  ·obtain⟨o,_,_,_,e,ex,_⟩:=I.hok p _ hk;refine⟨⟨o,e,ex.1⟩,fun a e2=>?_⟩;cases e2;exact⟨o,e,ex.2.1⟩
 | _=>exact False.elim ty
def tBM0 (K:PySem.W.Frag) (T:String) (r:V->List V->Hp->VK->Prop) (to:TE):TE:=fun σ H Q=>to σ H fun x H1=>tyV K T x H1/\r x [] H1 Q
def tBM (K:PySem.W.Frag) (T:String) (r:V->List V->Hp->VK->Prop) (to:TE) (t:TA):TE:=fun σ H Q=>to σ H fun x H1=>tyV K T x H1/\t σ H1 fun xs H2=>r x xs H2 Q
variable {o e:Expr} {es:List Expr} {to:TE} {t:TA} {name:Str} {apos cpos:Pos} {T id:String} {r:V->List V->Hp->VK->Prop}
theorem pe_bm0 (pa:PlainAttrs T) (slot:Slot T name id) (hty:typeOf (.builtin id)=pure (.type "method_descriptor")) (hm:MtR X id r) (ho:PE X o to)
  (hbase:attributeBase o name X.env (eval o X.env)=eval o X.env:=by rfl) (hline:(apos.endLine == cpos.line)=true:=by rfl):PE X (.Call (.Attribute o name apos) [] [] cpos) (tBM0 X.K T r to):=by
 intro pins s σ H Q I h;refine wpAny_Call_method0_late hbase hline (thn (ho pins s σ H _ I h) fun v s1 ⟨x,H1,I1,r1,ty,q1⟩=>?_);obtain⟨h1,h2⟩:=tyV_is I1 r1 ty;exact⟨T,id,pa,slot,hty,h1,h2,Calls.callWith_builtin rfl (PySem.evalArgs_none (hm pins s1 σ H1 x [] v [] Q I1 r1 .nil q1))⟩
theorem pe_bm (pa:PlainAttrs T) (slot:Slot T name id) (hty:typeOf (.builtin id)=pure (.type "method_descriptor")) (hm:MtR X id r) (ho:PE X o to) (ha:PA X (e :: es) t)
  (hbase:attributeBase o name X.env (eval o X.env)=eval o X.env:=by rfl)
  (hfew:((backTo cpos (starEach (e :: es) X.env)).all (fun x=>!x.1) && (backToKw cpos (keywordEach [] X.env)).all (fun x=>x.1.isSome)
   && decide ((e :: es).length+([]:List Keyword).length+(if ([]:List Keyword).isEmpty then 0 else 1)<30))=true:=by rfl)
  (hline:(apos.endLine == cpos.line)=true:=by rfl) (hs:starEach (e :: es) X.env=(false,eval e X.env) :: starEach es X.env:=by rfl) (hplain:(backTo cpos (starEach es X.env)).any (·.1)=false:=by rfl) :
  PE X (.Call (.Attribute o name apos) (e :: es) [] cpos) (tBM X.K T r to t):=by
 intro pins s σ H Q I h;refine wpAny_Call_method_late hbase hfew hline rfl (thn (ho pins s σ H _ I h) fun v s1 ⟨x,H1,I1,r1,ty,q1⟩=>?_);obtain⟨h1,h2⟩:=tyV_is I1 r1 ty;refine⟨T,id,pa,slot,hty,h1,h2,?_⟩;have hA:=ha cpos pins s1 σ H1 _ I1 q1;rw[hs]at hA ⊢;refine Calls.callWith_builtin (by show(false || (backTo cpos (starEach es X.env)).any (·.1))=false;rw[hplain] <;> rfl) (Calls.evalArgs_plain ?_);exact thn hA fun us s2 ⟨vs,H2,I2,r2,q2⟩=>hm pins s2 σ H2 x vs v us Q I2 r1 r2 q2
end
end L2
namespace L2
open PySem PySem.Spec PyProof.Rows
def MtM (X:Cx) (id:String) (r:V->List V->Hp->VK->Prop):Prop :=
 ∀ (pins:List (Addr×Obj)) (s:Shared) (σ:St) (H:Hp) (x:V) (xs:List V) (v:Value) (us:List Value) (Q:VK),Inv X pins σ H s->qBp x v->qA9 xs us->r x xs H Q ->
  wpAny (model X.prog X.w) X.A (call (.builtin id) (v :: us)) (EP X pins σ Q) X.xe s
theorem qA9.one:∀ {x:V} {us:List Value},qA9 [x] us->∃ u,us=[u]/\qBp x u
 | _,_,.cons r .nil=>⟨_,rfl,r⟩
theorem qA9.zero:∀ {us:List Value},qA9 [] us->us=[]
 | _,.nil=>rfl
theorem qA9.eraseIdx:∀ {xs:List V} {us:List Value} (i:Nat),qA9 xs us->qA9 (xs.eraseIdx i) (us.eraseIdx i)
 | _,_,_,.nil=>.nil
 | _,_,0,.cons _ t=>t
 | _,_,i+1,.cons r t=>.cons r (qA9.eraseIdx i t)
theorem len_erase:∀ (l:List α) (i:Nat),(l.eraseIdx i).length<=l.length
 | [],_=>hA5 _
 | _ :: _,0=>hBl _
 | _ :: r,i+1=>hCt (len_erase r i)
theorem foldl_rep (its:List Value):∀ (k:Nat) (acc:List Value),
  List.foldl (fun x1 x2=>x1++x2) acc.toArray (List.replicate k its.toArray)=(acc++(List.replicate k its).flatten).toArray
 | 0,acc=>by simp
 | k+1,acc=>by
  have e:acc.toArray++its.toArray=(acc++its).toArray:=by simp
  have e2:(acc++its)++(List.replicate k its).flatten=acc++(List.replicate (k+1) its).flatten:=by
   rw[hDi,List.flatten_cons,hBj]
  rw[<-e2,<-foldl_rep its k (acc++its),<-e,hDi,List.foldl_cons]
section
variable {X:Cx} {pins:List (Addr×Obj)} {σ:St} {H:Hp} {s:Shared} {l b:Addr} {xs ys zs:List V}
theorem Inv.lset {its its':List Value} {n:Nat} {f:Array Value->Array Value} {t':Nat} (I:Inv X pins σ H s) (hH:H l=some (.lst xs))
  (e:s.heap.get? l=some { cls:=.type "list",data:=.seq its.toArray n }) (hf:f its.toArray=its'.toArray) (hv:qA9 ys its') (hz:ys.length<=sizeLine) :
  Inv X pins σ (upd H l (.lst ys)) { s with heap:=s.heap.update l (Obj.mapSeq f),toks:=t' }:=by
 have q:=PySem.IsL.update e f;rw[hf]at q;refine I.write (x:=l) (e:=l) (by rw[hH];exact trivial) (.inl rfl) (fun b' u hb hu=>(Heap.get?_update_other s.heap (Obj.mapSeq f) (Ne.symm hb)).trans hu) ⟨_,q⟩ ?_;exact⟨hz,its',_,hv,q⟩
theorem Inv.lnew (I:Inv X pins σ H s) (hv:qA9 ys its) (hz:ys.length<=sizeLine) :
  Inv X pins σ (upd H s.heap.objs.size (.lst ys)) { s with heap:=s.heap.push { cls:=.type "list",data:=.seq its.toArray },toks:=t' } :=
 I.laid (fun _ _ q=>Heap.get?_push_of_some _ q) (hA5 _) ⟨hz,its,0,hv,Heap.get?_push_size _ rfl⟩
theorem Inv.fresh (I:Inv X pins σ H s):H s.heap.objs.size=none:=I.hok.fresh (hA5 _)
theorem Inv.lstM (I:Inv X pins σ H s) (hH:H l=some (.lst xs)):xs.length<=sizeLine/\∃ (its:List Value) (n:Nat),qA9 xs its/\xs.length=its.length/\s.heap.get? l=some { cls:=.type "list",data:=.seq its.toArray n }:=by
 obtain⟨z,its,n,r,e⟩:=I.hok l _ hH;exact⟨z,its,n,r,r.length,e⟩
end
section
variable {X:Cx}
def rAppend:V->List V->Hp->VK->Prop:=fun x vs H Q=>∃ l xs y,x = .ref l/\vs=[y]/\H l=some (.lst xs)/\xs.length<sizeLine/\Q .non (upd H l (.lst (xs++[y])))
theorem mt_append:MtM X "list.append" rAppend:=by
 intro pins s σ H x vs v us Q I rx rv h;obtain⟨l,xs,y,rfl,rfl,hH,hz,q⟩:=h;cases rx;obtain⟨u,rfl,ru⟩:=rv.one;obtain⟨z,its,n,r,hl,e⟩:=I.lstM hH;refine call_meets F.slot_list_append ⟨_,e,rfl⟩ F.entry_list_append (F.args_list_append_2 _ _) (PySem.list_append l its.toArray n u (by rw[hAa];omega)) ⟨e,?_⟩;refine⟨.non,_,I.lset (its':=its++[u]) hH e (by simp) (r.append (.cons ru .nil)) ?_,rfl,q⟩;rw[hA7,List.length_singleton];omega
def rPopAt:V->List V->Hp->VK->Prop:=fun x vs H Q=>∃ l xs i k y,x = .ref l/\vs=[.int i]/\H l=some (.lst xs)/\-(2^63)<=i/\i<2^63/\seqIndex? i xs.length=some k/\xs[k]?=some y/\Q y (upd H l (.lst (xs.eraseIdx k)))
theorem mt_popAt:MtM X "list.pop" rPopAt:=by
 intro pins s σ H x vs v us Q I rx rv h;obtain⟨l,xs,i,k,y,rfl,rfl,hH,h1,h2,hk,hy,q⟩:=h;cases rx;obtain⟨u,rfl,ru⟩:=rv.one;obtain⟨t,rfl⟩:=ru;obtain⟨z,its,n,r,hl,e⟩:=I.lstM hH;obtain⟨w,hw,rw'⟩:=r.get hy;refine call_meets F.slot_list_pop ⟨_,e,rfl⟩ F.entry_list_pop (F.args_list_pop_2 _ _)
  (MeetsSeq.list_pop_at l its.toArray n i t k w (fitsIndex_both h1 h2) (by rw[hAa,<-hl];exact hk) (by rw[<-hBa];exact hw) (by rw[hAa];omega)) ⟨e,?_⟩
 refine⟨y,_,I.lset (its':=its.eraseIdx k) hH e ?_ (r.eraseIdx k) ?_,rw',q⟩
 ·show its.toArray.eraseIdxIfInBounds k=(its.eraseIdx k).toArray;rw[List.eraseIdxIfInBounds_toArray]
 ·have:=len_erase xs k;omega
def rClear:V->List V->Hp->VK->Prop:=fun x vs H Q=>∃ l xs,x = .ref l/\vs=[]/\H l=some (.lst xs)/\Q .non (upd H l (.lst []))
theorem mt_clear:MtM X "list.clear" rClear:=by
 intro pins s σ H x vs v us Q I rx rv h;obtain⟨l,xs,rfl,rfl,hH,q⟩:=h;cases rx;have hus:=rv.zero;subst hus;obtain⟨z,its,n,r,hl,e⟩:=I.lstM hH;refine call_meets F.slot_list_clear ⟨_,e,rfl⟩ F.entry_list_clear (F.args_list_clear_1 _) (AutoSeq1.list_clear_list_0 l its.toArray n (by rw[hAa];omega)) ⟨e,?_⟩;exact⟨.non,_,I.lset (its':=[]) (ys:=[]) hH e rfl .nil (hAp _),rfl,q⟩
def rCat:R2:=fun x y H Q=>∃ l b xs zs,x = .ref l/\y = .ref b/\H l=some (.lst xs)/\H b=some (.lst zs)/\xs.length+zs.length<=sizeLine/\∀ p,H p=none->Q (.ref p) (upd H p (.lst (xs++zs)))
theorem qCf:OpR X (binaryOp .Add) rCat:=by
 intro pins s σ H x y v u Q I rx ry h;obtain⟨l,b,xs,zs,rfl,rfl,hH,hB,hz,q⟩:=h;cases rx;cases ry;obtain⟨z,its,n,r,hl,e⟩:=I.lstM hH;obtain⟨z2,its2,n2,r2,hl2,e2⟩:=I.lstM hB;refine PySem.P.add_list e e2 ?_ (by rw[hAa,hAa];omega);have ea:its.toArray++its2.toArray=(its++its2).toArray:=by simp
 rw[ea];exact⟨.ref _,_,I.lnew (t':=s.toks) (r.append r2) (by rw[hA7];omega),rfl,q _ I.fresh⟩
end
end L2
namespace Att
open PySem PySem.W PySem.Calls PyProof.Rows
theorem qGm:∀ (ns:List Int) (vs:List Value),WellAll P h vs (ns.map WData.int)->IntsAre vs ns:=by
 intro ns
 induction ns with
 | nil =>
  intro vs w;rw[List.map_nil]at w;cases w;exact .nil
 | cons n ns ih =>
  intro vs w;rw[hBf]at w;cases w with
  | cons a b =>
   cases a;exact .cons _ _ (ih _ b)
theorem script_of {l:OpenLaw} {n:Nat} (hn:l.most=some n) {P:Params} {h:Heap} {args:List WData} {vals:List Value}
  (hpre:l.row.toRowW.claim.pre args=true) (hwl:WellAll P h vals args) :
  ∃ a vs ns,vals=[Value.ref a]/\args=[WData.list (ns.map WData.int)]/\h.get? a=some { cls:=.type "list",data:=.seq vs.toArray }/\IntsAre vs ns/\ns.length<=n:=by
 have hsh:WShape.hasAll [] args [.list .int]=true:=(pre_splitW hpre).1;have hc:l.pre.holds [] { args:=args }=true:=(pre_splitW hpre).2;obtain⟨d,r,rfl,h1,h2⟩:=hasAllW_cons hsh;obtain rfl:=hasAllW_nil h2;obtain⟨xs,rfl,h3⟩:=hasW_list h1;obtain⟨ns,rfl⟩:=items_int h3;have hlen:ns.length<=n:=by
  unfold OpenLaw.pre at hc;have h4:(WTm.not (.lt (.lit (.int (n:Int))) (.len (.arg 0)))).holds [] { args:=[.list (ns.map .int)] }=true:=by
   have h4:=(holds_andW hc).1;rw[hn]at h4;exact h4
  have h5:=condW_of h4 (w_not (w_lt w_lit (w_len_list (w_arg rfl))));rw[hA1]at h5;refine Nat.le_of_not_lt fun q=>?_
  have q':(n:Int)<((ns.length:Nat):Int):=by omega
  first
   | (rw[decide_eq_true q']at h5;exact absurd h5 (by decide))
   | (simp at h5;omega)
 cases hwl with
 | cons w1 w2 =>
  cases w2;cases w1 with
  | list ho hall=>exact⟨_,_,ns,rfl,rfl,ho,qGm ns _ hall,hlen⟩
theorem post_true (l:OpenLaw) (args:List WData):l.row.toRowW.claim.post args (.bool true) args=true :=
 postW_of (r:=l.row.toRowW) (X:=(true == true))
  (show WShape.has [] (.bool true) .bool=true by first | rfl | decide | simp[WShape.has,WShape.arms,WShape.armsAll])
  (show(WTm.eq .res (.lit (.bool true))).value [] { args:=args,res:=some (.bool true),after:=args }=some (.bool (true == true)) from w_eq_bool (w_res rfl) w_lit) rfl
theorem attach_call {l:OpenLaw} {n:Nat} {q:Program} {loose:List Str} {XP:(Str->Option Value)->Heap->Prop} {YP:World->Heap->Prop} {d:DefRec}
  (hn:l.most=some n) (hdf:d.params.defaults=[])
  (call:∀ (w:World) (s₀ s₁:Shared) (mg mb:Str->Option Value) (fa:Addr) (o:Obj) (pm cd doc:Value) (a:Addr) (vs:List Value) (ns:List Int),
   Ground q loose [] XP w s₀ mg mb s₁.heap->YP w s₁.heap ->
   s₁.heap.get? fa=some o->o.data = .func (docDef d.name d.params d.body d.scope pm cd doc)->s₁.heap.CodeRec cd d.name->mg d.name=some (.ref fa) ->
   s₁.heap.get? a=some { cls:=.type "list",data:=.seq vs.toArray }->IntsAre vs ns->ns.length<=n->s₁.gens=#[] ->
   codeAny (model l.prog w) callerA (.call (.ref fa) ⟨[.ref a],[]⟩) (fun r s'=>r = .ok (.ret (.bool true))/\OldK s₁.heap s'.heap/\s'.os=s₁.os/\AllBare s'.gens) s₁) :
  WalkO q loose XP YP l.row.toRowW d [] (fun f vs=>PySem.call f vs):=by
 intro w s₀ s₁ mg mb G Y fa o pm cd doc dV kV ho hd hcd hD hmg hg args vals as hpre hlay hrd hwl hlo;obtain rfl:dV = .none:=Dflts.none hD hdf;obtain rfl:kV = .none:=Dflts.noKw hD;obtain⟨a,vs,ns,rfl,rfl,hobj,hints,hlen⟩:=script_of hn hpre hwl;refine enter_call (codeAny_mono (call w s₀ s₁ mg mb fa o pm cd doc a vs ns G Y ho (fd_plain hd) hcd hmg hobj hints hlen hg) fun r s' hq=>?_);obtain⟨rfl,h2,h3,h4⟩:=hq;exact⟨.inl ⟨.bool true,.bool true,[],rfl,fun _=>rfl,.bool true,post_true l _,fun _=>⟨List.Pairwise.nil,fun _ hm=>(nomatch hm)⟩⟩,h2,h3,h4⟩
section
variable {prog:Program} {w:World} {A:Around} {E:Value->Shared->Prop} {s:Shared} {K:Frag}
noncomputable def ledger (h:Heap) (L d:Addr):List (Addr×Obj):=(List.range h.objs.size).filterMap fun a=>if a=L\/a=d then none else (h.get? a).map fun o=>(a,o)
end
end Att
namespace L2
open PySem PySem.Spec PyProof.Rows
theorem qFw:∀ {vs:List Value} {ns:List Int},IntsAre vs ns->qA9 (ns.map V.int) vs
 | _,_,.nil=>.nil
 | _,_,.cons n t h=>.cons ⟨t,rfl⟩ (qFw h)
end L2
namespace L2
open PySem PySem.Spec PyProof.Rows
noncomputable def qAr (s:Stmt):Arguments:=match s with
 | .FunctionDef _ a _ _ _ _ _ _ _ _=>a
 | _=>{ posonlyargs:=[],args:=[],vararg:=none,kwonlyargs:=[],kw_defaults:=[],kwarg:=none,defaults:=[] }
noncomputable def qAl (s:Stmt):List Stmt:=match s with
 | .FunctionDef _ _ b _ _ _ _ _ _ _=>b
 | _=>[]
noncomputable def qAb (s:Stmt):Scope:=match s with
 | .FunctionDef _ _ _ _ _ _ sc _ _ _=>sc
 | _=>{ kind:=.function,names:=[],isGenerator:=false,isCoroutine:=false }
abbrev CX0:CXT:=fun _ _ _ _ _ _=>False
abbrev E0:XK:=fun _ _ _=>False
theorem qAo:Passes CX0 X E0:=fun _ _ _ _ _ _ _ h=>h.elim
structure Fun (K:PySem.W.Frag) (x qual:Str) (st:Stmt) (f:Addr) (fd:FuncData):Prop where
 ex:∃ (oc:Value) (od:Option Addr) (kV doc pm:Value) (an:Option Addr) (cdv ct:Value) (osl:Array (Option Value)),
  fd=PySem.W.fnOf x qual (qAr st) (qAl st) (qAb st) .none kV doc pm an cdv ct/\K.lookup f=some ⟨oc,od,.func fd,osl⟩/\PySem.W.codeIn K cdv qual=true
 kp:PySem.W.keepIn K (.ref f)=true
section
variable {P:Program} {w:World} {K:PySem.W.Frag} {mg:Str->Option Value} {base:Heap}
theorem Fun.ok {x qual:Str} {st:Stmt} {f:Addr} {fd:FuncData} {N ps:List Str} {k:Nat} {sp:Sp} (F:Fun K x qual st f fd) (S:FnScope N ps (qAb st)) (len:∀ vs H Q E,sp vs H Q E->vs.length=ps.length)
  (hbody:∀ (cdv:Value) (A:Around) (outer:List Env) (s:Shared) (H:Hp) (vs:List V) (Q:VK) (E:XK),Room k (A.deeper (envOfC qual (qAb st) s.heap.objs.size f cdv))->sp vs H Q E ->
   ∃ t,PSs (qBy CX0 P w K mg base N qual (qAb st) f cdv A outer s H E).nox (qAl st) t/\t { nx:=fun _ H'=>Q .non H',rt:=Q } (qFf N vs) H):FnOk P w K mg base CX0 (k+1) f fd ps sp:=by
 obtain⟨oc,od,kV,doc,pm,an,cdv,ct,osl,rfl,lk,hcd⟩:=F.ex;refine fn_of lk hcd S len fun A outer s H vs Q E hr hsp=>?_
 obtain⟨t,h,q⟩:=hbody cdv A outer s H vs Q E hr hsp;exact⟨t,h.nox,q⟩
theorem Fun.binds {x qual:Str} {st:Stmt} {f:Addr} {fd:FuncData} {ps:List Str} (F:Fun K x qual st f fd)
  (h:∀ (kV doc pm:Value) (an:Option Addr) (cdv ct:Value) (us:List Value),us.length=ps.length->bindArgs (PySem.W.fnOf x qual (qAr st) (qAl st) (qAb st) .none kV doc pm an cdv ct) ⟨us,[]⟩=pure (ps.zip us)):Binds K fd ps []:=by
 obtain⟨oc,od,kV,doc,pm,an,cdv,ct,osl,rfl,lk,hcd⟩:=F.ex;exact .all (h kV doc pm an cdv ct)
theorem qAv {x qual:Str} {st:Stmt} {f:Addr} {oc:Value} {od an:Option Addr} {osl:Array (Option Value)} {kV doc pm cdv ct:Value} (l:K.lookup f=some ⟨oc,od,.func (PySem.W.fnOf x qual (qAr st) (qAl st) (qAb st) .none kV doc pm an cdv ct),osl⟩)
  (c:PySem.W.codeIn K cdv qual=true) (k:PySem.W.keepIn K (.ref f)=true):Fun K x qual st f (PySem.W.fnOf x qual (qAr st) (qAl st) (qAb st) .none kV doc pm an cdv ct):=⟨⟨oc,od,kV,doc,pm,an,cdv,ct,osl,rfl,l,c⟩,k⟩
end
theorem hu_of (hr:Room k A):A.units+1<cLine:=hCy (Nat.add_le_add_left (by decide:1<=64) _) hr.units
theorem qAf (h:n<=1000):n<sizeLine:=hCy h (by decide)
section
variable {X:Cx}
theorem pv (i:Nat) (hN:X.N[i]?=some x:=by rfl) (hv:Vis X.env.scope x:=by first | exact Or.inl rfl | exact Or.inr (Or.inl rfl) | exact Or.inr (Or.inr rfl)) (hd:(x == ("__debug__" : Str))=false:=by decide)
  (hcd:(x == ("__classdict__" : Str))=false:=by decide):PE X (.Name x pos) (tVar i):=pe_var hN hv hd hcd
end
theorem iteF {A B:Prop} (h:B):if false=true then A else B:=by
 rw[if_neg hB1];exact h
theorem iteT {A B:Prop} (h:A):if true=true then A else B:=by
 rw[if_pos rfl];exact h
theorem qBw {c A B:Prop} [Decidable c] (h1:c->A) (h2:¬c->B):if c then A else B:=by
 by_cases h:c
 ·rw[if_pos h];exact h1 h
 ·rw[if_neg h];exact h2 h
end L2
set_option linter.all false
namespace L2
open PySem PySem.Spec PyProof.Rows
section
variable {κ:Type} [DecidableEq κ]
noncomputable def valV (kvs:List (κ×V)) (k:κ):Option V:=(kvs.find? fun kv=>decide (kv.1=k)).map (·.2)
noncomputable def putK (kvs:List (κ×V)) (k:κ) (v:V):List (κ×V) :=
 if (kvs.any fun kv=>decide (kv.1=k))=true then kvs.map (fun kv=>if kv.1=k then (kv.1,v) else kv) else kvs++[(k,v)]
theorem valV_pos {p:κ×V} {r:List (κ×V)} {k:κ} (e:p.1=k):valV (p :: r) k=some p.2:=by simp[valV,hDr,e]
theorem valV_neg {p:κ×V} {r:List (κ×V)} {k:κ} (e:¬p.1=k):valV (p :: r) k=valV r k:=by simp[valV,hDr,e]
theorem valV_any (k:κ):∀ kvs:List (κ×V),(kvs.any fun kv=>decide (kv.1=k))=(valV kvs k).isSome
 | []=>rfl
 | p :: r=>by
  rw[hCx];by_cases e:p.1=k
  ·simp only[valV_pos e,decide_eq_true e,Bool.true_or,Option.isSome_some]
  ·rw[valV_neg e,decide_eq_false e,Bool.false_or];exact valV_any k r
theorem qGj (kvs:List (κ×V)) (k:κ) (v:V):(putK kvs k v).length<=kvs.length+1:=by
 unfold putK;split
 ·rw[hA1];omega
 ·rw[hA7,hCi,List.length_nil];omega
theorem RelO.isSome_eq (r:RelO o u):o.isSome=u.isSome:=by
 cases o with
 | none=>cases u with
  | none=>rfl
  | some _=>exact(show False from r).elim
 | some _=>cases u with
  | none=>exact(show False from r).elim
  | some _=>rfl
theorem RelO.getD (r:RelO o u) (rd:qBp d d'):qBp (o.getD d) (u.getD d'):=by
 cases o with
 | none=>cases u with
  | none=>exact rd
  | some _=>exact(show False from r).elim
 | some _=>cases u with
  | none=>exact(show False from r).elim
  | some _=>exact r
theorem KV.val {kvs:List (κ×V)} {vs:List (κ×Value)} (r:KV kvs vs) (k:κ):RelO (valV kvs k) (valueAt vs k):=by
 unfold KV at r
 induction r with
 | nil=>exact True.intro
 | @cons p q ps qs h t ih =>
  obtain⟨h1,h2⟩:=h;by_cases e:p.1=k
  ·have e':q.1=k:=h1.symm.trans e;have b:valueAt (q :: qs) k=some q.2:=by simp[valueAt,hDr,e']
   rw[valV_pos e,b];exact h2
  ·have e':¬q.1=k:=fun z=>e (h1.trans z)
   have b:valueAt (q :: qs) k=valueAt qs k:=by simp[valueAt,hDr,e']
   rw[valV_neg e,b];exact ih
theorem KV.any (r:KV kvs vs) (k:κ):(kvs.any fun kv=>decide (kv.1=k))=vs.any fun kv=>decide (kv.1=k):=by
 unfold KV at r
 induction r with
 | nil=>rfl
 | cons h t ih=>rw[hCx,hCx,ih,h.1]
theorem KV.repl (r:KV kvs vs) (k:κ) (ry:qBp y u) :
  KV (kvs.map fun kv=>if kv.1=k then (kv.1,y) else kv) (vs.map fun kv=>if kv.1=k then (kv.1,u) else kv):=by
 unfold KV at r ⊢
 induction r with
 | nil=>exact .nil
 | @cons p q ps qs h t ih =>
  rw[hBf,hBf];refine .cons ?_ ih;obtain⟨h1,h2⟩:=h;by_cases e:p.1=k
  ·rw[if_pos e,if_pos (h1.symm.trans e)];exact⟨h1,ry⟩
  ·rw[if_neg e,if_neg (fun z=>e (h1.trans z))];exact⟨h1,h2⟩
theorem KV.put (r:KV kvs vs) (k:κ) (ry:qBp y u):KV (putK kvs k y) (stored vs k u):=by
 unfold putK stored;rw[r.any k];by_cases e:(vs.any fun kv=>decide (kv.1=k))=true
 ·rw[if_pos e,if_pos e];exact r.repl k ry
 ·rw[if_neg e,if_neg e];exact Paired.snoc r ⟨rfl,ry⟩
theorem KV.keys {kvs:List (κ×V)} {vs:List (κ×Value)} (r:KV kvs vs):kvs.map (·.1)=vs.map (·.1):=by
 unfold KV at r
 induction r with
 | nil=>rfl
 | cons h t ih=>rw[hBf,hBf,ih,h.1]
theorem KV.length (r:KV kvs vs):kvs.length=vs.length:=Paired.length r
end
theorem kV_is (r:qBp (kV k) u):(qBb P w).is k u=true:=by
 cases k with
 | inl i=>obtain⟨t,e⟩:=(show ∃ t,u=Value.int i t from r);subst e;exact mixKind_int P w i t
 | inr x=>obtain⟨t,e⟩:=(show ∃ t,u=Value.str x t from r);subst e;exact mixKind_str P w x t
theorem items_are:∀ {ks:List Key} {us:List Value},qA9 (ks.map kV) us->ItemsAre (qBb P w) ks us
 | [],_,r=>by rw[List.map_nil]at r;cases r;exact .nil
 | k :: ks,_,r=>by
  rw[hBf]at r;cases r with
  | cons h t=>exact .cons (kV_is h) (items_are t)
abbrev KT (H:Hp):List (List Key×V)->List (List Key×Addr×Value)->Prop:=Paired fun p q=>p.1=q.1/\H q.2.1=some (.tup (p.1.map kV))/\qBp p.2 q.2.2
theorem KT.val {H:Hp} {kvs:List (List Key×V)} {xs:List (List Key×Addr×Value)} (r:KT H kvs xs) (k:List Key):RelO (valV kvs k) ((atKey xs k).map (·.2)):=by
 induction r with
 | nil=>exact True.intro
 | @cons p q ps qs h t ih =>
  obtain⟨h1,_,h2⟩:=h;by_cases e:p.1=k
  ·have e':q.1=k:=h1.symm.trans e;have b:atKey (q :: qs) k=some q.2:=by simp[atKey,hDr,e']
   rw[valV_pos e,b];exact h2
  ·have e':¬q.1=k:=fun z=>e (h1.trans z)
   have b:atKey (q :: qs) k=atKey qs k:=by simp[atKey,hDr,e']
   rw[valV_neg e,b];exact ih
theorem KT.repl (r:KT H kvs xs) (k:List Key) (ry:qBp y u) :
  KT H (kvs.map fun kv=>if kv.1=k then (kv.1,y) else kv) (xs.map (putAt k u)):=by
 induction r with
 | nil=>exact .nil
 | @cons p q ps qs h t ih =>
  rw[hBf,hBf];refine .cons ?_ ih;obtain⟨h1,h2,h3⟩:=h;unfold putAt;by_cases e:p.1=k
  ·rw[if_pos e,if_pos (h1.symm.trans e)];exact⟨h1,h2,ry⟩
  ·rw[if_neg e,if_neg (fun z=>e (h1.trans z))];exact⟨h1,h2,h3⟩
theorem KT.put (r:KT H kvs xs) (k:List Key) (hb:H b=some (.tup (k.map kV))) (ry:qBp y u) :
  KT H (putK kvs k y) (storedH xs k b u):=by
 have e:(kvs.any fun kv=>decide (kv.1=k))=(atKey xs k).isSome:=by
  rw[valV_any,(r.val k).isSome_eq,Option.isSome_map]
 unfold putK storedH;rw[e];by_cases q:(atKey xs k).isSome=true
 ·rw[if_pos q,if_pos q];exact r.repl k ry
 ·rw[if_neg q,if_neg q];exact Paired.snoc r ⟨rfl,hb,ry⟩
theorem KT.keeps (r:KT H kvs xs) (ht:∀ b ys,H b=some (.tup ys)->H' b=some (.tup ys)):KT H' kvs xs :=
 Paired.mapP r fun _ _ z=>⟨z.1,ht _ _ z.2.1,z.2.2⟩
section
variable {P:Program} {w:World} {H:Hp} {h:Heap} {a:Addr}
theorem rd_of (ok:HOk P w H h) (e:Rd H a u):qBq P w H h a u:=e.ok ok
theorem dk_rd (ok:HOk P w H h) (e:Rd H a (.dK kvs)):kvs.length<=sizeLine/\(a == sysModules)=false/\∃ vs,KV kvs vs/\h.DictOf (qBb P w) a vs :=
 show qBq P w H h a (.dK kvs) from rd_of ok e
theorem dk_of (ok:HOk P w H h) (e:H a=some (.dK kvs)):kvs.length<=sizeLine/\(a == sysModules)=false/\∃ vs,KV kvs vs/\h.DictOf (qBb P w) a vs:=dk_rd ok (.inl e)
theorem key_of (ok:HOk P w H h) (e:H a=some (.tup (ks.map kV))):(tupleKind (qBb P w)).is h ks a:=by
 obtain⟨_,its,r,o,h1,h2,n,h3⟩:=(show qBq P w H h a (.tup (ks.map kV)) from ok a _ e);exact⟨o,its.toArray,n,h1,h2,h3,by simpa using items_are r⟩
theorem dt_rd (ok:HOk P w H h) (e:Rd H a (.dT kvs)):kvs.length<=sizeLine/\(a == sysModules)=false /\
  ∃ xs,KT H kvs xs/\h.DictOfH (tupleKind (qBb P w)) a xs:=by
 obtain⟨z,y,xs,r,o,es,ep,h1,h2,h3,h4,h5⟩:=(show qBq P w H h a (.dT kvs) from rd_of ok e);refine⟨z,y,xs,r,o,es,ep,h1,h2,h3,h4,fun x hx=>?_,h5⟩;have all:∀ {l:List (List Key×V)} {m:List (List Key×Addr×Value)},KT H l m->∀ x∈m,(tupleKind (qBb P w)).is h x.1 x.2.1:=by
  intro l m q
  induction q with
  | nil=>intro x hx;exact nomatch hx
  | @cons p q ps qs hq t ih =>
   intro x hx;rcases hAh.mp hx with e | hx
   ·subst e;exact key_of ok (by rw[<-hq.1];exact hq.2.1)
   ·exact ih x hx
 exact all r x hx
theorem dt_of (ok:HOk P w H h) (e:H a=some (.dT kvs)):kvs.length<=sizeLine/\(a == sysModules)=false /\
  ∃ xs,KT H kvs xs/\h.DictOfH (tupleKind (qBb P w)) a xs:=dt_rd ok (.inl e)
end
def DGet (H:Hp) (a:Addr) (y:V) (r:Option V):Prop :=
 (∃ kvs k,Rd H a (.dK kvs)/\y=kV k/\r=valV kvs k)\/∃ kvs k b,Rd H a (.dT kvs)/\y = .ref b/\H b=some (.tup (k.map kV))/\r=valV kvs k
def DPut (H:Hp) (a:Addr) (y v:V) (H':Hp):Prop :=
 (∃ kvs k,H a=some (.dK kvs)/\y=kV k/\kvs.length<sizeLine/\H'=upd H a (.dK (putK kvs k v))) \/
 ∃ kvs k b,H a=some (.dT kvs)/\y = .ref b/\H b=some (.tup (k.map kV))/\kvs.length<sizeLine/\H'=upd H a (.dT (putK kvs k v))
theorem DGet.k {H:Hp} {a:Addr} {kvs:List (Key×V)} {k:Key} (e:H a=some (.dK kvs)):DGet H a (kV k) (valV kvs k):=.inl ⟨kvs,k,.inl e,rfl,rfl⟩
theorem DPut.k {H:Hp} {a:Addr} {kvs:List (Key×V)} {k:Key} {v:V} (e:H a=some (.dK kvs)) (hl:kvs.length<sizeLine):DPut H a (kV k) v (upd H a (.dK (putK kvs k v))):=.inl ⟨kvs,k,e,rfl,hl,rfl⟩
section
variable {X:Cx} {pins:List (Addr×Obj)} {σ:St} {H:Hp} {s:Shared} {a:Addr} {y v:V} {u r:Value} {o:Option V} {A:Around} {E:Value->Shared->Prop}
theorem Inv.big (I:Inv X pins σ H s):sysModules<s.heap.objs.size:=by
 have h:mainGlobals<s.heap.objs.size:=(I.mod.glob.keeps I.bk).lt;exact Nat.lt_trans (by decide) h
theorem d_getItem (hu:A.units+1<cLine) (I:Inv X pins σ H s) (g:DGet H a y (some v)) (ry:qBp y u) (h:∀ w' s',Inv X pins σ H s'->qBp v w'->Q w' s') :
  wpAny (model X.prog X.w) A (getItem (.ref a) u) Q E s:=by
 rcases g with ⟨kvs,k,e,ey,l⟩ | ⟨kvs,k,b,e,ey,eb,l⟩
 ·subst ey;obtain⟨z,hd,vs,rel,dd⟩:=dk_rd I.hok e;obtain⟨w',hw,rw'⟩:=RelO.some_of (v:=v) (o:=valueAt vs k) (by rw[l];exact rel.val k);exact wpAny_getItem_of (kV_is ry) dd.mapOf hw (h w' _ (I.tok _) rw')
 ·subst ey;cases(show u=Value.ref b from ry);obtain⟨z,hd,xs,rel,dd⟩:=dt_rd I.hok e;obtain⟨w',hw,rw'⟩:=RelO.some_of (v:=v) (o:=(atKey xs k).map (·.2)) (by rw[l];exact rel.val k);obtain⟨p,hp,hp2⟩:=Option.map_eq_some_iff.mp hw;refine wpAny_getItem_heap (tupleKind_room_in1 hu) (key_of I.hok eb) dd hp ?_;rw[hp2];exact h w' _ (I.tok _) rw'
theorem d_write (I:Inv X pins σ H s) (mu:Mut (H a)) (hs:Heap.SameBut a s.heap h') (he:∃ q,h'.get? a=some q) (new:qBq X.prog X.w (upd H a ob) h' a ob) :
  Inv X pins σ (upd H a ob) { s with heap:=h',toks:=t' } :=
 I.write (x:=a) (e:=a) mu (.inl rfl) (fun b q hb z=>(hs.2 b hb).trans z) he new
theorem dk_new (z:kvs.length<=sizeLine) (hd:(a == sysModules)=false) (rel:KV kvs vs) (dd:h'.DictOf (qBb P w) a vs) :
  qBq P w H' h' a (.dK kvs):=⟨z,hd,vs,rel,dd⟩
theorem d_setItem (hu:A.units+1<cLine) (I:Inv X pins σ H s) (g:DPut H a y v H') (ry:qBp y u) (rv:qBp v r) (h:∀ s',Inv X pins σ H' s'->Q () s') :
  wpAny (model X.prog X.w) A (setItem (.ref a) u r) Q E s:=by
 rcases g with ⟨kvs,k,e,ey,l,eH⟩ | ⟨kvs,k,b,e,ey,eb,l,eH⟩
 ·subst ey eH;obtain⟨z,hd,vs,rel,dd⟩:=dk_of I.hok e;have hz:vs.length<=sizeLine:=by rw[<-rel.length];exact z
  have hl:(putK kvs k v).length<=sizeLine:=by have:=qGj kvs k v;omega
  refine wpAny_setItem_pairs (hsz:=hz) (kV_is ry) dd fun h' dd' hs=>h _ ?_
  have he:∃ q,h'.get? a=some q:=let ⟨q,_,_,hq,_⟩:=dd';⟨q,hq⟩;exact d_write I (by rw[e];exact True.intro) hs he (dk_new hl hd (rel.put k rv) dd')
 ·subst ey eH;cases(show u=Value.ref b from ry);obtain⟨z,hd,xs,rel,dd⟩:=dt_of I.hok e;have hz:xs.length<=sizeLine:=by rw[<-Paired.length rel];exact z
  have hl:(putK kvs k v).length<=sizeLine:=by have:=qGj kvs k v;omega
  refine wpAny_setItem_heap (hsz:=hz) (tupleKind_room_in1 hu) (key_of I.hok eb) dd fun h' dd' hs=>h _ ?_
  obtain⟨q,es,ep,hq,h2,h3,h4,_,h5⟩:=dd';refine d_write I (by rw[e];exact True.intro) hs ⟨q,hq⟩ ⟨hl,hd,_,(rel.put k eb rv).keeps fun c ys ec=>?_,q,es,ep,hq,h2,h3,h4,h5⟩;rw[upd_ne (ne_of ec e (fun z=>nomatch z))];exact ec
end
def NoSl (i:Expr):Prop:=∀ ov iv,subscripted i false ov iv=operate [ov,iv] (getItem ov iv)
theorem subD_of {prog:Program} {w:World} {A:Around} {E:Value->Shared->Prop} {s:Shared} {env:Env} {value slice:Expr} {pos:Pos} {T id:String} {Q:Value->Shared->Prop}
  (hl:typeLookup (.type T) "__getitem__" = pure (some (.builtin id))) (hs:NoSl slice)
  (h:wpAny (model prog w) A (eval value env) (fun o s₁=>wpAny (model prog w) A (eval slice env) (fun i s₂=>s₂.TypeIs o T/\wpAny (model prog w) A (getItem o i) Q E s₂) E s₁) E s) :
  wpAny (model prog w) A (eval (.Subscript value slice pos) env) Q E s:=by
 refine Subscript_ (wpAny_mono h (fun o s₁ h₁=>wpAny_mono h₁ (fun i s₂ h₂=>?_) fun _ _ x=>x) fun _ _ x=>x);obtain⟨hT,h₂⟩:=h₂;unfold subscriptTail;refine wpAny_bind ?_;rw[getitemInPython_of_ne hT.not_modules];refine wpAny_bind (wpAny_specialOf hT hl ?_);have fin:wpAny (model prog w) A (subscripted slice false o i) (fun r s₃=>wpAny (model prog w) A (letTemporaryGo value o r >>= fun _=>pure r) Q E s₃) E s₂:=by
  rw[hs o i];exact wpAny_operating (wpAny_mono h₂ (fun r s₃ h₃=>wpAny_bind (wpAny_letTemporaryGo (wpAny_pure h₃))) fun _ _ x=>x)
 first
  | exact wpAny_pure (wpAny_bind fin)
  | exact wpAny_bind (wpAny_pure (wpAny_bind fin))
  | exact wpAny_bind fin
theorem dict_typeIs (I:Inv X pins σ H s) (g:DGet H a y o):s.TypeIs (.ref a) "dict":=by
 rcases g with ⟨kvs,k,e,_,_⟩ | ⟨kvs,k,b,e,_,_,_⟩
 ·obtain⟨_,_,vs,_,dd⟩:=dk_rd I.hok e;exact dd.typeIs
 ·obtain⟨_,_,xs,_,dd⟩:=dt_rd I.hok e;exact dd.typeIs
def tDGet (td ty:TE):TE:=fun σ H Q=>td σ H fun x H1=>ty σ H1 fun y H2=>∃ a v,x = .ref a/\DGet H2 a y (some v)/\Q v H2
def sDPut (td ty tv:TE):TS:=fun D σ H=>tv σ H fun v H1=>td σ H1 fun x H2=>ty σ H2 fun y H3=>∃ a H4,x = .ref a/\DPut H3 a y v H4/\D.nx σ H4
section
variable {X:Cx} {o i e value:Expr} {pos pos' tpos:Pos} {td ty tv:TE}
theorem pe_dget (hu:X.A.units+1<cLine) (ho:PE X o td) (hi:PE X i ty) (hs:NoSl i):PE X (.Subscript o i pos) (tDGet td ty):=by
 intro pins s σ H Q I h;refine subD_of PySem.F.slot_dict_getitem.lookup hs (thn (ho pins s σ H _ I h) fun u s1 ⟨x,H1,I1,rx,q1⟩=>thn (hi pins s1 σ H1 _ I1 q1) fun iv s2 ⟨y,H2,I2,ry,a,v,ex,g,q2⟩=>?_);subst ex;obtain rfl:u=Value.ref a:=rx;exact⟨dict_typeIs I2 g,d_getItem hu I2 g ry fun w' s3 I3 rw'=>⟨v,H2,I3,rw',q2⟩⟩
theorem ps_dput (hu:X.A.units+1<cLine) (ho:PE X o td) (hi:PE X i ty) (hv:PE X value tv) (hs:swapsWith value (some (.Subscript o i pos')) pos.line X.env=pure false) :
  PS X (.Assign [.Subscript o i pos'] value pos) (sDPut td ty tv):=by
 intro pins s σ H D I h;refine wpAny_Assign_Subscript (thn (hv pins s σ H _ I h) fun r s1 ⟨v,H1,I1,rv,q1⟩=>thn (ho pins s1 σ H1 _ I1 q1) fun u s2 ⟨x,H2,I2,rx,q2⟩=>thn (hi pins s2 σ H2 _ I2 q2) fun iv s3 ⟨y,H3,I3,ry,a,H4,ex,g,q3⟩=>?_) hs;subst ex;obtain rfl:u=Value.ref a:=rx;exact d_setItem hu I3 g ry rv fun s4 I4=>⟨σ,H4,I4,q3⟩
end
theorem dk_empty (h:Heap) (hb:sysModules<h.objs.size):qBq P w H (h.push { cls:=.type "dict",data:=.dict #[] }) h.objs.size (.dK []) :=
 ⟨hAp _,beq_eq_false_iff_ne.mpr (Ne.symm (hB0 hb)),[],.nil,Heap.DictOf.new h⟩
def tDNewK:TE:=fun _ H Q=>∀ p,H p=none->Q (.ref p) (upd H p (.dK []))
section
variable {X:Cx} {pos:Pos}
theorem pe_dnewK:PE X (.Dict [] [] pos) tDNewK:=fun pins s σ H Q I h =>
 wpAny_Dict_empty ⟨.ref s.heap.objs.size,_,I.laid (a:=s.heap.objs.size) (o:=.dK []) (t':=s.toks) (fun _ _ q=>Heap.get?_push_of_some _ q) (hA5 _) (dk_empty s.heap I.big),rfl,h _ (I.hok.fresh (hA5 _))⟩
end
structure M1 (X:Cx) (o:Expr) (m:Str) (apos:Pos) (e:Expr) (cpos:Pos):Prop where
 base:attributeBase o m X.env (eval o X.env)=eval o X.env
 few:((backTo cpos (starEach [e] X.env)).all (fun x=>!x.1) && (backToKw cpos (keywordEach [] X.env)).all (fun x=>x.1.isSome)
  && decide (([e]:List Expr).length+([]:List Keyword).length+(if ([]:List Keyword).isEmpty then 0 else 1)<30))=true
 line:(apos.endLine == cpos.line)=true
 trees:backTo cpos (starEach [e] X.env)=[(false,eval e X.env)]
structure M2 (X:Cx) (o:Expr) (m:Str) (apos:Pos) (e f:Expr) (cpos:Pos):Prop where
 base:attributeBase o m X.env (eval o X.env)=eval o X.env
 few:((backTo cpos (starEach [e,f] X.env)).all (fun x=>!x.1) && (backToKw cpos (keywordEach [] X.env)).all (fun x=>x.1.isSome)
  && decide (([e,f]:List Expr).length+([]:List Keyword).length+(if ([]:List Keyword).isEmpty then 0 else 1)<30))=true
 line:(apos.endLine == cpos.line)=true
 trees:backTo cpos (starEach [e,f] X.env)=[(false,eval e X.env),(false,eval f X.env)]
def IsD (H:Hp) (a:Addr):Prop:=(∃ kvs,Rd H a (.dK kvs))\/∃ kvs,Rd H a (.dT kvs)
theorem isD_at (I:Inv X pins σ H s) (d:IsD H a) :
  s.TypeIs (.ref a) "dict"/\(∀ b,Value.ref a = .ref b->∃ ob,s.heap.get? b=some ob/\ob.dict=none)/\(a == sysModules)=false:=by
 rcases d with ⟨kvs,e⟩ | ⟨kvs,e⟩
 ·obtain⟨_,hd,vs,_,dd⟩:=dk_rd I.hok e;refine⟨dd.typeIs,fun b q=>?_,hd⟩;cases q;obtain⟨ob,_,_,h1,h2,_⟩:=dd;exact⟨ob,h1,h2.2.1⟩
 ·obtain⟨_,hd,xs,_,dd⟩:=dt_rd I.hok e;refine⟨dd.typeIs,fun b q=>?_,hd⟩;cases q;obtain⟨ob,_,_,h1,h2,_⟩:=dd;exact⟨ob,h1,h2.2.1⟩
section
variable {X:Cx} {pins:List (Addr×Obj)} {σ:St} {H:Hp} {s:Shared} {a:Addr} {y d:V} {u r:Value} {o:Option V} {A:Around} {E:Value->Shared->Prop}
theorem d_get2 (hu:A.units+1<cLine) (I:Inv X pins σ H s) (g:DGet H a y o) (ry:qBp y u) (rd:qBp d r) (h:∀ w' s',Inv X pins σ H s'->qBp (o.getD d) w'->Q w' s') :
  wpAny (model X.prog X.w) A (call (.builtin "dict.get") [.ref a,u,r]) Q E s:=by
 rcases g with ⟨kvs,k,e,ey,l⟩ | ⟨kvs,k,b,e,ey,eb,l⟩
 ·subst ey;obtain⟨z,hd,vs,rel,dd⟩:=dk_rd I.hok e;refine call_meetsIn PySem.F.slot_dict_get dd.typeIs PySem.F.entry_dict_get (PySem.F.args_dict_get_3 _ _ _) (meets_dict_get_default (qBb X.prog X.w) a (kV_is ry) hd r) ⟨_,dd.mapOf,h _ _ (I.tok _) ?_⟩;rw[l];exact(rel.val k).getD rd
 ·subst ey;cases(show u=Value.ref b from ry);obtain⟨z,hd,xs,rel,dd⟩:=dt_rd I.hok e;refine call_meetsIn PySem.F.slot_dict_get dd.typeIs PySem.F.entry_dict_get (PySem.F.args_dict_get_3 _ _ _) (meetsH_dict_get_default (tupleKind (qBb X.prog X.w)) a b hd r) ⟨tupleKind_room_in1 hu,k,xs,key_of I.hok eb,dd,h _ _ (I.tok _) ?_⟩;rw[l];exact(rel.val k).getD rd
end
def tDGet2 (td ty tx:TE):TE:=fun σ H Q=>td σ H fun x H1=>∃ a,x = .ref a/\IsD H1 a/\ty σ H1 fun y H2=>tx σ H2 fun z H3=>∃ o,DGet H3 a y o/\Q (o.getD z) H3
section
variable {X:Cx} {o e f:Expr} {apos cpos:Pos} {td ty tx:TE}
theorem pe_dget2 (hu:X.A.units+1<cLine) (ho:PE X o td) (he:PE X e ty) (hf:PE X f tx) (m:M2 X o "get" apos e f cpos):PE X (.Call (.Attribute o "get" apos) [e,f] [] cpos) (tDGet2 td ty tx):=by
 intro pins s σ H Q I h;refine wpAny_Call_method m.base m.few m.line PySem.F.plainAttrs_dict PySem.F.slot_dict_get PySem.F.type_dict_get (thn (ho pins s σ H _ I h) fun u s1 ⟨x,H1,I1,rx,a,ex,d,q1⟩=>?_);subst ex;obtain rfl:u=Value.ref a:=rx;obtain⟨t1,t2,_⟩:=isD_at I1 d;refine⟨t1,t2,?_⟩;rw[m.trees];refine Calls.callWith_builtin rfl (Calls.evalArgs_plain (Calls.spliced_cons (thn (he pins s1 σ H1 _ I1 q1) fun iv s2 ⟨y,H2,I2,ry,q2⟩ =>
  Calls.spliced_cons (thn (hf pins s2 σ H2 _ I2 q2) fun fv s3 ⟨z,H3,I3,rz,ov,g,q3⟩=>Calls.spliced_nil ?_))))
 exact d_get2 hu I3 g ry rz fun w' s4 I4 rw'=>⟨_,H3,I4,rw',q3⟩
end
end L2
namespace L2
open PySem PySem.Spec PyProof.Rows
end L2
namespace L2
open PySem PySem.Spec PyProof.Rows
noncomputable def qCn (cells:List (Str×Addr)):List (Str×NameKind)->List (Str×Addr)->List (Str×Addr)
 | [],acc=>acc
 | (n,k) :: r,acc=>if k == .free then qCn cells r ((n,(cells.lookup n).getD 0) :: acc) else qCn cells r acc
theorem qHg (env:Env) (f:Str×NameKind->List (Str×Addr)->Sem (ForInStep (List (Str×Addr))))
  (hf:∀ n k cs,f (n,k) cs=if k == .free then (do let a ← cellOf env n;pure (.yield ((n,a) :: cs))) else pure (.yield cs)) :
  ∀ (names:List (Str×NameKind)) (acc:List (Str×Addr)),(∀ x∈names,x.2 = .free->∃ c,env.cells.lookup x.1=some c)->forIn names acc f=pure (qCn env.cells names acc)
 | [],acc,_=>by rw[List.forIn_nil];rfl
 | (n,k) :: r,acc,h=>by
  have ih:=qHg env f hf r;rw[List.forIn_cons,hf];unfold qCn;by_cases hk:(k == NameKind.free)=true
  ·rw[if_pos hk,if_pos hk];obtain⟨c,hc⟩:=h (n,k) hAe (by simpa using hk);have e:cellOf env n=pure c:=by unfold cellOf;rw[hc]
   rw[e,hc];exact ih _ fun x hx=>h x (hAc _ hx)
  ·rw[if_neg hk,if_neg hk];exact ih _ fun x hx=>h x (hAc _ hx)
theorem closureFor_eq (h:∀ x∈scope.names,x.2 = .free->∃ c,env.cells.lookup x.1=some c):closureFor scope env=pure (qCn env.cells scope.names []):=by
 simp only[closureFor];rw[qHg env _ (fun n k cs=>by cases hk:k == NameKind.free <;> simp[hk]) scope.names [] h];rfl
theorem closL_mem:∀ {names:List (Str×NameKind)} {acc:List (Str×Addr)} {x:Str} {c:Addr},(x,c)∈qCn cells names acc->(x,c)∈acc\/((x,NameKind.free)∈names/\c=(cells.lookup x).getD 0)
 | [],acc,x,c,h=>.inl h
 | (n,k) :: r,acc,x,c,h=>by
  unfold qCn at h;by_cases hk:(k == NameKind.free)=true
  ·rw[if_pos hk]at h;rcases closL_mem h with q | ⟨q,e⟩
   ·rcases hAh.mp q with z | z
    ·cases z;exact .inr ⟨by rw[show NameKind.free=k from (by simpa using hk:k=NameKind.free).symm];exact hAe,rfl⟩
    ·exact .inl z
   ·exact .inr ⟨hAc _ q,e⟩
  ·rw[if_neg hk]at h;rcases closL_mem h with q | ⟨q,e⟩
   ·exact .inl q
   ·exact .inr ⟨hAc _ q,e⟩
theorem qFj {α:Type} {x n:Str} {c:α} {l:List (Str×α)} (h:(l.lookup x).isSome=true):(((n,c) :: l).lookup x).isSome=true:=by
 rw[hCj];cases x == n <;> simp[h]
theorem qE4 {cells:List (Str×Addr)} {x:Str}:∀ {names:List (Str×NameKind)} {acc:List (Str×Addr)},((x,NameKind.free)∈names\/(acc.lookup x).isSome=true)->((qCn cells names acc).lookup x).isSome=true
 | [],acc,h=>by
  rcases h with h | h
  ·cases h
  ·exact h
 | (n,k) :: r,acc,h=>by
  unfold qCn;by_cases hk:(k == NameKind.free)=true
  ·rw[if_pos hk];refine qE4 ?_;rcases h with h | h
   ·rcases hAh.mp h with z | z
    ·cases z;exact .inr (by rw[hCj];simp)
    ·exact .inl z
   ·exact .inr (qFj h)
  ·rw[if_neg hk];refine qE4 ?_;rcases h with h | h
   ·rcases hAh.mp h with z | z
    ·cases z;exact absurd rfl hk
    ·exact .inl z
   ·exact .inr h
theorem cellsFrom_mem:∀ {names:List (Str×NameKind)} {n:Nat} {acc:List (Str×Addr)} {x:Str} {c:Addr},(x,c)∈cellsFrom n names acc->(x,c)∈acc\/(x,NameKind.cell)∈names
 | [],_,_,_,_,h=>.inl h
 | (y,k) :: r,n,acc,x,c,h=>by
  unfold cellsFrom at h;by_cases hk:(k == NameKind.cell)=true
  ·rw[if_pos hk]at h;rcases cellsFrom_mem h with q | q
   ·rcases hAh.mp q with z | z
    ·cases z;exact .inr (by rw[show NameKind.cell=k from (by simpa using hk:k=NameKind.cell).symm];exact hAe)
    ·exact .inl z
   ·exact .inr (hAc _ q)
  ·rw[if_neg hk]at h;rcases cellsFrom_mem h with q | q
   ·exact .inl q
   ·exact .inr (hAc _ q)
structure CellsTwo (h:Heap) (lo:Nat) (acc cs:List (Str×Addr)):Prop where
 part:∀ x c,(x,c)∈cs->(x,c)∈acc\/(h.IsCell c none/\lo<=c)
 inj:∀ x y c,lo<=c->(x,c)∈cs->(y,c)∈cs->x=y
theorem qCz:∀ (names:List (Str×NameKind)) (h:Heap) (lo:Nat) (acc:List (Str×Addr)),CellsTwo h lo acc0 acc->(∀ x c,(x,c)∈acc->c<h.objs.size)->lo<=h.objs.size ->
  CellsTwo (pushCells h names) lo acc0 (cellsFrom h.objs.size names acc)
 | [],_,_,_,x,_,_=>x
 | (name,kind) :: r,h,lo,acc,x,hl,hlo=>by
  unfold pushCells cellsFrom;split
  ·have:=qCz (acc0:=acc0) r (h.push { cls:=.type "cell",data:=.cell none }) lo ((name,h.objs.size) :: acc)
    ⟨fun n c hm=>by
      rcases hAh.mp hm with e | hm
      ·cases e;exact .inr ⟨⟨_,Heap.get?_push_size _ rfl,rfl⟩,hlo⟩
      ·rcases x.part n c hm with q | q
       ·exact .inl q
       ·exact .inr ⟨q.1.keeps fun b o e=>Heap.get?_push_of_some _ e,q.2⟩,
     fun a b c hc h1 h2=>by
      rcases hAh.mp h1 with e1 | h1 <;> rcases hAh.mp h2 with e2 | h2
      ·cases e1;cases e2;rfl
      ·cases e1;exact absurd (hl _ _ h2) (hCm _)
      ·cases e2;exact absurd (hl _ _ h1) (hCm _)
      ·exact x.inj a b c hc h1 h2⟩
    (fun n c hm=>by
     rw[Heap.size_push];rcases hAh.mp hm with e | hm
     ·cases e;exact hDx _
     ·exact hDb (hl n c hm)) (by rw[Heap.size_push];omega)
   rwa [Heap.size_push]at this
  ·exact qCz r h lo acc x hl hlo
noncomputable def qDr (env:Env) (scope:Scope) (C:Addr):Env :=
 { scope:=relabel scope env,locals:=C,globals:=env.globals,cells:=cellsFrom (C+1) scope.names (qCn env.cells scope.names []),qual:=env.qual,func:=none,code:=env.code,frame:=env.frame,builtins:=env.builtins }
theorem wpAny_compEnv
  (hQ:Q { scope:=scope,locals:=s.heap.objs.size,globals:=env.globals,cells:=cellsFrom (s.heap.objs.size+1) scope.names cl,qual:=env.qual,func:=none,code:=env.code,frame:=env.frame,builtins:=env.builtins }
   { s with heap:=pushCells (s.heap.push { cls:=.type "dict",data:=.dict #[] }) scope.names }) :
  wpAny M A (newFunctionEnv scope env.globals cl [] env.qual none .none (some env)) Q E s:=by
 simp only[newFunctionEnv,Option.isSome_some,if_true];refine wpAny_bind (wpAny_alloc ?_);refine wpAny_bind (wpAny_layCells _ (fun name kind cells=>by cases hkc:kind == NameKind.cell <;> simp[hkc]) _ _ _ _ ?_);rw[show({ s with heap:=s.heap.push { cls:=.type "dict",data:=.dict #[] } }:Shared).heap.objs.size=s.heap.objs.size+1 from Heap.size_push ..];rw[List.forIn_nil];exact wpAny_bind (wpAny_pure (wpAny_pure hQ))
theorem compLoop_any (I:Nat->Shared->Prop)
  (turn:∀ n s,I n s->wpAny (model prog w) A (pyNext it) (fun r s₁=>match r with
   | none=>R (.ok .next) s₁
   | some v=>wpAny (model prog w) A (letOwnedTupleGo target it v) (fun _ s₁'=>wpAny (model prog w) A (assign target env v) (fun _ s₂ =>
     wpAny (model prog w) A (forIn ifs true fun c r=>if r=true then do let ok ← isTrue c env (eval c env);pure (ForInStep.yield ok) else pure (ForInStep.yield r)) (fun ok s₃ =>
      if ok=true then wpAny (model prog w) A (eval elt env) (fun x s₄ =>
       wpAny (model prog w) A (call (.builtin "list.append") [acc,x]) (fun _ s₅=>∃ m,m<n/\I m s₅) (fun _ _=>False) s₄) (fun _ _=>False) s₃
      else ∃ m,m<n/\I m s₃) (fun _ _=>False) s₂) (fun _ _=>False) s₁') (fun _ _=>False) s₁) (fun _ _=>False) s)
  (n:Nat) (h:I n s) :
  codeAny (model prog w) A (.compLoop (.ListComp elt [⟨target,iter,ifs,0⟩] scope pos) 0 it acc env) R s:=by
 refine codeAny_loop rfl I (fun n s hI=>?_) n h;show wpAny _ A ((compTurn (.ListComp elt [⟨target,iter,ifs,0⟩] scope pos) 0 it acc env).onRaise (fun x=>do noteFrame x env;theTreesLotGoes x)) _ _ s;refine wpAny_noted ?_;rw[compTurn_list];refine wpAny_bind (wpAny_standAt (wpAny_bind (wpAny_mono (turn n s hI) (fun r s₁ h₁=>?_) fun _ _ h'=>h'.elim)));cases r with
 | none=>exact wpAny_pure h₁
 | some v =>
  refine wpAny_bind (wpAny_mono h₁ (fun _ s₁' h₁=>?_) fun _ _ h'=>h'.elim);refine wpAny_bind (wpAny_mono h₁ (fun _ s₂ h₂=>wpAny_bind (wpAny_mono h₂ (fun ok s₃ h₃=>?_) fun _ _ h'=>h'.elim)) fun _ _ h'=>h'.elim);cases ok with
  | false=>exact wpAny_pure ⟨rfl,h₃⟩
  | true =>
   exact wpAny_bind (wpAny_bind (wpAny_mono h₃ (fun x s₄ h₄=>wpAny_bind (wpAny_mono h₄ (fun _ s₅ h₅=>wpAny_pure (wpAny_pure ⟨rfl,h₅⟩)) fun _ _ h'=>h'.elim)) fun _ _ h'=>h'.elim))
end L2
namespace L2
open PySem PySem.Spec PyProof.Rows
noncomputable def relab (scope sc:Scope):Scope :=
 { scope with names:=scope.names.map fun (n,k)=>if (k == .free && sc.kind == .function && sc.names.lookup n == some .cell) then (n,.cell) else (n,k) }
noncomputable def qDg (X:Cx) (scope:Scope) (N':List Str) (C:Addr) (s:Shared) (H:Hp) (fp:List Addr):Cx :=
 { X with N:=N',s₀:=s,H₀:=H,env:=qDr X.env scope C,outer:=X.stack,stack:=X.stack,ex:=fp,fn:=fun x=>!(scope.names.lookup x == some .free),pn:=[],xe:=fun _ _=>False }
noncomputable def subσ (sub:List (Option Nat)) (σ:St):St:=sub.map fun o=>o.bind fun i=>(σ[i]?).join
noncomputable def cmpOkB (N:List Str) (sc:Scope) (N':List Str) (scope:Scope) (sub:List (Option Nat)):Bool :=
 scope.kind == .function && decide ((scope.names.map (·.1)).Nodup) && decide N'.Nodup && sub.length == N'.length &&
 (scope.names.all fun x=>!(x.2 == .free) || sc.names.lookup x.1 == some .cell || sc.names.lookup x.1 == some .free) &&
 ((sub.zip N').all fun p=>match p.1 with
  | none=>true
  | some i=>N[i]? == some p.2 && scope.names.lookup p.2 == some .free)
structure CmpOk (N:List Str) (sc:Scope) (N':List Str) (scope:Scope) (sub:List (Option Nat)):Prop where
 kind:scope.kind = .function
 nd:(scope.names.map (·.1)).Nodup
 nd':N'.Nodup
 len:sub.length=N'.length
 free:∀ x∈scope.names,x.2 = .free->sc.names.lookup x.1=some .cell\/sc.names.lookup x.1=some .free
 sub:∀ (j i:Nat) (x:Str),sub[j]?=some (some i)->N'[j]?=some x->N[i]?=some x/\scope.names.lookup x=some .free
theorem CmpOk.of {N:List Str} {sc:Scope} {N':List Str} {scope:Scope} {sub:List (Option Nat)} (h:cmpOkB N sc N' scope sub=true):CmpOk N sc N' scope sub:=by
 unfold cmpOkB at h;simp only[hBo]at h;obtain⟨⟨⟨⟨⟨h1,h2⟩,h3⟩,h4⟩,h5⟩,h6⟩:=h;refine⟨by simpa using h1,of_decide_eq_true h2,of_decide_eq_true h3,by simpa using h4,fun x hx hf=>?_,fun j i x hj hx=>?_⟩
 ·have q:=hDy.mp h5 x hx;rw[hf]at q;simp only[beq_self_eq_true,Bool.not_true,Bool.false_or,hDc]at q;rcases q with q | q
  ·exact .inl (by simpa using q)
  ·exact .inr (by simpa using q)
 ·have q:=hDy.mp h6 (some i,x) (by
   refine hAd (i:=j) ?_;rw[List.getElem?_zip_eq_some];exact⟨hj,hx⟩)
  simp only[hBo]at q;exact⟨by simpa using q.1,by simpa using q.2⟩
theorem qB8:∀ {l:List (Str×α)} {x:Str} {c:α},(l.map (·.1)).Nodup->(x,c)∈l->l.lookup x=some c
 | (y,d) :: r,x,c,nd,h=>by
  rw[hCj];rcases hAh.mp h with e | h
  ·cases e;simp
  ·have ne:x≠y:=fun e=>by
    rw[hBf]at nd;exact(hBu.mp nd).1 (by rw[<-e];exact hA9.mpr ⟨(x,c),h,rfl⟩)
   rw[show(x == y)=false from by simpa using ne];exact qB8 (hBu.mp nd).2 h
theorem qFb {sc:Scope}:∀ {names:List (Str×NameKind)} {x:Str},
  ((names.map fun (n,k)=>if (k == NameKind.free && sc.kind == .function && sc.names.lookup n == some .cell) then (n,NameKind.cell) else (n,k)).lookup x) =
   (names.lookup x).map fun k=>if (k == NameKind.free && sc.kind == .function && sc.names.lookup x == some .cell) then NameKind.cell else k
 | [],x=>rfl
 | (n,k) :: r,x=>by
  have ih:=@qFb sc r x;rw[hBf];show List.lookup x ((if (k == NameKind.free && sc.kind == .function && sc.names.lookup n == some .cell)=true then (n,NameKind.cell) else (n,k)) :: _)=_;by_cases hc:(k == NameKind.free && sc.kind == .function && sc.names.lookup n == some .cell)=true
  ·rw[if_pos hc,hCj,hCj];by_cases hx:x=n
   ·subst hx;rw[show(x == x)=true from beq_self_eq_true x];show some NameKind.cell=Option.map _ (some k);rw[Option.map_some,if_pos hc]
   ·rw[show(x == n)=false by simpa using hx];exact ih
  ·rw[if_neg hc,hCj,hCj];by_cases hx:x=n
   ·subst hx;rw[show(x == x)=true from beq_self_eq_true x];show some k=Option.map _ (some k);rw[Option.map_some,if_neg hc]
   ·rw[show(x == n)=false by simpa using hx];exact ih
section
variable {X:Cx} {pins:List (Addr×Obj)} {σ:St} {H H':Hp} {s:Shared}
theorem frs_sub_of (I:Inv X pins σ H s) (hb:b∈frs X.stack) (n1:b≠X.env.locals):b∈X.fs:=(hAh.mp (I.stkSub b hb)).elim (fun e=>absurd e n1) id
theorem cells_facts {N':List Str} {scope:Scope} {sub:List (Option Nat)} {h3:Heap} (I:Inv X pins σ H s) (O:CmpOk X.N X.env.scope N' scope sub)
  (hk:∀ b o,s.heap.get? b=some o->h3.get? b=some o) :
  (∀ x c,(cellsFrom (h3.objs.size+1) scope.names (qCn X.env.cells scope.names [])).lookup x=some c ->
   (((pushCells (h3.push { cls:=.type "dict",data:=.dict #[] }) scope.names).IsCell c none/\h3.objs.size+1<=c/\(x,NameKind.cell)∈scope.names)\/((x,NameKind.free)∈scope.names/\X.env.cells.lookup x=some c))) /\
  (∀ x y c,(cellsFrom (h3.objs.size+1) scope.names (qCn X.env.cells scope.names [])).lookup x=some c->(cellsFrom (h3.objs.size+1) scope.names (qCn X.env.cells scope.names [])).lookup y=some c->x=y):=by
 have hin:∀ x c,(x,c)∈qCn X.env.cells scope.names []->(x,NameKind.free)∈scope.names/\X.env.cells.lookup x=some c:=fun x c h=>by
  rcases closL_mem h with q | ⟨q,e⟩
  ·cases q
  ·have hx:∃ c,X.env.cells.lookup x=some c:=by
    refine I.ok.has x ?_;rcases O.free _ q rfl with z | z
    ·exact .inl z
    ·exact .inr z
   obtain⟨c',hc'⟩:=hx;rw[hc']at e;exact⟨q,by rw[hc',e];rfl⟩
 have hlt:∀ x c,(x,c)∈qCn X.env.cells scope.names []->c<h3.objs.size:=fun x c h=>by
  obtain⟨v,o,ho,_⟩:=I.cell x c (hin x c h).2;exact Heap.lt_size (hk _ _ ho)
 have two:=qCz (acc0:=qCn X.env.cells scope.names []) scope.names (h3.push { cls:=.type "dict",data:=.dict #[] }) (h3.objs.size+1) (qCn X.env.cells scope.names [])
  ⟨fun x c h=>.inl h,fun x y c hc h1 _=>absurd (hlt x c h1) (Nat.not_lt.mpr (Nat.le_of_succ_le hc))⟩ (fun x c h=>by rw[Heap.size_push];exact hDb (hlt x c h)) (by rw[Heap.size_push];exact hA5 _)
 rw[Heap.size_push]at two;refine⟨fun x c h=>?_,fun x y c h1 h2=>?_⟩
 ·have m:=hBx h;rcases two.part x c m with q | q
  ·exact .inr (hin x c q)
  ·refine .inl ⟨q.1,q.2,?_⟩;rcases cellsFrom_mem m with z | z
   ·exact absurd (hlt x c z) (Nat.not_lt.mpr (Nat.le_of_succ_le q.2))
   ·exact z
 ·have m1:=hBx h1;have m2:=hBx h2;by_cases hc:h3.objs.size+1<=c
  ·exact two.inj x y c hc m1 m2
  ·rcases two.part x c m1 with q1 | q1
   ·rcases two.part y c m2 with q2 | q2
    ·exact I.ok.inj x y c (hin x c q1).2 (hin y c q2).2
    ·exact absurd q2.2 hc
   ·exact absurd q1.2 hc
theorem inv_comp {N':List Str} {scope:Scope} {sub:List (Option Nat)} {fp:List Addr} (I:Inv X pins σ H s) (O:CmpOk X.N X.env.scope N' scope sub) (hf:∀ b∈fp,FpOk X pins H b)
  (hfl:∀ b∈fp,b<s.heap.objs.size) :
  Inv (qDg X scope N' (s.heap.objs.size+1) s H fp) [(s.heap.objs.size,{ cls:=.type "list",data:=.seq #[] })] (subσ sub σ) H
   { s with heap:=pushCells ((s.heap.push { cls:=.type "list",data:=.seq #[] }).push { cls:=.type "dict",data:=.dict #[] }) scope.names }:=by
 have hk3:∀ b o,s.heap.get? b=some o->(s.heap.push { cls:=.type "list",data:=.seq #[] }).get? b=some o:=fun b o e=>Heap.get?_push_of_some _ e
 have sz3:(s.heap.push { cls:=.type "list",data:=.seq #[] }).objs.size=s.heap.objs.size+1:=Heap.size_push ..;have hk:∀ b o,s.heap.get? b=some o->(pushCells ((s.heap.push { cls:=.type "list",data:=.seq #[] }).push { cls:=.type "dict",data:=.dict #[] }) scope.names).get? b=some o :=
  fun b o e=>pushCells_keeps _ _ b o (Heap.get?_push_of_some _ (hk3 b o e))
 have cf:=cells_facts (h3:=s.heap.push { cls:=.type "list",data:=.seq #[] }) I O hk3;rw[sz3]at cf;have hC:H (s.heap.objs.size+1)=none:=I.hok.fresh (hBl _);have nsC:(pushCells ((s.heap.push { cls:=.type "list",data:=.seq #[] }).push { cls:=.type "dict",data:=.dict #[] }) scope.names).Ns (s.heap.objs.size+1) (fun _=>none):=by
  rw[<-sz3];exact(Heap.Ns.new _ _).keeps (pushCells_keeps _ _)
 have has:∀ x,(scope.names.lookup x=some .cell\/scope.names.lookup x=some .free)->∃ c,(cellsFrom (s.heap.objs.size+1+1) scope.names (qCn X.env.cells scope.names [])).lookup x=some c:=fun x hx=>by
  refine Option.isSome_iff_exists.mp (hDo _ _ _ ?_);rcases hx with z | z
  ·exact .inl z
  ·exact .inr (qE4 (.inl (hBx z)))
 have kindB:∀ x,(qDr X.env scope (s.heap.objs.size+1)).kindOf x=(scope.names.lookup x).map fun k=>if (k == NameKind.free && X.env.scope.kind == .function && X.env.scope.names.lookup x == some .cell) then NameKind.cell else k:=fun x=>qFb
 have cellOk:∀ x c,(qDr X.env scope (s.heap.objs.size+1)).cells.lookup x=some c->∃ v,(pushCells ((s.heap.push { cls:=.type "list",data:=.seq #[] }).push { cls:=.type "dict",data:=.dict #[] }) scope.names).IsCell c v:=fun x c h=>by
  rcases cf.1 x c h with q | q
  ·exact⟨_,q.1⟩
  ·obtain⟨v,z⟩:=I.cell x c q.2;exact⟨v,z.keeps hk⟩
 refine⟨⟨I.ok.mod,O.kind,I.ok.glob,I.ok.blt,hBl _,fun x y c h1 h2=>cf.2 x y c h1 h2,fun x hx=>?_,fun x c hx h=>?_,I.ok.hd,I.ok.frames,.inl rfl,fun b hb=>?_,fun b o e=>I.bs b o e,hAr I.ok.bsz I.sz,fun b o e hb=>?_,fun b hb=>?_,I.stack,I.stkFree⟩,
  rfl,I.bare,Un.kept hk,⟨fun _=>none,nsC,fun i x v h1 h2 h3=>?_⟩,cellOk,hC,fun x c h=>?_,fun p hp=>?_,I.hok.kept hk,?_⟩
 ·-- has
  refine has x ?_;have hx:(qDr X.env scope (s.heap.objs.size+1)).kindOf x=some .cell\/(qDr X.env scope (s.heap.objs.size+1)).kindOf x=some .free:=hx;rw[kindB]at hx;cases e:scope.names.lookup x with
  | none=>rw[e]at hx;rcases hx with z | z <;> cases z
  | some k =>
   rw[e]at hx;cases k with
   | cell=>exact .inl rfl
   | free=>exact .inr rfl
   | _=>exfalso;rcases hx with z | z <;> simp at z
 ·-- cab
  rcases cf.1 x c h with q | q
  ·have:=q.2.1;show s.heap.objs.size<=c;omega
  ·exfalso;have e:=qB8 O.nd q.1;have hx':(!(scope.names.lookup x == some NameKind.free))=true:=hx;rw[e]at hx';exact absurd hx' (by decide)
 ·-- exf
  obtain⟨f0,f1,f2,f3,f4,f5⟩:=hf b hb;have lt:=hfl b hb;refine⟨fun e=>?_,fun x c h e=>?_⟩
  ·have e':b=s.heap.objs.size+1:=e;rw[e']at lt;exact absurd lt (Nat.not_lt.mpr (hBl _))
  ·rcases cf.1 x c h with q | q
   ·have z:=q.2.1;rw[e]at z;exact absurd lt (Nat.not_lt.mpr (hAr (hAr (hBl _) (hBl _)) z))
   ·exact f4 x c q.2 e
 ·-- noex
  obtain⟨f0,f1,f2,f3,f4,f5⟩:=hf b hb;rcases f3 with z | z
  ·exact I.ok.noex b o e z
  ·exact absurd (hAl (Heap.lt_size (I.ok.bs b o e).1) z) (hCm _)
 ·-- exfs
  obtain⟨f0,f1,f2,f3,f4,f5⟩:=hf b hb;exact fun z=>f2 (frs_sub_of I z f1)
 ·-- loc
  have h1':N'[i]?=some x:=h1;have hsub:∃ k,sub[i]?=some (some k)/\(σ[k]?).join=some v:=by
   unfold subσ at h2;rw[hAs]at h2;cases e:sub[i]? with
   | none=>rw[e]at h2;cases h2
   | some o =>
    rw[e]at h2;cases o with
    | none=>cases h2
    | some k=>exact⟨k,rfl,by simpa using h2⟩
  obtain⟨k,hk1,hk2⟩:=hsub;obtain⟨nk,fx⟩:=O.sub i k x hk1 h1';have sk:σ[k]?=some (some v):=by
   cases e:σ[k]? with
   | none=>rw[e]at hk2;cases hk2
   | some o=>rw[e]at hk2;cases o with
    | none=>cases hk2
    | some y=>cases hk2;rfl
  have cx:=O.free _ (hBx fx) rfl;obtain⟨m,hn,hl⟩:=I.loc;obtain⟨u,ru,lk⟩:=hl k x v nk sk (by
   rcases cx with z | z
   ·exact .inr (.inl z)
   ·exact .inr (.inr z))
  refine⟨u,ru,.inr ⟨?_,?_⟩⟩
  ·show(qDr X.env scope (s.heap.objs.size+1)).kindOf x=some .cell\/(qDr X.env scope (s.heap.objs.size+1)).kindOf x=some .free;rw[kindB,fx];by_cases hc:(NameKind.free == NameKind.free && X.env.scope.kind == .function && X.env.scope.names.lookup x == some .cell)=true
   ·exact .inl (by rw[Option.map_some,if_pos hc])
   ·exact .inr (by rw[Option.map_some,if_neg hc])
  ·rcases lk with ⟨kl,_⟩ | ⟨_,c,hc,hcell⟩
   ·exfalso;have kl':X.env.scope.names.lookup x=some .local:=kl;rcases cx with z | z <;> rw[kl']at z <;> cases z
   ·obtain⟨c',hc'⟩:=has x (.inr fx);refine⟨c',hc',?_⟩;rcases cf.1 x c' hc' with q | q
    ·exfalso;have e:=qB8 O.nd q.2.2;rw[fx]at e;cases e
    ·rw[hc]at q;have e:c=c':=hAu q.2;subst e;exact hcell.keeps hk
 ·-- freeC
  rcases cf.1 x c h with q | q
  ·exact I.hok.fresh (by have:=q.2.1;omega)
  ·exact I.freeC x c q.2
 ·-- pin
  have hp':p=(s.heap.objs.size,({ cls:=.type "list",data:=.seq #[] }:Obj)):=by
   have:p∈([]++[(s.heap.objs.size,({ cls:=.type "list",data:=.seq #[] }:Obj))]:List (Addr×Obj)):=hp
   simpa using this
  subst hp';refine⟨pushCells_keeps _ _ _ _ (Heap.get?_push_of_some _ (Heap.get?_push_size _ rfl)),I.hok.fresh (hA5 _),hB0 (hDx _),fun z=>?_,fun v z=>?_⟩
  ·rcases hAh.mp (I.stkSub _ z) with e | e
   ·exact absurd I.lt (by rw[<-e];exact hCm _)
   ·exact I.nofs (hA5 _) e
  ·cases z
 ·-- len
  show(subσ sub σ).length=N'.length;unfold subσ;rw[hA1,O.len]
end
end L2
namespace L2
open PySem PySem.Spec PyProof.Rows
def Sle (σ σ2:St):Prop:=σ2.length=σ.length/\∀ (i:Nat) (v:V),σ[i]?=some (some v)->σ2[i]?=some (some v)
theorem Sle.refl (σ:St):Sle σ σ:=⟨rfl,fun _ _ h=>h⟩
theorem Sle.set (v:V) (h:Sle σ σ2) (hi:∀ u,σ[i]?≠some (some u)):Sle σ (σ2.set i (some v)):=by
 refine⟨by rw[hDa];exact h.1,fun j u hj=>?_⟩;have ne:i≠j:=fun e=>hi u (by rw[e];exact hj)
 rw[hDv ne];exact h.2 j u hj
def PTs (X:Cx) (ifs:List Expr) (t:TT):Prop :=
 ∀ (pins:List (Addr×Obj)) (s:Shared) (σ:St) (H:Hp) (Q:Bool->Hp->Prop),Inv X pins σ H s->t σ H Q ->
  wpAny (model X.prog X.w) X.A (forIn ifs true fun c r=>if r=true then do let ok ← isTrue c X.env (eval c X.env);pure (ForInStep.yield ok) else pure (ForInStep.yield r)) (TP X pins σ Q) X.xe s
def tNoTest:TT:=fun _ H Q=>Q true H
theorem qAy:PTs X [] tNoTest:=fun pins s σ H Q I h=>wpAny_tests_nil ⟨H,I,h⟩
theorem qBh (h:PT X c t):PTs X [c] t:=fun pins s σ H Q I hw=>wpAny_tests_one (h pins s σ H Q I hw)
def qFd (J:It) (σ0:St) (g:TG) (tt:TT) (te:TE) (Q:List V->Hp->Prop) (H1:Hp):Prop :=
 ∃ W:Nat->Nat->List V->Hp->Prop,(∃ m,W 0 m [] H1)/\∀ i m ys H,W i m ys H ->
  (J.stop i H/\Q ys H) \/
  (J.go i H/\∀ x H',J.yld i H x H'->g x σ0 H' fun σ2 H2=>Sle σ0 σ2/\tt σ2 H2 fun b H3 =>
   if b=true then te σ2 H3 (fun v H4=>ys.length<sizeLine/\∃ m',m'<m/\W (i+1) m' (ys++[v]) H4) else ∃ m',m'<m/\W (i+1) m' ys H3)
section
variable {X:Cx} {pins:List (Addr×Obj)} {σ:St} {H:Hp} {s:Shared}
theorem comp_core {target iter elt:Expr} {ifs:List Expr} {scope:Scope} {pos:Pos} {N':List Str} {sub:List (Option Nat)} {J:It} {fp:List Addr} {it:Addr} {tn:Nat->Heap->Prop} {g:TG} {tt:TT} {te:TE}
  {Qe:List V->Hp->Prop} {E:Value->Shared->Prop} {RR:Value->Addr->Result->Shared->Prop}
  (hc:X.calm=true) (I:Inv X pins σ H s) (O:CmpOk X.N X.env.scope N' scope sub) (T:Turn X.prog X.w X.K target J fp it tn) (st:tn 0 s.heap) (hf:∀ b∈fp,FpOk X pins H b)
  (B:∀ C s H fp,PG (qDg X scope N' C s H fp) target g/\PTs (qDg X scope N' C s H fp) ifs tt/\PE (qDg X scope N' C s H fp) elt te)
  (rd:qFd J (subσ sub σ) g tt te Qe H)
  (hRR:∀ (acc C:Addr) (ys:List V) (H':Hp) (s':Shared),Inv X pins σ (upd H' acc (.lst ys)) s'->FpOk X pins (upd H' acc (.lst ys)) C->(∃ m,s'.heap.Ns C m)->H' acc=none->Qe ys H'->RR (.ref acc) C (.ok .next) s') :
  wpAny (model X.prog X.w) X.A (newList []) (fun acc s₃=>wpAny (model X.prog X.w) X.A (newFunctionEnv scope X.env.globals (qCn X.env.cells scope.names []) [] X.env.qual none .none (some X.env)) (fun cenv s₄ =>
   codeAny (model X.prog X.w) X.A (.compStart (.ListComp elt [⟨target,iter,ifs,0⟩] scope pos) 0 (.ref it) acc { cenv with scope:=relabel scope X.env }) (RR acc cenv.locals) s₄) E s₃) E s:=by
 refine wpAny_newObj_type (wpAny_compEnv ?_);have hfl:∀ b∈fp,b<s.heap.objs.size:=fun b hb=>by
  obtain⟨o,e,_⟩:=T.obj _ _ st b hb;exact Heap.lt_size e
 have I0:=inv_comp (sub:=sub) I O hf hfl;have sz3:(s.heap.push { cls:=.type "list",data:=.seq #[] }).objs.size=s.heap.objs.size+1:=Heap.size_push ..;dsimp only;show codeAny _ _ (.compStart _ 0 (.ref it) (.ref s.heap.objs.size) { scope:=relabel scope X.env,locals:=(s.heap.push { cls:=.type "list",data:=.seq #[] }).objs.size,globals:=X.env.globals,cells:=cellsFrom ((s.heap.push { cls:=.type "list",data:=.seq #[] }).objs.size+1) scope.names (qCn X.env.cells scope.names []),qual:=X.env.qual,func:=none,code:=X.env.code,frame:=X.env.frame,builtins:=X.env.builtins })
  (RR (.ref s.heap.objs.size) (s.heap.push { cls:=.type "list",data:=.seq #[] }).objs.size) { s with heap:=pushCells ((s.heap.push { cls:=.type "list",data:=.seq #[] }).push { cls:=.type "dict",data:=.dict #[] }) scope.names }
 rw[sz3];show codeAny _ _ (.compStart _ 0 (.ref it) (.ref s.heap.objs.size) (qDr X.env scope (s.heap.objs.size+1))) (RR (.ref s.heap.objs.size) (s.heap.objs.size+1)) _;generalize hs0:({ s with heap:=pushCells ((s.heap.push { cls:=.type "list",data:=.seq #[] }).push { cls:=.type "dict",data:=.dict #[] }) scope.names }:Shared)=s0 at I0 ⊢;have hk0:∀ b o,s.heap.get? b=some o->s0.heap.get? b=some o:=fun b o e=>by
  rw[<-hs0];exact pushCells_keeps _ _ b o (Heap.get?_push_of_some _ (Heap.get?_push_of_some _ e))
 have st0:tn 0 s0.heap:=T.keep _ _ _ st fun b hb o e=>hk0 b o e
 clear hs0 sz3;generalize hX:qDg X scope N' (s.heap.objs.size+1) s H fp=X' at I0;have xp:X'.prog=X.prog:=by rw[<-hX];rfl
 have xw:X'.w=X.w:=by rw[<-hX];rfl
 have xK:X'.K=X.K:=by rw[<-hX];rfl
 have xA:X'.A=X.A:=by rw[<-hX];rfl
 have xc:X'.calm=true:=by rw[<-hX];exact hc
 have xe:X'.env=qDr X.env scope (s.heap.objs.size+1):=by rw[<-hX];rfl
 have xx:X'.ex=fp:=by rw[<-hX];rfl
 have xo:X'.outer=X.stack:=by rw[<-hX];rfl
 have xf:X'.fs=frs X.stack:=by rw[<-hX];rfl
 have xpn:X'.pn=[]:=by rw[<-hX];rfl
 have x0:X'.s₀=s:=by rw[<-hX];rfl
 have xh:X'.H₀=H:=by rw[<-hX];rfl
 have xxe:X'.xe=fun _ _=>False:=by rw[<-hX];rfl
 obtain⟨hg,ht,he⟩:=B (s.heap.objs.size+1) s H fp;rw[hX]at hg ht he;clear hX;have stat:∀ {pl:List (Addr×Obj)} {H':Hp},(∀ p∈pl,p.1=s.heap.objs.size)->(∀ b∈fp,H' b=none)->∀ b∈fp,FpOk X' pl H' b:=fun {pl H'} hp hn b hb=>by
  obtain⟨f0,f1,f2,f3,f4,f5⟩:=hf b hb;refine⟨hn b hb,(I0.ok.exf b (by rw[xx];exact hb)).1,I0.ok.exfs b (by rw[xx];exact hb),.inl (by rw[xx];exact hb),(I0.ok.exf b (by rw[xx];exact hb)).2,fun p hp'=>?_⟩;rw[xpn,List.nil_append]at hp';rw[hp p hp'];exact hCn (hfl b hb)
 obtain⟨W,⟨m0,w0⟩,turn⟩:=rd;have loop:∀ s3:Shared,s3=s0->codeAny (model X.prog X.w) X.A (.compLoop (.ListComp elt [⟨target,iter,ifs,0⟩] scope pos) 0 (.ref it) (.ref s.heap.objs.size) (qDr X.env scope (s.heap.objs.size+1))) (RR (.ref s.heap.objs.size) (s.heap.objs.size+1)) s3:=by
  intro s3 e3;refine compLoop_any (fun n s'=>∃ (i:Nat) (ys:List V) (H':Hp) (its:List Value) (k:Nat),Inv X' [(s.heap.objs.size,{ cls:=.type "list",data:=.seq its.toArray k })] (subσ sub σ) H' s'/\qA9 ys its/\ys.length<=sizeLine/\tn i s'.heap/\(∀ b∈fp,H' b=none)/\W i n ys H') ?_ m0
   ⟨0,[],H,[],0,by rw[e3];exact I0,.nil,hAp _,by rw[e3];exact st0,fun b hb=>(hf b hb).1,w0⟩
  rintro n s4 ⟨i,ys,H4,its,k,I4,rv,hz,st4,fr4,w4⟩;have pe:∀ p∈([(s.heap.objs.size,({ cls:=.type "list",data:=.seq its.toArray k }:Obj))]:List (Addr×Obj)),p.1=s.heap.objs.size:=fun p hp=>by
   rw[hA4]at hp;rw[hp]
  rcases turn i n ys H4 w4 with ⟨stop,q⟩ | ⟨go,step⟩
  ·-- the end
   have td:=T.done X' xp xw xK xc i _ s4 (subσ sub σ) H4 (fun _ _=>False) I4 (stat pe fr4) st4 stop;rw[xA]at td;refine thn td fun r s5 ⟨hr,I5⟩=>?_
   subst hr;have pa:=I5.pin (s.heap.objs.size,{ cls:=.type "list",data:=.seq its.toArray k }) (by rw[xpn];simp);have nacc:H4 s.heap.objs.size=none:=pa.2.1;have nC:H4 (s.heap.objs.size+1)=none:=by have z:=I5.free;rw[xe]at z;exact z
   have un:Un (frs X.stack) fp H H4 s.heap s5.heap:=by have z:=I5.base;rw[xf,xx,xh,x0]at z;exact z
   have un2:Un (frs X.stack) fp H (upd H4 s.heap.objs.size (.lst ys)) s.heap s5.heap:=by
    refine⟨un.keep,un.slot,fun b o e n hx=>?_,un.there,fun b xs e=>?_,fun b o u e=>?_,fun b ps e=>?_⟩
    ·rw[upd_ne (hB0 (Heap.lt_size e))];exact un.free b o e n hx
    ·have z:=un.tups b xs e;rw[upd_ne (qAe z nacc)];exact z
    ·have z:=un.frzs b o u e;rw[upd_ne (qAe z nacc)];exact z
    ·obtain⟨more,z⟩:=un.tbls b ps e;exact⟨more,by rw[upd_ne (qAe z nacc)];exact z⟩
   have hok5:HOk X.prog X.w H4 s5.heap:=by have z:=I5.hok;rw[xp,xw]at z;exact z
   have hok2:HOk X.prog X.w (upd H4 s.heap.objs.size (.lst ys)) s5.heap:=fun b u e=>by
    by_cases hb:b=s.heap.objs.size
    ·subst hb;rw[upd_same]at e;cases e;exact⟨hz,its,k,rv,pa.1⟩
    ·rw[upd_ne hb]at e;exact(hok5 b u e).stay (fun _ _ _ q=>q) (fun c q=>by rw[upd_ne (qAe q nacc)];exact q) fun c xs q=>by rw[upd_ne (qAe q nacc)];exact q
   have os5:s5.os=s.os:=by have z:=I5.os;rw[x0]at z;exact z
   have J5:Inv X pins σ (upd H4 s.heap.objs.size (.lst ys)) s5:=I.call' os5 un2 hok2 I5.bare fun b hb=>by
    obtain⟨f0,f1,f2,f3,f4,f5⟩:=hf b hb;exact⟨f3,f1,f4,f5⟩
   refine hRR _ _ ys H4 s5 J5 (I.fpOk (hBl _) ?_) ?_ nacc q
   ·rw[upd_ne (Nat.succ_ne_self _)];exact nC
   ·obtain⟨m,hn,_⟩:=I5.loc;rw[xe]at hn;exact⟨m,hn⟩
  ·-- one turn
   have ti:=T.item X' xp xw xK xc i _ s4 (subσ sub σ) H4 (fun _ _=>False) I4 (stat pe fr4) st4 go;rw[xA]at ti;refine thn ti fun r s5 ⟨u,hr,h5⟩=>?_
   subst hr;refine thn h5 fun _ s6 ⟨x,H6,I6,r6,y6,st6,fr6⟩=>?_
   have I6':=I6.pinned (stat pe fr6) (T.obj _ _ st6);have tg:=hg _ s6 (subσ sub σ) H6 x u _ I6' r6 (step x H6 y6);rw[xp,xw,xA,xe,xxe]at tg;refine thn tg fun _ s7 ⟨σ7,H7,I7,le7,q7⟩=>?_
   have tts:=ht _ s7 σ7 H7 _ I7 q7;rw[xp,xw,xA,xe,xxe]at tts;refine thn tts fun b s8 ⟨H8,I8,q8⟩=>?_
   cases b with
   | false =>
    rw[if_neg hB1]at q8 ⊢;obtain⟨m',hm',w8⟩:=q8;have I9:Inv X' ([(s.heap.objs.size,{ cls:=.type "list",data:=.seq its.toArray k })]++qG7 fp s6.heap) (subσ sub σ) H8 s8:=I8.weak le7.1.symm le7.2;refine⟨m',hm',i+1,ys,H8,its,k,I9.unpinned,rv,hz,T.keep _ _ _ st6 fun b hb o e=>(I9.pin (b,o) (hA8 _ (hA8 _ (qCa hb e)))).1,fun b hb=>?_,w8⟩;obtain⟨o,e,d⟩:=T.obj _ _ st6 b hb;exact(I9.pin (b,o) (hA8 _ (hA8 _ (qCa hb e)))).2.1
   | true =>
    rw[if_pos rfl]at q8 ⊢;have tee:=he _ s8 σ7 H8 _ I8 q8;rw[xp,xw,xA,xe,xxe]at tee;refine thn tee fun vv s9 ⟨v,H9,I9,r9,lz,m',hm',w9⟩=>?_
    have I10:Inv X' ([(s.heap.objs.size,{ cls:=.type "list",data:=.seq its.toArray k })]++qG7 fp s6.heap) (subσ sub σ) H9 s9:=I9.weak le7.1.symm le7.2;have pa:=I10.pin (s.heap.objs.size,{ cls:=.type "list",data:=.seq its.toArray k }) (by rw[xpn];simp);have hlen:=rv.length;refine wpAny_list_append_plain (items:=its.toArray) ⟨k,pa.1⟩ (fun h' pl sb=>?_) (by rw[hAa];omega);obtain⟨k',pl⟩:=pl;have keepIt:∀ b∈fp,∀ o,s6.heap.get? b=some o->h'.get? b=some o:=fun b hb o e=>by
     have nb:b≠s.heap.objs.size:=hB0 (hfl b hb);exact(sb.2 b nb).trans (I10.pin (b,o) (hA8 _ (hA8 _ (qCa hb e)))).1
    have I11:Inv X' [] (subσ sub σ) H9 s9:=I10.pins_of fun p hp=>absurd hp (by simp)
    have sacc:s.heap.objs.size≠X'.env.locals:=pa.2.2.1;have I12:Inv X' [] (subσ sub σ) H9 { s9 with heap:=h' }:=I11.turned (t':=s9.toks) (it:=s.heap.objs.size) (fun b o hb e=>(sb.2 b hb).trans e) pa.2.1 sacc (.inr (by rw[x0];exact hA5 _))
     (fun y c hy z=>by
      obtain⟨w',o',ho',hd'⟩:=I10.cell y c hy;rw[z,pa.1]at ho';have z2:=hAu ho';rw[<-z2]at hd';cases hd') (fun p hp=>absurd hp (by rw[xpn];simp))
    refine⟨m',hm',i+1,ys++[v],H9,its++[vv],k',I12.pins_of (fun p hp=>?_),rv.append (.cons r9 .nil),by rw[hA7,List.length_singleton];omega,T.keep _ _ _ st6 keepIt,fun b hb=>?_,w9⟩
    ·rw[hA4]at hp;subst hp;refine⟨?_,pa.2.1,sacc,pa.2.2.2.1,fun v z=>by cases z⟩;show h'.get? s.heap.objs.size=_;rw[pl];simp
    ·obtain⟨o,e,d⟩:=T.obj _ _ st6 b hb;exact(I10.pin (b,o) (hA8 _ (hA8 _ (qCa hb e)))).2.1
 exact codeAny_compStart_list (loop _ rfl) (T.self _ 0 _ _ _ st0 (loop _ rfl))
end
end L2
namespace L2
open PySem PySem.Spec PyProof.Rows
def tComp (sub:List (Option Nat)) (wi:TI) (g:TG) (tt:TT) (te:TE):TE:=fun σ H Q=>wi σ H fun J H1 =>
 qFd J (subσ sub σ) g tt te (fun ys H'=>∀ r,H' r=none->Q (.ref r) (upd H' r (.lst ys))) H1
section
variable {X:Cx} {target iter elt:Expr} {ifs:List Expr} {scope:Scope} {pos:Pos} {N':List Str} {sub:List (Option Nat)} {wi:TI} {g:TG} {tt:TT} {te:TE}
theorem clos_of (I:Inv X pins σ H s) (O:CmpOk X.N X.env.scope N' scope sub):closureFor scope X.env=pure (qCn X.env.cells scope.names []) :=
 closureFor_eq fun x hx hf=>I.ok.has x.1 (by rcases O.free x hx hf with z | z;exact .inl z;exact .inr z)
theorem names_of (O:CmpOk X.N X.env.scope N' scope sub):∀ y∈scope.names,y.2 = .local->scope.names.lookup y.1=some .local:=fun y hy e=>by
 obtain⟨n,k⟩:=y;cases e;exact qB8 O.nd hy
theorem pe_comp (hc:X.calm=true) (O:CmpOk X.N X.env.scope N' scope sub) (hi:PI X target iter wi)
  (B:∀ C s H fp,PG (qDg X scope N' C s H fp) target g/\PTs (qDg X scope N' C s H fp) ifs tt/\PE (qDg X scope N' C s H fp) elt te)
  (hs:∀ x,foldedSetIterable iter X.env x=pure x:=by intro _;rfl):PE X (.ListComp elt [⟨target,iter,ifs,0⟩] scope pos) (tComp sub wi g tt te):=by
 intro pins s σ H Q I h;rw[eval_ListComp];refine wpAny_comprehension_free (use:=none) rfl hs (clos_of I O) O.kind (names_of O) (thn (hi pins s σ H _ I h) fun v s1 h1=>thn h1 fun itv s2 h2=>?_);obtain⟨it,fp,tn,J,H2,e,I2,T,st2,f2,rd⟩:=h2;subst e;refine comp_core (RR:=fun acc C=>compPost (model X.prog X.w) X.A X.xe none (EP X pins σ Q) acc C) hc I2 O T st2 f2 B rd fun acc C ys H' s' I' fC hn na q=>?_
 obtain⟨m,hn⟩:=hn;obtain⟨f0,f1,f3,f4,f5,f6⟩:=fC;refine⟨m,hn,fun h' sb=>?_⟩;exact⟨.ref acc,upd H' acc (.lst ys),I'.turned (t':=s'.toks) (it:=C) (fun b o hb e=>(sb.2 b hb).trans e) f0 f1 f4 f5 f6,rfl,q acc na⟩
theorem ps_comp (hc:X.calm=true) (O:CmpOk X.N X.env.scope N' scope sub) (hi:PI X target iter wi)
  (B:∀ C s H fp,PG (qDg X scope N' C s H fp) target g/\PTs (qDg X scope N' C s H fp) ifs tt/\PE (qDg X scope N' C s H fp) elt te)
  (hN:X.N.Nodup) (hy:X.N[i]?=some y) (hx:Loc X.env.scope y)
  (hsw:swapsWith (.ListComp elt [⟨target,iter,ifs,0⟩] scope pos) (some (.Name y py)) spos.line X.env=pure true)
  (hs:∀ x,foldedSetIterable iter X.env x=pure x:=by intro _;rfl) (hf:X.fn y=true\/X.env.scope.names.lookup y=some .local:=by first | exact .inl rfl | exact .inr rfl | assumption) :
  PS X (.Assign [.Name y py] (.ListComp elt [⟨target,iter,ifs,0⟩] scope pos) spos) (tAsg (tComp sub wi g tt te) (gName i)):=by
 intro pins s σ H D I h;rw[exec_Assign_Name_used _ _ _ _ hsw];refine wpAny_bind (wpAny_standAt (wpAny_bind ?_));show wpAny _ _ (do let _ ← comprehension (.ListComp elt [⟨target,iter,ifs,0⟩] scope pos) scope X.env _ (newList []) false (eval iter X.env) (some (assign (.Name y py) X.env))) _ _ s;refine wpAny_bind (wpAny_mono (wpAny_comprehension_free (use:=some (assign (.Name y py) X.env)) (Q:=fun _ s'=>SP X pins D .next s') rfl hs (clos_of I O) O.kind (names_of O)
  (thn (hi pins s σ H _ I h) fun v s1 h1=>thn h1 fun itv s2 h2=>?_)) (fun _ s' hq=>wpAny_pure (wpAny_pure hq)) fun _ _ e=>e)
 obtain⟨it,fp,tn,J,H2,e,I2,T,st2,f2,rd⟩:=h2;subst e;refine comp_core (RR:=fun acc C=>compPost (model X.prog X.w) X.A X.xe (some (assign (.Name y py) X.env)) (fun _ s'=>SP X pins D .next s') acc C) hc I2 O T st2 f2 B rd fun acc C ys H' s' I' fC hn na q=>?_
 obtain⟨m,hn⟩:=hn;obtain⟨f0,f1,f3,f4,f5,f6⟩:=fC;show wpAny _ _ (assign (.Name y py) X.env (.ref acc)) _ _ s';refine wpAny_assign_Name (store_ok2 (v:=.ref acc) I' hN hy hx rfl (fun s'' I'' ⟨a,sb,ha⟩=>?_) hf);have nCa:C≠a:=by
  rcases ha with z | z
  ·rw[z];exact f1
  ·exact fun e=>f5 _ _ z e.symm
 refine⟨m,hn.sameBut sb nCa,fun h' sb'=>?_⟩;exact⟨_,upd H' acc (.lst ys),I''.turned (t':=s''.toks) (it:=C) (fun b o hb e=>(sb'.2 b hb).trans e) f0 f1 f4 f5 f6,q acc na⟩
end
section
variable {σ0:St} {g:TG} {tt:TT} {te:TE} {Q:List V->Hp->Prop} {H1:Hp}
def Nxt (n i:Nat) (Pv:Nat->List V->Hp->Prop) (ys:List V) (H:Hp):Prop:=∃ m',m'<n - i/\m'=n - (i+1)/\i+1<=n/\Pv (i+1) ys H
theorem nxt (hi:i<n) (h:Pv (i+1) ys H):Nxt n i Pv ys H:=⟨_,by omega,rfl,hi,h⟩
theorem qAs {K:PySem.W.Frag} {a:Addr} {xs:List V} (Pv:Nat->List V->Hp->Prop) (h0:Pv 0 [] H1) (hl:∀ i ys H,i<=xs.length->Pv i ys H->SqL K H a xs)
  (hs:∀ i x ys H,xs[i]?=some x->Pv i ys H->g x σ0 H fun σ2 H2=>Sle σ0 σ2/\tt σ2 H2 fun b H3=>if b=true then te σ2 H3 (fun v H4=>ys.length<sizeLine/\Nxt xs.length i Pv (ys++[v]) H4) else Nxt xs.length i Pv ys H3)
  (hd:∀ ys H,Pv xs.length ys H->Q ys H):qFd (Itl K a) σ0 g tt te Q H1:=by
 refine⟨fun i m ys H=>m=xs.length - i/\i<=xs.length/\Pv i ys H,⟨xs.length,by simp,hAp _,h0⟩,?_⟩;rintro i m ys H ⟨rfl,hi,p⟩;have q:=hl i ys H hi p;by_cases hlt:i<xs.length
 ·refine .inr ⟨⟨xs,xs[i],q,by simp[hlt]⟩,fun x H' y=>?_⟩;obtain⟨e,y⟩:=y;subst e;exact hs i x ys _ (y xs q) p
 ·have e:i=xs.length:=by omega
  subst e;exact .inl ⟨⟨xs,q,hA5 _⟩,hd ys H p⟩
theorem qBz {lo:Int} {n:Nat} (Pv:Nat->List V->Hp->Prop) (h0:Pv 0 [] H1)
  (hs:∀ i ys H,i<n->Pv i ys H->g (.int (lo+i)) σ0 H fun σ2 H2=>Sle σ0 σ2/\tt σ2 H2 fun b H3=>if b=true then te σ2 H3 (fun v H4=>ys.length<sizeLine/\Nxt n i Pv (ys++[v]) H4) else Nxt n i Pv ys H3)
  (hd:∀ ys H,Pv n ys H->Q ys H):qFd (Itr lo n) σ0 g tt te Q H1:=by
 refine⟨fun i m ys H=>m=n - i/\i<=n/\Pv i ys H,⟨n,by simp,hAp _,h0⟩,?_⟩;rintro i m ys H ⟨rfl,hi,p⟩;by_cases hlt:i<n
 ·refine .inr ⟨hlt,fun x H' y=>?_⟩;obtain⟨e,y⟩:=y;subst e y;exact hs i ys _ hlt p
 ·have e:i=n:=by omega
  subst e;exact .inl ⟨hA5 _,hd ys H p⟩
end
end L2
namespace L2
open PySem PySem.Spec PyProof.Rows PySem.SeqAt
mutual
inductive DR (K:PySem.W.Frag) (H:Hp):V->PyData->Prop
 | non:DR K H .non .none
 | bl (b:Bool):DR K H (.bl b) (.bool b)
 | int (i:Int):DR K H (.int i) (.int i)
 | str (x:Str):DR K H (.str x) (.str x)
 | lst {a:Addr} {xs:List V} {ds:List PyData}:SqL K H a xs->DRs K H xs ds->DR K H (.ref a) (.list ds)
 | tup {a:Addr} {xs:List V} {ds:List PyData}:SqT K H a xs->DRs K H xs ds->DR K H (.ref a) (.tuple ds)
inductive DRs (K:PySem.W.Frag) (H:Hp):List V->List PyData->Prop
 | nil:DRs K H [] []
 | cons {v:V} {d:PyData} {vs:List V} {ds:List PyData}:DR K H v d->DRs K H vs ds->DRs K H (v :: vs) (d :: ds)
end
section
variable {X:Cx} {pins:List (Addr×Obj)} {σ:St} {H:Hp} {s:Shared}
mutual
theorem DR.reads (I:Inv X pins σ H s):∀ {v:V} {d:PyData} {u:Value},DR X.K H v d->qBp v u->∃ as,Reads s.heap u d as
 | _,_,_,.non,r=>by cases r;exact⟨_,.none⟩
 | _,_,_,.bl b,r=>by cases r;exact⟨_,.bool b⟩
 | _,_,_,.int i,r=>by obtain⟨t,rfl⟩:=r;exact⟨_,.int i t⟩
 | _,_,_,.str x,r=>by obtain⟨t,rfl⟩:=r;exact⟨_,.str x t⟩
 | _,_,_,.lst hq hd,r=>by
  cases r;obtain⟨its,rv,⟨o,n,e,c,_,dt⟩,_⟩:=I.list hq;obtain⟨as,ra⟩:=DRs.reads I hd rv;exact⟨_,.list e c dt ra⟩
 | _,_,_,.tup hq hd,r=>by
  cases r;obtain⟨its,rv,⟨o,e,c,n,dt⟩,_⟩:=I.tuple hq;obtain⟨as,ra⟩:=DRs.reads I hd rv;exact⟨_,.tuple e c dt ra⟩
theorem DRs.reads (I:Inv X pins σ H s):∀ {vs:List V} {ds:List PyData} {us:List Value},DRs X.K H vs ds->qA9 vs us->∃ as,ReadsAll s.heap us ds as
 | _,_,_,.nil,r=>by cases r;exact⟨_,.nil⟩
 | _,_,_,.cons h t,r=>by
  cases r with
  | cons r rr =>
   obtain⟨a1,q1⟩:=DR.reads I h r;obtain⟨a2,q2⟩:=DRs.reads I t rr;exact⟨_,.cons q1 q2⟩
end
end
def rEqD (K:PySem.W.Frag) (neg:Bool):R2:=fun x y H Q=>∃ dx dy,DR K H x dx/\DR K H y dy/\shaped dx=true/\shaped dy=true/\Q (.bl (if neg then !PyData.eqv dx dy else PyData.eqv dx dy)) H
section
variable {X:Cx}
theorem op_eqD (hu:X.A.units+64<cLine):OpR X (compareOp .Eq) (rEqD X.K false):=by
 intro pins s σ H x y v u Q I rx ry h;obtain⟨dx,dy,hx,hy,sx,sy,q⟩:=h;obtain⟨a1,r1⟩:=DR.reads I hx rx;obtain⟨a2,r2⟩:=DR.reads I hy ry;exact eq_dataH r1 r2 sx sy hu ⟨.bl (PyData.eqv dx dy),H,I,rfl,q⟩
theorem qG9 (hu:X.A.units+64<cLine):OpR X (compareOp .NotEq) (rEqD X.K true):=by
 intro pins s σ H x y v u Q I rx ry h;obtain⟨dx,dy,hx,hy,sx,sy,q⟩:=h;obtain⟨a1,r1⟩:=DR.reads I hx rx;obtain⟨a2,r2⟩:=DR.reads I hy ry;exact ne_dataH r1 r2 sx sy hu ⟨.bl (!PyData.eqv dx dy),H,I,rfl,q⟩
theorem qDj:∀ {us:List Value},qA9 (ss.map V.str) us->StrsAre us ss:=by
 induction ss with
 | nil=>intro us r;cases r;exact .nil
 | cons a l ih =>
  intro us r;cases r with
  | cons r rr =>
   obtain⟨t,rfl⟩:=r;exact .cons a t (ih rr)
theorem of_strsAre:∀ {us:List Value},StrsAre us ss->qA9 (ss.map V.str) us:=by
 induction ss with
 | nil=>intro us r;cases r;exact .nil
 | cons a l ih =>
  intro us r;cases r with
  | cons _ _ r=>exact .cons ⟨_,rfl⟩ (ih r)
theorem call_sortedS:qB9 X (.builtin "sorted") (fun xs H Q=>∃ p ss,xs=[.ref p]/\SqL X.K H p (ss.map V.str)/\ss.length<64/\∀ r ss',H r=none->ss'.Perm ss->sortedS ss'=true->Q (.ref r) (upd H r (.lst (ss'.map V.str)))):=by
 intro pins s σ H xs us Q I r h;obtain⟨p,ss,rfl,hq,h64,q⟩:=h;obtain⟨u,rfl,rx⟩:=qCs r;cases rx;obtain⟨its,rv,pl,hz⟩:=I.list hq;have hl:=rv.length;rw[hA1]at hl;refine sorted_strs pl.isList (qDj rv) (by omega) fun out ss' h1 h2 h3=>?_
 obtain⟨e,he⟩:=sortedAll_at s.heap its out;have nz:H (s.heap.objs.size+1)=none:=I.hok.fresh (hBl _);refine⟨.ref (s.heap.objs.size+1),_,I.laid (t':=s.toks) (a:=s.heap.objs.size+1) (o:=.lst (ss'.map V.str)) (fun b o eb=>sortedAll_old eb) (hBl _) ?_,rfl,q _ ss' nz h2 h3⟩;refine⟨?_,out.toList,e,of_strsAre h1,by simpa using he⟩;rw[hA1,h2.length_eq];exact hBd (qAf (by omega))
end
end L2
namespace L2
open PySem PySem.Spec PyProof.Rows
section
variable {X:Cx}
theorem sl_str:SlR X (fun x lo hi H Q=>∃ z:Str,x = .str z/\z.length<=sizeLine/\Q (.str (Txt.slice z lo hi)) H):=by
 intro pins s σ H x v vl vu lo hi sl Q I rx hs pl pu h;obtain⟨z,rfl,hz,q⟩:=h;obtain⟨t,rfl⟩:=rx;refine⟨"str",_,F.slot_str_getitem.lookup,typeIs_str _ _ _,?_⟩;obtain⟨o,ho,hc,hd⟩:=hs;have fin:∀ t' k,EP X pins σ Q (.str (Txt.slice z lo hi) t') { s with toks:=k }:=fun t' k=>⟨.str (Txt.slice z lo hi),H,I.tok k,⟨t',rfl⟩,q⟩
 cases pl with
 | none =>
  cases pu with
  | none=>exact wpAny_getItem_str_slice (l:=none) (u:=none) (st:=none) ⟨o,ho,hc,hd⟩ rfl (post_val_or_str ⟨hAr (Txt.slice_le z _ _) hz,fin⟩)
  | int j uj=>exact wpAny_getItem_str_slice (l:=none) (u:=some (j,uj)) (st:=none) ⟨o,ho,hc,hd⟩ rfl (post_val_or_str ⟨hAr (Txt.slice_le z _ _) hz,fin⟩)
 | int i ui =>
  cases pu with
  | none=>exact wpAny_getItem_str_slice (l:=some (i,ui)) (u:=none) (st:=none) ⟨o,ho,hc,hd⟩ rfl (post_val_or_str ⟨hAr (Txt.slice_le z _ _) hz,fin⟩)
  | int j uj=>exact wpAny_getItem_str_slice (l:=some (i,ui)) (u:=some (j,uj)) (st:=none) ⟨o,ho,hc,hd⟩ rfl (post_val_or_str ⟨hAr (Txt.slice_le z _ _) hz,fin⟩)
theorem mulOk_small (h1:x.length<=100) (h2:0<=n) (h3:n<=100):PySem.MulOk x n:=by
 refine⟨?_,fun h _=>?_,fun h _=>?_⟩
 ·rw[Bool.or_eq_false_iff];exact⟨decide_eq_false (by omega),decide_eq_false (by omega)⟩
 ·have e:((2^63 - 1:Int) / n) >= 100:=by
   apply Int.le_ediv_of_mul_le (by omega);omega
  omega
 ·unfold Builtin.Str.tooLong;have:x.length*n.toNat<=100*100:=Nat.mul_le_mul h1 (by omega);exact decide_eq_false (by have:sizeLine > 10000:=(by decide);omega)
theorem qHa:OpR X (binaryOp .Mult) (fun x y H Q=>∃ (z:Str) (n:Int),x = .str z/\y = .int n/\z.length<=100/\0<=n/\n<=100/\Q (.str (Txt.mul z n)) H):=by
 intro pins s σ H x y v u Q I rx ry h;obtain⟨z,n,rfl,rfl,h1,h2,h3,q⟩:=h;obtain⟨t,rfl⟩:=rx;obtain⟨t',rfl⟩:=ry;exact SB.mul (mulOk_small h1 h2 h3) fun t' k=>⟨.str (Txt.mul z n),H,I.tok k,⟨t',rfl⟩,q⟩
theorem qD2:qB9 X (.builtin "isinstance") (fun xs H Q=>∃ x t c b,xs=[x,.ty c]/\TyOf X.K H x t/\PySem.W.kitOne X.K t (.type c)=some b/\Q (.bl b) H):=by
 intro pins s σ H xs us Q I r h;obtain⟨x,t,c,b,rfl,ty,e,q⟩:=h;obtain⟨u,w',rfl,rx,rc⟩:=vals2 r;cases(show w'=Value.type c from rc);exact isinst_ok I rx ty e fun tk=>⟨.bl b,H,I.tok tk,rfl,q⟩
noncomputable def Itk (kvs:List (Key×V)) (d:Addr) (o:Obj):It :=
 ⟨fun i H=>i<kvs.length/\H d=some (.frz o (.dK kvs)),fun i H x H'=>H'=H/\∃ p,kvs[i]?=some p/\x=kV p.1,fun i H=>kvs.length<=i/\H d=some (.frz o (.dK kvs))⟩
theorem turn_dkeys {P:Program} {w:World} {K:PySem.W.Frag} {tg:Expr} (it d:Addr) (o:Obj) (kvs:List (Key×V)) (vs:List (Key×Value)) (es:Array DictEntry) (ep:Nat)
  (hne:d≠it) (kv:KV kvs vs) (hx:o.ExactDict) (hd:o.data = .dict es ep) (hk:KeysOf (qBb P w) es) (hp:Pairs (qBb P w) es.toList vs) (nd:(vs.map (·.1)).Nodup) :
  Turn P w K tg (Itk kvs d o) [it] it (fun i h=>h.IsKeyIter it d i vs.length ep) where
 mem:=by simp
 obj:=fun i h st b hb=>by
  have e:b=it:=by simpa using hb
  subst e;obtain⟨o,e,c,d⟩:=st;exact⟨o,e,fun v z=>by rw[d]at z;cases z⟩
 keep:=fun i h h' st k=>st.at fun o e=>k it (by simp) o e
 item:=by
  intro X hP hw hK hc i pins s σ H E I hf st hg;subst hP hw hK;obtain⟨hi,hH⟩:=hg;have ho:s.heap.get? d=some o:=(I.hok d _ hH).1;have da:s.heap.DictAt (qBb X.prog X.w) d vs ep:=⟨o,es,ho,hx,hd,hk,hp,nd⟩;obtain⟨⟨k,xv⟩,hkx⟩:∃ p,kvs[i]?=some p:=⟨kvs[i],by simp[hi]⟩;have hvl:i<vs.length:=by have:=kv.length;omega
  obtain⟨⟨k',uv⟩,hkv⟩:∃ p,vs[i]?=some p:=⟨vs[i],by simp[hvl]⟩;have ek:k=k':=by
   have e:=congrArg (fun l=>l[i]?) kv.keys;simp only[hAs,hkx,hkv]at e;exact hAu e
  subst ek;obtain⟨f0,f1,f2,f3,f4,f5⟩:=hf it (by simp);refine wpAny_pyNext_dict_item st da hkv fun key h' hkey hit' hs'=>?_
  have I1:Inv X pins σ H { s with heap:=h' }:=I.turned (t':=s.toks) (fun b o hb e=>(hs'.2 b hb).trans e) f0 f1 f3 f4 f5;obtain⟨oo,e,c,dd⟩:=id hit';refine⟨key,rfl,go_of (s:={ s with heap:=h' }) e c dd (by decide) ⟨kV k,H,I1,?_,⟨rfl,(k,xv),hkx,rfl⟩,hit',fun b hb=>(hf b hb).1⟩⟩;rcases keyIs_shape (show keyIs k key=true from hkey) with ⟨j,t,rfl,rfl⟩ | ⟨x,t,rfl,rfl⟩
  ·exact⟨t,rfl⟩
  ·exact⟨t,rfl⟩
 done:=by
  intro X hP hw hK hc i pins s σ H E I hf st hg;subst hP hw hK;obtain⟨hi,hH⟩:=hg;have ho:s.heap.get? d=some o:=(I.hok d _ hH).1;have da:s.heap.DictAt (qBb X.prog X.w) d vs ep:=⟨o,es,ho,hx,hd,hk,hp,nd⟩;obtain⟨f0,f1,f2,f3,f4,f5⟩:=hf it (by simp);have hl:=kv.length;exact wpAny_pyNext_dict_end (I.ok.hd hc) st da (by simp;omega) fun h' eb=>⟨rfl,I.turned (t':=s.toks) (fun b o hb e=>eb b o hb e) f0 f1 f3 f4 f5⟩
 self:=fun _ _ _ _ _ st h=>wpAny_pyIter_keyiter st h
def iKeys (td:TE):TI:=fun σ H R=>td σ H fun x H1=>∃ d kvs,x = .ref d/\H1 d=some (.dK kvs)/\∀ o,R (Itk kvs d o) (upd H1 d (.frz o (.dK kvs)))
theorem pi_keys {e tg:Expr} {td:TE} (he:PE X e td):PI X tg e (iKeys td):=by
 intro pins s σ H R I h;refine thn (he pins s σ H _ I h) fun v s1 ⟨x,H1,I1,r1,q1⟩=>?_
 obtain⟨d,kvs,e,hH,q⟩:=q1;subst e;cases r1;obtain⟨hz,hsm,vs,kv,o,es,ep,ho,hx,hd,hk,hp,nd⟩:=dk_of I1.hok hH;have I2:Inv X pins σ (upd H1 d (.frz o (.dK kvs))) s1:=by
  refine I1.write (t':=s1.toks) (h':=s1.heap) (x:=d) (e:=d) (by rw[hH];trivial) (.inl rfl) (fun _ _ _ q=>q) ⟨o,ho⟩ ⟨ho,?_⟩;exact⟨hz,hsm,vs,kv,o,es,ep,ho,hx,hd,hk,hp,nd⟩
 have da:s1.heap.DictAt (qBb X.prog X.w) d vs ep:=⟨o,es,ho,hx,hd,hk,hp,nd⟩;refine wpAny_pyIter_dict hsm da ?_;have hne:d≠s1.heap.objs.size:=hB0 (Heap.lt_size ho);refine⟨s1.heap.objs.size,[s1.heap.objs.size],_,_,_,rfl,I2.kept (t':=s1.toks) fun b o e=>Heap.get?_push_of_some _ e,turn_dkeys s1.heap.objs.size d o kvs vs es ep hne kv hx hd hk hp nd,⟨_,Heap.get?_push_size _ rfl,rfl,rfl⟩,fun b hb=>?_,q o⟩;have e:b=s1.heap.objs.size:=by simpa using hb
 subst e;exact I2.fpOk (hA5 _) (by rw[upd_ne (Ne.symm hne)];exact I1.hok.fresh (hA5 _))
theorem turns_keys (Pv:Nat->List V->Hp->Prop) (h0:Pv 0 [] H1)
  (hl:∀ i ys H,i<=kvs.length->Pv i ys H->H d=some (.frz o (.dK kvs)))
  (hs:∀ i p ys H,kvs[i]?=some p->Pv i ys H->g (kV p.1) σ0 H fun σ2 H2=>Sle σ0 σ2/\tt σ2 H2 fun b H3=>if b=true then te σ2 H3 (fun v H4=>ys.length<sizeLine/\Nxt kvs.length i Pv (ys++[v]) H4) else Nxt kvs.length i Pv ys H3)
  (hd:∀ ys H,Pv kvs.length ys H->Q ys H):qFd (Itk kvs d o) σ0 g tt te Q H1:=by
 refine⟨fun i m ys H=>m=kvs.length - i/\i<=kvs.length/\Pv i ys H,⟨kvs.length,by simp,hAp _,h0⟩,?_⟩;rintro i m ys H ⟨rfl,hi,p⟩;have q:=hl i ys H hi p;by_cases hlt:i<kvs.length
 ·refine .inr ⟨⟨hlt,q⟩,fun x H' y=>?_⟩;obtain⟨e,pr,hpr,rfl⟩:=y;subst e;exact hs i pr ys _ hpr p
 ·have e:i=kvs.length:=by omega
  subst e;exact .inl ⟨⟨hA5 _,q⟩,hd ys H p⟩
end
end L2
namespace L2
open PySem PySem.Spec PyProof.Rows
section
variable {X:Cx}
theorem getD_any (bs:List Bool) (d:Bool):(List.range bs.length).any (fun i=>bs.getD i d)=bs.any id:=by
 induction bs with
 | nil=>rfl
 | cons b r ih =>
  rw[hCi,List.range_succ_eq_map,hCx,List.any_map,hCx];have e:((fun i=>(b :: r).getD i d)∘Nat.succ)=fun i=>r.getD i d:=by
   funext i;simp
  rw[e,ih];simp
theorem truths {P:Program} {w:World} {A:Around} {bs:List Bool} {its:List Value} (rv:qA9 (bs.map V.bl) its) (d:Bool):TruthOf P w A (fun i v=>its.toArray[i]?=some v) (fun i=>bs.getD i d):=by
 intro i v s Q E hv hQ;have hv':its[i]?=some v:=by simpa using hv
 have hi:i<its.length:=(hAv.mp hv').1;have hl:=rv.length;rw[hA1]at hl;have hb:(bs.map V.bl)[i]?=some (V.bl bs[i]):=by rw[hAs,hA2 (by omega)];rfl
 obtain⟨u,hu,ru⟩:=rv.get hb;rw[hv']at hu;have e:v=Value.bool bs[i]:=(hAu hu).trans ru;rw[e];have e2:bs.getD i d=bs[i]:=by rw[hAk,hA2 (by omega)];rfl
 have hQ:Q (bs.getD i d) s:=hQ;rw[e2]at hQ;exact wpAny_truthy_bool hQ
theorem call_anyB (hc:X.calm=true):qB9 X (.builtin "any") (fun xs H Q=>∃ (p:Addr) (bs:List Bool),xs=[.ref p]/\SqL X.K H p (bs.map V.bl)/\Q (.bl (bs.any id)) H):=by
 intro pins s σ H xs us Q I r h;obtain⟨p,bs,rfl,hq,q⟩:=h;obtain⟨u,rfl,rx⟩:=qCs r;cases rx;obtain⟨its,rv,pl,hz⟩:=I.list hq;have hl:=rv.length;rw[hA1]at hl;have hne:p≠s.heap.objs.size:=by
  obtain⟨o,n,e,_⟩:=pl;exact hB0 (Heap.lt_size e)
 have hh:=I.ok.hd hc;refine call_any_walk (wpAny_pyIter_list pl.isList ?_);refine⟨s.heap.objs.size,_,_,_,_,_,fun i=>bs.getD i true,rfl,Walks.list (by exact hh) _ p hne its.toArray,⟨⟨_,Heap.get?_push_size _ rfl,rfl,rfl⟩,pl.isList.at fun o e=>Heap.get?_push_of_some _ e⟩,truths rv true,fun h' tk hk=>?_⟩;refine⟨.bl (bs.any id),H,I.kept (t':=tk) fun b o e=>hk b o ?_ (Heap.get?_push_of_some _ e),?_,q⟩
 ·intro z;rw[hA4]at z;exact absurd (Heap.lt_size e) (by rw[z];exact hCm _)
 ·show Value.bool _=Value.bool _;rw[hAa,<-hl,getD_any]
end
end L2
namespace L2
open PySem PySem.Spec PyProof.Rows
end L2
namespace L2
open PySem PySem.Spec PyProof.Rows
end L2
namespace L2
open PySem PySem.Spec PyProof.Rows
namespace FS
end FS
theorem qHf:∀ (l:List α) (i:Nat) (x:α),l[i]?=some x->(x :: l.eraseIdx i).Perm l
 | [],i,x,h=>by simp at h
 | y :: l,0,x,h=>by simp at h;subst h;exact hCo _
 | y :: l,i+1,x,h=>by
  have q:=qHf l i x (by simpa using h);rw[List.eraseIdx_cons_succ];exact(List.Perm.swap y x _).trans (q.cons y)
theorem pick_go (next:Nat->Nat):∀ (n k:Nat) (left:List α) (out:Array α),left.length=n->(pickOrder.go next n k left out).toList.Perm (out.toList++left)
 | 0,k,left,out,hl=>by
  have e:left=[]:=hBh.mp hl;subst e;rw[pickOrder.go,hBe]
 | n+1,k,left,out,hl=>by
  rw[pickOrder.go];have hi:next k % left.length<left.length:=Nat.mod_lt _ (by omega);have e:left[next k % left.length]?=some left[next k % left.length]:=hA2 hi;rw[e];dsimp only;have p:=qHf left _ _ e;have l:=p.length_eq;simp only[hCi]at l;refine(pick_go next n (k+1) _ _ (by omega)).trans ?_;rw[hC4,hBj];exact hCz _ p
theorem pick_perm (next:Nat->Nat) (xs:Array α):(pickOrder next xs).toList.Perm xs.toList:=by
 have q:=pick_go next xs.size 0 xs.toList #[] (by simp)
 simpa [pickOrder] using q
end L2
namespace L2
open PySem PySem.Spec PyProof.Rows
end L2
namespace L2
open PySem PySem.Spec PyProof.Rows
end L2
namespace L2
open PySem PySem.Spec PyProof.Rows
section
variable {X:Cx} {pins:List (Addr×Obj)} {σ:St} {H:Hp} {s:Shared} {h':Heap}
theorem Inv.turnedT {t':Nat} {d':Drawn} {ch:List Addr} {a:Addr} {o:HO} (I:Inv X pins σ H s) (k:∀ b u,b∉ch->s.heap.get? b=some u->h'.get? b=some u) (f:∀ b∈ch,FpOk X pins H b) (hp:s.heap.objs.size<=a) (new:qBq X.prog X.w (upd H a o) h' a o) :
  Inv X pins σ (upd H a o) { s with heap:=h',toks:=t',drawn:=d' }:=by
 have nit:∀ b u,H b=some u->b∉ch:=fun b u e z=>by rw[(f b z).1]at e;cases e
 have hn:H a=none:=I.hok.fresh hp;refine I.step (g':=s.gens) (d':=d') (ch:=ch) (fun b hb=>?_) (fun b u _ _ hc e _=>k b u hc e) (fun b u _ _ hc e _=>⟨u.slots,k b u hc e⟩) (fun b u _ e n=>?_) (fun b u hc e=>⟨u,k b u hc e⟩) (fun b xs q=>by rw[upd_ne (qAe q hn)];exact q) (fun b u v q=>by rw[upd_ne (qAe q hn)];exact q)
  (fun b ps q=>⟨#[],by rw[upd_ne (qAe q hn),q];simp⟩) (fun m hm=>?_) (fun b u e=>?_) I.bare
 ·obtain⟨_,f1,_,f3,f4,f5⟩:=f b hb;exact⟨f3,f1,f4,f5⟩
 ·rw[upd_ne (hB0 (hAl (Heap.lt_size e) hp))];exact n
 ·obtain⟨ob,es,ep,ho,r⟩:=hm;exact⟨ob,es,ep,k _ ob (fun z=>(f _ z).2.1 rfl) ho,r⟩
 ·by_cases hb:b=a
  ·subst hb;rw[upd_same]at e;cases e;exact new
  ·rw[upd_ne hb]at e;refine(I.hok b u e).stay (fun c v hc q=>k c v ?_ q) (fun c q=>by rw[upd_ne (qAe q hn)];exact q) fun c xs q=>by rw[upd_ne (qAe q hn)];exact q
   rcases hc with z | z
   ·rw[z];exact nit b u e
   ·exact nit c _ z
end
end L2
namespace L2
open PySem PySem.Spec PyProof.Rows
section
variable {X:Cx} {pins:List (Addr×Obj)} {σ:St} {H:Hp} {s:Shared} {h':Heap}
theorem Inv.turnedL {t':Nat} {ch:List Addr} (I:Inv X pins σ H s) (k:∀ b u,b∉ch->s.heap.get? b=some u->h'.get? b=some u) (f:∀ b∈ch,FpOk X pins H b):Inv X pins σ H { s with heap:=h',toks:=t' }:=by
 have nit:∀ b u,H b=some u->b∉ch:=fun b u e z=>by rw[(f b z).1]at e;cases e
 refine I.step (g':=s.gens) (d':=s.drawn) (ch:=ch) (fun b hb=>?_) (fun b u _ _ hc e _=>k b u hc e) (fun b u _ _ hc e _=>⟨u.slots,k b u hc e⟩) (fun b u _ e n=>n) (fun b u hc e=>⟨u,k b u hc e⟩) (fun b xs q=>q) (fun b u v q=>q) (fun b ps q=>⟨#[],by rw[q];simp⟩) (fun m hm=>?_) (fun b u e=>?_) I.bare
 ·obtain⟨_,f1,_,f3,f4,f5⟩:=f b hb;exact⟨f3,f1,f4,f5⟩
 ·obtain⟨ob,es,ep,ho,r⟩:=hm;exact⟨ob,es,ep,k _ ob (fun z=>(f _ z).2.1 rfl) ho,r⟩
 ·refine(I.hok b u e).stay (fun c v hc q=>k c v ?_ q) (fun c q=>q) fun c xs q=>q
  rcases hc with z | z
  ·rw[z];exact nit b u e
  ·exact nit c _ z
end
noncomputable def Itp (n:Nat) (Ls:Hp->Prop) (xv:Nat->List V):It:=⟨fun i H=>Ls H/\i<n,fun i H x H'=>∃ T,H T=none/\H'=upd H T (.tup (xv i))/\x = .ref T,fun i H=>Ls H/\i=n⟩
theorem turn_walkT {P:Program} {w:World} {K:PySem.W.Frag} {elts:List Expr} {ct:Nat} {pos:Pos} (it:Addr) (fp fpW wr:List Addr) (n:Nat) (Ls:Hp->Prop) (xv:Nat->List V) (tn:Nat->Heap->Prop)
  (hit:it∈fp) (hwr:∀ b∈wr,b∈fp) (hobj:∀ i h,tn i h->∀ b∈fp,∃ o,h.get? b=some o/\∀ v,o.data≠.cell v) (hkeep:∀ i h h',tn i h->(∀ b∈fp,∀ o,h.get? b=some o->h'.get? b=some o)->tn i h')
  (hx:∀ i,(xv i).length<=sizeLine)
  (W:∀ (X:Cx),X.prog=P->X.w=w->X.K=K->X.calm=true->∀ (pins:List (Addr×Obj)) (s:Shared) (σ:L2.St) (H:Hp),Inv X pins σ H s->Ls H->∃ (Pt:Nat->Array Value->Prop) (St:Nat->Heap->Prop) (Mid:Nat->Addr->Heap->Prop),WalksT P w X.A it fpW wr n Pt St Mid/\(∀ i,tn i s.heap->St i s.heap)/\(∀ i h,St i h->tn i h) /\
   (∀ i vals,Pt i vals->qA9 (xv i) vals.toList))
  (hself:∀ (A:Around) (i:Nat) (s:Shared) (Q:Value->Shared->Prop) (E:Value->Shared->Prop),tn i s.heap->Q (.ref it) s->wpAny (model P w) A (pyIter (.ref it)) Q E s):Turn P w K (.Tuple elts ct pos) (Itp n Ls xv) fp it tn where
 mem:=hit
 obj:=hobj
 keep:=hkeep
 item:=by
  intro X hP hw hK hc i pins s σ H E I hf st hg;obtain⟨hL,hi⟩:=hg;obtain⟨Pt,St,Mid,Wt,w1,w2,w3⟩:=W X hP hw hK hc pins s σ H I hL;subst hP hw hK;refine Wt.item i s _ _ hi (w1 i st) fun T vals h1 tk pv hT ht mid k1=>?_
  have hTw:T∉wr:=Wt.apart i T h1 mid;refine⟨_,rfl,Wt.go elts ct pos i T _ _ _ mid fun h2 st2 k2=>?_⟩;have ht2:IsTup h2 T (vals.toList).toArray:=by
   obtain⟨o,a1,a2,nn,a3⟩:=ht;exact⟨o,k2 _ _ hTw a1,a2,nn,by simpa using a3⟩
  refine⟨.ref T,upd H T (.tup (xv i)),I.turnedT (t':=tk) (d':=s.drawn) (ch:=wr) (fun b u hb e=>k2 b u hb (k1 b u hb e)) (fun b hb=>hf b (hwr b hb)) hT ⟨hx i,vals.toList,w3 i vals pv,ht2⟩,rfl,⟨T,I.hok.fresh hT,rfl,rfl⟩,w2 _ _ st2,fun b hb=>?_⟩;have e:b≠T:=by
   obtain⟨o,ho,_⟩:=hobj i _ st b hb;exact hB0 (hAl (Heap.lt_size ho) hT)
  rw[upd_ne e];exact(hf b hb).1
 done:=by
  intro X hP hw hK hc i pins s σ H E I hf st hg;obtain⟨hL,hi⟩:=hg;obtain⟨Pt,St,Mid,Wt,w1,w2,w3⟩:=W X hP hw hK hc pins s σ H I hL;subst hP hw hK hi;exact Wt.done s _ _ (w1 _ st) fun h1 tk k1=>⟨rfl,I.turnedL (ch:=wr) (fun b u hb e=>k1 b u hb e) fun b hb=>hf b (hwr b hb)⟩
 self:=hself
section
variable {σ0:St} {g:TG} {tt:TT} {te:TE} {Q:List V->Hp->Prop} {H1:Hp}
theorem turns_tup (Pv:Nat->List V->Hp->Prop) (h0:Pv 0 [] H1) (hl:∀ i ys H,i<=n->Pv i ys H->Ls H)
  (hs:∀ i ys H T,i<n->Pv i ys H->H T=none->g (.ref T) σ0 (upd H T (.tup (xv i))) fun σ2 H2=>Sle σ0 σ2/\tt σ2 H2 fun b H3=>if b=true then te σ2 H3 (fun v H4=>ys.length<sizeLine/\Nxt n i Pv (ys++[v]) H4) else Nxt n i Pv ys H3)
  (hd:∀ ys H,Pv n ys H->Q ys H):qFd (Itp n Ls xv) σ0 g tt te Q H1:=by
 refine⟨fun i m ys H=>m=n - i/\i<=n/\Pv i ys H,⟨n,by simp,hAp _,h0⟩,?_⟩;rintro i m ys H ⟨rfl,hi,p⟩;have q:=hl i ys H hi p;by_cases hlt:i<n
 ·refine .inr ⟨⟨q,hlt⟩,fun x H' y=>?_⟩;obtain⟨T,e1,e2,e3⟩:=y;subst e2 e3;exact hs i ys H T hlt p e1
 ·have e:i=n:=by omega
  subst e;exact .inl ⟨⟨q,rfl⟩,hd ys H p⟩
end
end L2
namespace L2
open PySem PySem.Spec PyProof.Rows
noncomputable def compShape (tpos:Pos) (it:Value) (target:Expr) (env:Env) (ifs:List Expr) (body:Sem Unit) (k:Sem Fin):Sem Fin:=do
 standAt tpos
 match ← pyNext it with
 | none=>pure (.done .next)
 | some v =>
  letOwnedTupleGo target it v
  assign target env v
  let mut ok:=true
  for c in ifs do
   if ok then ok ← isTrue c env (eval c env)
  if ok then
   body
  k
section
variable {AS:Type}
abbrev TB (AS:Type):=AS->St->Hp->(AS->St->Hp->Prop)->Prop
end
end L2
namespace L2
open PySem PySem.Spec PyProof.Rows
end L2
namespace L2
open PySem PySem.Spec PyProof.Rows
structure GC (P:Program) (w:World) {AS:Type} (e target iter:Expr) (ifs:List Expr) (scope:Scope) (tpos:Pos) (newAcc:Sem Value) (body:Addr->Env->Sem Unit) (o0:Obj) (a0:AS) (AO:AS->Obj->Prop) (HOf:Addr->AS->HO):Prop where
 new:∀ (A:Around) (s:Shared) (Q:Value->Shared->Prop) (E:Value->Shared->Prop),Q (.ref s.heap.objs.size) { s with heap:=s.heap.push o0 }->wpAny (model P w) A newAcc Q E s
 nf:o0.isFreed=false
 nc:∀ a o,AO a o->∀ v,o.data≠.cell v
 hA0:AO a0 o0
 hHO:∀ (H':Hp) (h:Heap) (acc:Addr) (a:AS) (o:Obj),sysModules<acc->AO a o->h.get? acc=some o->qBq P w H' h acc (HOf acc a)
 cl:∃ gs,clausesOf e=⟨target,iter,ifs,0⟩ :: gs
 dnS:∀ (it acc:Value) (env:Env) (A:Around) (Q:PySem.Fin->Shared->Prop) (E:Value->Shared->Prop) (s:Shared),wpAny (model P w) A ((compStart e 0 it acc env).onRaise (fun x=>do noteFrame x env;standAt theWindowsPlace)) Q E s->wpAny (model P w) (A.under (.compStart e 0 it acc env)) ((model P w).den (.compStart e 0 it acc env)) Q E s
 dnL:∀ (it acc:Value) (env:Env) (A:Around) (Q:PySem.Fin->Shared->Prop) (E:Value->Shared->Prop) (s:Shared),wpAny (model P w) A ((compTurn e 0 it acc env).onRaise (fun x=>do noteFrame x env;theTreesLotGoes x)) Q E s->wpAny (model P w) (A.under (.compLoop e 0 it acc env)) ((model P w).den (.compLoop e 0 it acc env)) Q E s
 q:∀ it acc env,(Code.compLoop e 0 it acc env).quiet=true
 sh:∀ (it acc:Addr) (env:Env),compTurn e 0 (.ref it) (.ref acc) env=compShape tpos (.ref it) target env ifs (body acc env) (again (.compLoop e 0 (.ref it) (.ref acc) env))
end L2
namespace L2
open PySem PySem.Spec PyProof.Rows
end L2
namespace L2
open PySem PySem.Spec PyProof.Rows PySem.W
noncomputable abbrev Rng (n:Nat):Array Nat:=List.toArray (List.range n)
def Gd (n:Nat) (p:Array Nat):Prop:=p.Perm (Rng n)
theorem Gd.lt (h:Gd n p) (h0:0<n) (i:Nat):p.getD i 0<n:=by
 by_cases hi:i<p.size
 ·have e:p.getD i 0=p[i]:=by simp[Array.getD,hi]
  rw[e];have m:p[i]∈p.toList:=by simp
  have m2:=(hBw.mp h).mem_iff.mp m
  simpa using m2
 ·have e:p.getD i 0=0:=by simp[Array.getD,hi]
  rw[e];exact h0
theorem Gd.rev (h:Gd n p) (i j:Nat):Gd n (kas_rev p i j):=(mirror_perm _ _ _ _).trans h
theorem Gd.bub (h:Gd n p) (i j:Nat):Gd n (bubble p i j):=(bubble_perm _ _ _).trans h
section
variable {n:Nat} {cmp:Nat->Nat->(Bool->Shared->Prop)->Shared->Prop} {s:Shared} (hask:∀ i j C,i<n->j<n->(∀ b,C b s)->cmp i j C s) (h0:0<n)
include hask h0
end
end L2
namespace L2
open PySem PySem.Spec PyProof.Rows PySem.W
section
variable {X:Cx}
theorem refs_of:∀ {as:List Addr} {us:List Value},qA9 (as.map V.ref) us->us=as.map Value.ref
 | [],_,r=>by cases r;rfl
 | a :: as,_,r=>by
  cases r with
  | cons h t=>cases h;rw[refs_of t];rfl
theorem qD4:∀ as:List Addr,qA9 (as.map V.ref) (as.map Value.ref)
 | []=>.nil
 | a :: as=>.cons rfl (qD4 as)
end
end L2
namespace L2
open PySem PySem.Spec PyProof.Rows PySem.W
section
variable {X:Cx}
theorem qFc:qB9 X (.type "range") (fun xs H Q=>∃ j:Int,xs=[.int j]/\0<=j/\j<=1000/\∀ r,H r=none->Q (.ref r) (upd H r (.rng 0 j))):=by
 intro pins s σ H xs us Q I r h;obtain⟨j,rfl,h0,h1,q⟩:=h;obtain⟨u,rfl,t,rfl⟩:=qCs r;refine call_range_1 ?_;exact⟨.ref s.heap.objs.size,_,I.laid (a:=s.heap.objs.size) (o:=.rng 0 j) (fun b o e=>Heap.get?_push_of_some _ e) (hA5 _) ⟨_,_,_,Heap.get?_push_size _ rfl⟩,rfl,q _ (I.hok.fresh (hA5 _))⟩
theorem ints_vals:∀ {its:List Value} {n:Nat} (k:Nat),its.length=n->(∀ i v,its[i]?=some v->∃ t,v=Value.int ((k+i:Nat):Int) t)->qA9 ((List.range' k n).map fun (i:Nat)=>V.int (i:Int)) its
 | [],n,k,hl,_=>by
  have e:n=0:=hl.symm;subst e;exact .nil
 | v :: r,n,k,hl,h=>by
  obtain⟨m,rfl⟩:∃ m,n=m+1:=⟨n - 1,by simp at hl;omega⟩;rw[List.range'_succ,hBf];refine .cons ?_ (ints_vals (k+1) (by simpa using hl) fun i v hv=>?_)
  ·obtain⟨t,e⟩:=h 0 v rfl;exact⟨t,by rw[e,Nat.add_zero]⟩
  ·obtain⟨t,e⟩:=h (i+1) v (by simpa using hv);exact⟨t,by rw[e,show k+(i+1)=k+1+i by omega]⟩
theorem qEp (hc:X.calm=true):qB9 X (.type "list") (fun xs H Q=>∃ (r:Addr) (j:Int),xs=[.ref r]/\H r=some (.rng 0 j)/\0<=j/\j<=1000/\∀ l,H l=none->Q (.ref l) (upd H l (.lst ((List.range j.toNat).map fun (i:Nat)=>V.int (i:Int))))):=by
 intro pins s σ H xs us Q I r h;obtain⟨p,j,rfl,hp,h0,h1,q⟩:=h;obtain⟨u,rfl,rx⟩:=qCs r;cases rx;obtain⟨t,u,v,e⟩:=I.hok p _ hp;refine call_list_range (n:=j.toNat) (a:=0) (b:=j) (c:=1) (I.ok.hd hc) e (small_one (by decide) (by decide) (by omega) (by omega)) (by rw[rangeSize_one];split <;> omega) (by omega) fun h' tk acc' c' hk hS hacc=>?_
 refine⟨.ref s.heap.objs.size,_,I.laid (t':=tk) (a:=s.heap.objs.size) (o:=.lst ((List.range j.toNat).map fun (i:Nat)=>V.int (i:Int))) (fun b o e=>hk b o e) (hA5 _) ⟨?_,acc'.toList,c',?_,by rw[Array.toArray_toList];exact hS⟩,rfl,q _ (I.hok.fresh (hA5 _))⟩
 ·rw[hA1,hAy];exact hBd (qAf (by omega))
 ·rw[List.range_eq_range'];refine ints_vals 0 (by rw[hC1];exact hacc.1) fun i v hv=>?_
  obtain⟨t,e⟩:=hacc.2 i v (by rw[<-hBa];exact hv);exact⟨t,by rw[e];congr 1;omega⟩
end
end L2
namespace L2
open PySem PySem.Spec PyProof.Rows PySem.W
structure Ordr (lt:Nat->Nat->Bool):Prop where
 asym:∀ a b,lt a b=true->lt b a=false
 tr:∀ a b c,lt b a=false->lt c b=false->lt c a=false
theorem Ordr.irr (o:Ordr lt) (a:Nat):lt a a=false:=by
 cases h:lt a a with
 | false=>rfl
 | true=>exact(o.asym a a h).symm.trans h▸rfl
def SPk (lt:Nat->Nat->Bool) (p:Array Nat) (k:Nat):Prop:=∀ i j,i<j->j<k->lt (p.getD j 0) (p.getD i 0)=false
def DPk (lt:Nat->Nat->Bool) (p:Array Nat) (k:Nat):Prop:=∀ i j,i<j->j<k->lt (p.getD i 0) (p.getD j 0)=false
def ERk (lt:Nat->Nat->Bool) (p:Array Nat) (a b:Nat):Prop:=∀ i j,a<=i->i<b->a<=j->j<b->lt (p.getD i 0) (p.getD j 0)=false
theorem Gd.size (h:Gd n p):p.size=n:=by
 have:=Array.Perm.size_eq h
 simpa using this
theorem qG5 (hj:j<=p.size) (k:Nat):(kas_rev p i j).getD k 0=if i<=k/\k<j then p.getD (i+j - 1 - k) 0 else p.getD k 0:=by
 unfold kas_rev;rw[hC2,getElem?_mirror_all hj];split <;> rw[<-hC2]
theorem bub_at (hk:k<p.size) (hl:l<=k) (i:Nat):(bubble p k (k - l)).getD i 0=if i=l then p.getD k 0 else if l<i/\i<=k then p.getD (i - 1) 0 else p.getD i 0:=by
 rw[hC2,getElem?_bubble hk _ (by omega)];have e:k - (k - l)=l:=by omega
 rw[e];by_cases e1:i=l
 ·rw[if_pos e1,if_pos e1,<-hC2]
 ·rw[if_neg e1,if_neg e1];by_cases e2:l<i/\i<=k
  ·rw[if_pos e2,if_pos e2,<-hC2]
  ·rw[if_neg e2,if_neg e2,<-hC2]
section
variable {lt:Nat->Nat->Bool} (o:Ordr lt)
include o
theorem SPk.snoc (h:SPk lt p k) (h1:1<=k) (hk:lt (p.getD k 0) (p.getD (k - 1) 0)=false):SPk lt p (k+1):=fun i j hij hj=>by
 by_cases e:j=k
 ·subst e;by_cases e2:i=j - 1
  ·subst e2;exact hk
  ·exact o.tr _ _ _ (h i (j - 1) (by omega) (by omega)) hk
 ·exact h i j hij (by omega)
theorem DPk.snoc (h:DPk lt p k) (h1:1<=k) (hk:lt (p.getD (k - 1) 0) (p.getD k 0)=false):DPk lt p (k+1):=fun i j hij hj=>by
 by_cases e:j=k
 ·subst e;by_cases e2:i=j - 1
  ·subst e2;exact hk
  ·exact o.tr _ _ _ hk (h i (j - 1) (by omega) (by omega))
 ·exact h i j hij (by omega)
omit o in
theorem DPk.rev (h:DPk lt p k) (hb:b<=p.size) (hbk:b<=k) (e:ERk lt p a b):DPk lt (kas_rev p a b) k:=fun i j hij hj=>by
 rw[qG5 hb,qG5 hb];split
 ·split
  ·exact e _ _ (by omega) (by omega) (by omega) (by omega)
  ·exact h _ _ (by omega) (by omega)
 ·split
  ·exact h _ _ (by omega) (by omega)
  ·exact h _ _ (by omega) (by omega)
omit o in
theorem DPk.turn (h:DPk lt p k) (hk:k<=p.size):SPk lt (kas_rev p 0 k) k:=fun i j hij hj=>by
 rw[qG5 hk,qG5 hk,if_pos (by omega),if_pos (by omega)];exact h _ _ (by omega) (by omega)
variable {n:Nat} {cmp:Nat->Nat->(Bool->Shared->Prop)->Shared->Prop} {s:Shared} (hask:∀ i j C,i<n->j<n->C (lt i j) s->cmp i j C s) (h0:0<n)
include hask h0
theorem sk_asc (g:Gd n p) (N:Nat) (hq:∀ m,SPk lt p m->1<=m->m<=N->(m<N->lt (p.getD m 0) (p.getD (m - 1) 0)=true)->Q m s):∀ f m,1<=m->m+f=N->SPk lt p m->(kas_asc p f m).kasWp cmp Q s
 | 0,m,h1,hN,sp=>hq m sp h1 (by omega) (fun z=>by omega)
 | f+1,m,h1,hN,sp=>by
  refine hask _ _ _ (g.lt h0 _) (g.lt h0 _) ?_;dsimp only;split
  ·rename_i c;exact hq m sp h1 (by omega) fun _=>c
  ·rename_i c;exact sk_asc g N hq f (m+1) (by omega) (by omega) (sp.snoc o h1 (by simpa using c))
theorem sk_desc (N:Nat) (hN:N<=n) (hq:∀ p m q,Gd n p->1<=m->q+1<=m->m<=N->DPk lt p m->ERk lt p (m - (q+1)) m->Q (p,m,q) s):∀ f p m q,Gd n p->1<=m->q+1<=m->m+f=N->DPk lt p m->ERk lt p (m - (q+1)) m->(kas_desc f p m q).kasWp cmp Q s
 | 0,p,m,q,g,h1,h2,h3,dp,er=>hq p m q g h1 h2 (by omega) dp er
 | f+1,p,m,q,g,h1,h2,h3,dp,er=>by
  have sz:=g.size;refine hask _ _ _ (g.lt h0 _) (g.lt h0 _) ?_;dsimp only;split
  ·rename_i c;have dp':=dp.snoc o h1 (o.asym _ _ c);have one:∀ p':Array Nat,ERk lt p' (m+1 - (0+1)) (m+1):=fun p' i j hi hi' hj hj'=>by
    have e1:i=m:=by omega
    have e2:j=m:=by omega
    subst e1 e2;exact o.irr _
   split
   ·exact sk_desc N hN hq f _ (m+1) 0 (g.rev _ _) (by omega) (by omega) (by omega) (dp'.rev (by omega) (by omega) er) (one _)
   ·exact sk_desc N hN hq f p (m+1) 0 g (by omega) (by omega) (by omega) dp' (one _)
  ·rename_i c;refine hask _ _ _ (g.lt h0 _) (g.lt h0 _) ?_;dsimp only;split
   ·exact hq p m q g h1 h2 (by omega) dp er
   ·rename_i d;have c':lt (p.getD m 0) (p.getD (m - 1) 0)=false:=by simpa using c
    have d':lt (p.getD (m - 1) 0) (p.getD m 0)=false:=by simpa using d
    refine sk_desc N hN hq f p (m+1) (q+1) g (by omega) (by omega) (by omega) (dp.snoc o h1 d') fun i j hi hi' hj hj'=>?_
    by_cases ei:i=m
    ·subst ei;by_cases ej:j=i
     ·subst ej;exact o.irr _
     ·exact o.tr _ _ _ (er (i - 1) j (by omega) (by omega) (by omega) (by omega)) c'
    ·by_cases ej:j=m
     ·subst ej;exact o.tr _ _ _ d' (er i (j - 1) (by omega) (by omega) (by omega) (by omega))
     ·exact er i j (by omega) (by omega) (by omega) (by omega)
theorem sk_tail3 (g:Gd n p) (N:Nat) (hN:N<=n) (hq:∀ m p,Gd n p->SPk lt p m->1<=m->m<=N->Q (m,p) s) (m:Nat) (h1:1<=m) (h2:m<=N) (dp:DPk lt p m):(kas_tail3 m N p).kasWp cmp Q s:=by
 unfold kas_tail3;rw[KasT.kasWp_bind];have sz:=g.size;exact sk_asc o hask h0 (g.rev _ _) N (fun m' sp a b _=>hq m' _ (g.rev _ _) sp a b) _ _ h1 (by omega) (dp.turn (by omega))
theorem qF1 (g:Gd n p) (N:Nat) (hN:N<=n) (hq:∀ m p,Gd n p->SPk lt p m->1<=m->m<=N->Q (m,p) s) (m:Nat) (h2:m+1<=N) (dp:DPk lt p (m+1)):(kas_descPart m N p).kasWp cmp Q s:=by
 unfold kas_descPart;rw[KasT.kasWp_bind];refine sk_desc o hask h0 N hN (fun p' m' q g' a b c dp' er=>?_) _ _ _ _ g (by omega) (by omega) (by omega) dp fun i j hi hi' hj hj'=>?_
 ·have sz:=g'.size;dsimp only;split
  ·exact sk_tail3 o hask h0 (g'.rev _ _) N hN hq _ a c (dp'.rev (by omega) (hA5 _) er)
  ·exact sk_tail3 o hask h0 g' N hN hq _ a c dp'
 ·have e1:i=m:=by omega
  have e2:j=m:=by omega
  subst e1 e2;exact o.irr _
theorem sk_count (g:Gd n p) (hq:∀ m p,Gd n p->SPk lt p m->1<=m->m<=n->Q (m,p) s):(kas_count n p).kasWp cmp Q s:=by
 unfold kas_count;rw[KasT.kasWp_bind];have sz:=g.size;refine sk_asc o hask h0 g n (fun m sp m1 mn st=>?_) _ _ (hA5 _) (by omega) (fun i j hij hj=>by omega);split
 ·exact hq _ _ g sp m1 mn
 ·rename_i c;have c':m≠n:=by simpa using c
  have lt1:=st (by omega);have ge1:=o.asym _ _ lt1;split
  ·refine hask _ _ _ (g.lt h0 _) (g.lt h0 _) ?_;dsimp only;split
   ·exact hq _ _ g sp m1 mn
   ·rename_i d;have d':lt (p.getD 0 0) (p.getD (m - 1) 0)=false:=by simpa using d
    have lo:∀ i,i<m->lt (p.getD (m - 1) 0) (p.getD i 0)=false:=fun i hi=>by
     by_cases e:i=m - 1
     ·subst e;exact o.irr _
     ·exact sp i (m - 1) (by omega) (by omega)
    have hi0:∀ j,j<m->lt (p.getD j 0) (p.getD 0 0)=false:=fun j hj=>by
     by_cases e:j=0
     ·subst e;exact o.irr _
     ·exact sp 0 j (by omega) hj
    have er:ERk lt p 0 m:=fun i j _ hi _ hj=>o.tr _ _ _ (o.tr _ _ _ (lo j hj) d') (hi0 i hi)
    refine qF1 o hask h0 (g.rev _ _) n (hA5 _) hq m (by omega) fun i j hij hj=>?_
    rw[qG5 (by omega),qG5 (by omega)];by_cases ej:j=m
    ·subst ej;rw[if_pos (by omega),if_neg (by omega)];exact o.tr _ _ _ ge1 (er _ _ (by omega) (by omega) (by omega) (by omega))
    ·rw[if_pos (by omega),if_pos (by omega)];exact er _ _ (by omega) (by omega) (by omega) (by omega)
  ·have e:m=1:=by omega
   subst e;refine qF1 o hask h0 g n (hA5 _) hq 1 (by omega) fun i j hij hj=>?_
   have e1:i=0:=by omega
   have e2:j=1:=by omega
   subst e1 e2;exact ge1
theorem sk_place (g:Gd n p) (k:Nat) (sp:SPk lt p k) (hq:∀ l,l<=k->(∀ i,i<l->lt (p.getD k 0) (p.getD i 0)=false)->(∀ i,l<=i->i<k->lt (p.getD i 0) (p.getD k 0)=false)->Q l s) :
  ∀ f l r,l<=r->r<=k->r - l<=f->(∀ i,i<l->lt (p.getD k 0) (p.getD i 0)=false)->(∀ i,r<=i->i<k->lt (p.getD i 0) (p.getD k 0)=false)->(kas_place p k f l r).kasWp cmp Q s
 | 0,l,r,h1,h2,h3,a,b=>hq l (by omega) a fun i hi hk=>b i (by omega) hk
 | f+1,l,r,h1,h2,h3,a,b=>by
  unfold kas_place;split
  ·exact hq l (by omega) a fun i hi hk=>b i (by omega) hk
  ·refine hask _ _ _ (g.lt h0 _) (g.lt h0 _) ?_;dsimp only;split
   ·rename_i c;have c':=o.asym _ _ c;refine sk_place g k sp hq f l ((l+r) / 2) (by omega) (by omega) (by omega) a fun i hi hk=>?_
    by_cases e:i=(l+r) / 2
    ·subst e;exact c'
    ·exact o.tr _ _ _ c' (sp _ _ (by omega) hk)
   ·rename_i c;have c':lt (p.getD k 0) (p.getD ((l+r) / 2) 0)=false:=by simpa using c
    refine sk_place g k sp hq f ((l+r) / 2+1) r (by omega) h2 (by omega) (fun i hi=>?_) b;by_cases e:i=(l+r) / 2
    ·subst e;exact c'
    ·exact o.tr _ _ _ (sp i ((l+r) / 2) (by omega) (by omega)) c'
theorem sk_bin (hq:∀ p,Gd n p->SPk lt p n->Q p s):∀ f p k,Gd n p->k+f=n->SPk lt p k->(kas_bin f p k).kasWp cmp Q s
 | 0,p,k,g,h1,sp=>hq p g (by rw[<-h1];exact sp)
 | f+1,p,k,g,h1,sp=>by
  unfold kas_bin;rw[KasT.kasWp_bind];have sz:=g.size;refine sk_place o hask h0 g k sp (fun l hl a b=>sk_bin hq f _ _ (g.bub _ _) (by omega) fun i j hij hj=>?_) k 0 k (by omega) (hA5 _) (by omega) (fun i hi=>by omega) (fun i hi hk=>by omega);rw[bub_at (by omega) hl,bub_at (by omega) hl];by_cases ej:j=l
  ·rw[if_pos ej,if_neg (by omega),if_neg (by omega)];exact a i (by omega)
  ·rw[if_neg ej];by_cases ej2:l<j/\j<=k
   ·rw[if_pos ej2];by_cases ei:i=l
    ·rw[if_pos ei];exact b (j - 1) (by omega) (by omega)
    ·rw[if_neg ei];split
     ·exact sp _ _ (by omega) (by omega)
     ·exact sp _ _ (by omega) (by omega)
   ·rw[if_neg ej2,if_neg (by omega),if_neg (by omega)];exact sp _ _ hij (by omega)
theorem sk_sort (hq:∀ p,Gd n p->SPk lt p n->Q p s):(kas_sort n).kasWp cmp Q s:=by
 unfold kas_sort;rw[KasT.kasWp_bind];refine sk_count o hask h0 (Array.Perm.refl _) (fun m p g sp m1 mn=>?_);dsimp only;have e:max m 1=m:=by omega
 rw[e];split
 ·exact sk_bin o hask h0 hq _ _ _ g (by omega) sp
 ·have e2:m=n:=by omega
  subst e2;exact hq _ g sp
end
end L2
namespace L2
open PySem PySem.Spec PyProof.Rows PySem.W
theorem txTri:∀ a b:List Nat,a<b\/a=b\/b<a
 | [],[]=>.inr (.inl rfl)
 | [],_ :: _=>.inl (List.nil_lt_cons _ _)
 | _ :: _,[]=>.inr (.inr (List.nil_lt_cons _ _))
 | x :: a,y :: b=>by
  rcases Nat.lt_trichotomy x y with h | h | h
  ·exact .inl (hC3.mpr (.inl h))
  ·subst h;rcases txTri a b with h | h | h
   ·exact .inl (hC3.mpr (.inr ⟨rfl,h⟩))
   ·exact .inr (.inl (by rw[h]))
   ·exact .inr (.inr (hC3.mpr (.inr ⟨rfl,h⟩)))
  ·exact .inr (.inr (hC3.mpr (.inl h)))
theorem txExt {x y:Str} (h:x.cps.toList=y.cps.toList):x=y:=by
 cases x;cases y;simp only[Str.mk.injEq];exact hDl.mp h
noncomputable def sLtB (x y:Str):Bool:=decide (x.cps.toList<y.cps.toList)
theorem sLtB_irr (x:Str):sLtB x x=false:=decide_eq_false (List.lt_irrefl _)
theorem qG3 (h:sLtB x y=true) (h':sLtB y z=true):sLtB x z=true:=decide_eq_true (List.lt_trans (of_decide_eq_true h) (of_decide_eq_true h'))
theorem sLtB_tri (x y:Str):sLtB x y=true\/x=y\/sLtB y x=true:=by
 rcases txTri x.cps.toList y.cps.toList with h | h | h
 ·exact .inl (decide_eq_true h)
 ·exact .inr (.inl (txExt h))
 ·exact .inr (.inr (decide_eq_true h))
noncomputable def ltL:List Str->List Str->Bool
 | [],[]=>false
 | [],_ :: _=>true
 | _ :: _,[]=>false
 | x :: r,y :: t=>if x=y then ltL r t else sLtB x y
theorem ltL_irr:∀ a:List Str,ltL a a=false
 | []=>rfl
 | x :: r=>by unfold ltL;rw[if_pos rfl];exact ltL_irr r
theorem ltL_tri:∀ a b:List Str,ltL a b=true\/a=b\/ltL b a=true
 | [],[]=>.inr (.inl rfl)
 | [],_ :: _=>.inl rfl
 | _ :: _,[]=>.inr (.inr rfl)
 | x :: r,y :: t=>by
  unfold ltL;by_cases e:x=y
  ·subst e;rw[if_pos rfl,if_pos rfl];rcases ltL_tri r t with h | h | h
   ·exact .inl h
   ·exact .inr (.inl (by rw[h]))
   ·exact .inr (.inr h)
  ·rw[if_neg e,if_neg (fun z=>e z.symm)];rcases sLtB_tri x y with h | h | h
   ·exact .inl h
   ·exact absurd h e
   ·exact .inr (.inr h)
theorem qEk:∀ a b c:List Str,ltL a b=true->ltL b c=true->ltL a c=true
 | [],_,[],h,h'=>by
  rename_i b;cases b with
  | nil=>exact h
  | cons _ _=>cases h'
 | [],_,_ :: _,_,_=>rfl
 | _ :: _,[],_,h,_=>by cases h
 | _ :: _,_ :: _,[],_,h'=>by cases h'
 | x :: r,y :: t,z :: u,h,h'=>by
  unfold ltL at h h' ⊢;by_cases e1:x=y
  ·subst e1;rw[if_pos rfl]at h;by_cases e2:x=z
   ·subst e2;rw[if_pos rfl]at h' ⊢;exact qEk r t u h h'
   ·rw[if_neg e2]at h' ⊢;exact h'
  ·rw[if_neg e1]at h;by_cases e2:y=z
   ·subst e2;rw[if_neg e1];exact h
   ·rw[if_neg e2]at h';have q:=qG3 h h';have e3:¬x=z:=fun e=>by rw[e,sLtB_irr]at q;cases q
    rw[if_neg e3];exact q
theorem ltL_asym (a b:List Str) (h:ltL a b=true):ltL b a=false:=by
 cases q:ltL b a with
 | false=>rfl
 | true=>have:=qEk a b a h q;rw[ltL_irr]at this;cases this
noncomputable def ltI (ts:List (List Str)) (i j:Nat):Bool:=ltL (ts.getD i []) (ts.getD j [])
theorem ltI_ord (ts:List (List Str)):Ordr (ltI ts):=⟨fun a b h=>ltL_asym _ _ h,fun a b c h h'=>by
 have h1:ltL (ts.getD b []) (ts.getD a [])=false:=h;have h2:ltL (ts.getD c []) (ts.getD b [])=false:=h';show ltL (ts.getD c []) (ts.getD a [])=false;rcases ltL_tri (ts.getD a []) (ts.getD b []) with q | q | q
 ·rcases ltL_tri (ts.getD b []) (ts.getD c []) with r | r | r
  ·exact ltL_asym _ _ (qEk _ _ _ q r)
  ·rw[<-r];exact h1
  ·rw[h2]at r;cases r
 ·rw[q];exact h2
 ·rw[h1]at q;cases q⟩
theorem qHe (vs:List Value):(List.range vs.length).map (fun i=>vs.getD i Value.none)=vs:=by
 refine hDu fun i=>?_
 by_cases hi:i<vs.length
 ·rw[hAs,List.getElem?_range hi,hA2 hi];show some (vs.getD i Value.none)=_;rw[hAk,hA2 hi];rfl
 ·rw[hCe (by simp;omega),hCe (by omega)]
end L2
namespace L2
open PySem PySem.Spec PyProof.Rows PySem.W
theorem gd_mem (g:Gd n o) (hi:i∈o.toList):i<n:=by
 have:=(hBw.mp g).mem_iff.mp hi
 simpa using this
theorem gd_len (g:Gd n o):o.toList.length=n:=by
 have:=g.size
 simpa using this
theorem outs_refs {as:List Addr} {l:List Nat} (h:∀ i∈l,i<as.length):l.map (fun i=>(as.map Value.ref).getD i Value.none)=(l.map fun i=>as.getD i 0).map Value.ref:=by
 rw[hAo];refine hBs fun i hi=>?_
 have:=h i hi;show(as.map Value.ref).getD i Value.none=Value.ref (as.getD i 0);rw[hAk,hAk,hAs,hA2 this];rfl
end L2
namespace L2
open PySem PySem.Spec PyProof.Rows PySem.W
open AutoSeq1 (wpAny_loadPart')
open MeetsSeq MeetsSeq2 MeetsSeq3 SeqRoads2
theorem strs_at (h:StrsAre vs x):∀ {i:Nat},i<vs.length->∃ t,vs[i]?=some (.str (x.getD i "") t):=by
 induction h with
 | nil=>intro i hi;exact absurd hi (hCs _)
 | cons p t r ih =>
  intro i hi;cases i with
  | zero=>exact⟨t,rfl⟩
  | succ i=>simpa using ih (i:=i) (by simpa using hi)
theorem drop_at {x:List Str} {i:Nat} (h:i<x.length):x.drop i=x.getD i "" :: x.drop (i+1):=by
 rw[hD1 h,hAk,hA2 h];rfl
theorem lt_loopS (l b:Addr) (items items2:Array Value) (n n2:Nat) (dd dd2:Option Addr) (sl sl2:Array (Option Value)) (x y:List Str) (hx:StrsAre items.toList x) (hy:StrsAre items2.toList y):∀ (k i:Nat),items.size - i=k->i<=items.size->i<=items2.size ->
  Meets (Builtin.«list.__eq__.loop» ⟨[.ref l,.ref b,rawInt i,rawInt 0],[]⟩)
   (fun A R s=>(s.heap.get? l=some { cls:=.type "list",dict:=dd,data:=.seq items n,slots:=sl }/\s.heap.get? b=some { cls:=.type "list",dict:=dd2,data:=.seq items2 n2,slots:=sl2 })/\R (.ok (.ret (.bool (ltL (x.drop i) (y.drop i))))) s):=by
 have lx:items.size=x.length:=by rw[<-hx.strs];simp
 have ly:items2.size=y.length:=by rw[<-hy.strs];simp
 intro k
 induction k with
 | zero =>
  intro i hk h1 h2 prog w A R s h;obtain⟨hp,g,d,tk,os⟩:=s;obtain⟨⟨hl,hb⟩,h⟩:=h;have e1:i=items.size:=by omega
  have q1:items[((i:Nat):Int).toNat]?=none:=by simp;omega
  wp_walk using wpAny_loadPart' hl,wpAny_loadPart' hb
  rw[q1]
  wp_walk using wpAny_loadPart' hl,wpAny_loadPart' hb
  have dx:x.drop i=[]:=by simp;omega
  rw[dx]at h;show R (.ok (.ret (.bool (decide (items.size<items2.size))))) _;cases hd:y.drop i with
  | nil =>
   rw[hd]at h;have:y.length<=i:=by simpa using hd
   rw[decide_eq_false (by omega)];exact h
  | cons a r =>
   rw[hd]at h;have:i<y.length:=by
    have:=congrArg List.length hd;rw[hCa,hCi]at this;omega
   rw[decide_eq_true (by omega)];exact h
 | succ k ih =>
  intro i hk h1 h2 prog w A R s h;obtain⟨hp,g,d,tk,os⟩:=s;obtain⟨⟨hl,hb⟩,h⟩:=h;have hlt:i<items.size:=by omega
  obtain⟨t1,q1⟩:=strs_at hx (i:=i) (by simpa using hlt);rw[hBa]at q1;have q1':items[((i:Nat):Int).toNat]?=some (.str (x.getD i "") t1):=q1;have dx:=drop_at (x:=x) (i:=i) (by omega)
  wp_walk using wpAny_loadPart' hl,wpAny_loadPart' hb
  rw[q1'];by_cases hlt2:i<items2.size
  ·obtain⟨t2,q2⟩:=strs_at hy (i:=i) (by simpa using hlt2);rw[hBa]at q2;have q2':items2[((i:Nat):Int).toNat]?=some (.str (y.getD i "") t2):=q2;have dy:=drop_at (x:=y) (i:=i) (by omega);have hc:((i:Int)+1)=((i+1:Nat):Int):=by push_cast;rfl
   rw[dx,dy]at h;unfold ltL at h;rw[q2'];refine wpAny_bind (wpAny_eqBool_str ?_);by_cases e:x.getD i "" = y.getD i ""
   ·rw[if_pos e]at h;rw[decide_eq_true e]
    wp_walk
    rw[hc];exact⟨plainId_quiet plain_eq_loop _,codeAny_builtin entry_eq_loop (by
     rw[Around.under_plainId plain_eq_loop _];exact ih (i+1) (by omega) (by omega) (by omega) prog w A R _ ⟨⟨hl,hb⟩,h⟩)⟩
   ·rw[if_neg e]at h;rw[decide_eq_false e]
    wp_walk using wpAny_loadPart' hl,wpAny_loadPart' hb
    rw[q1',q2'];refine wpAny_bind (richCompare_gives (op:=.Lt) (typeIs_str _ _ _) (typeIs_str _ _ _) F.slot_str_lt F.entry_str_lt (F.args_str_lt_2 _ _) (gives_str_lt _ _ _ _) (fun e=>nomatch e) ?_);exact wpAny_pure h
  ·have q2':items2[((i:Nat):Int).toNat]?=none:=by simp;omega
   rw[q2']
   wp_walk using wpAny_loadPart' hl,wpAny_loadPart' hb
   have dy:y.drop i=[]:=by simp;omega
   rw[dx,dy]at h;show R (.ok (.ret (.bool (decide (items.size<items2.size))))) _;rw[decide_eq_false (by omega)];exact h
theorem list_ltS (l b:Addr) (items items2:Array Value) (n n2:Nat) (dd dd2:Option Addr) (sl sl2:Array (Option Value)) (x y:List Str) (hx:StrsAre items.toList x) (hy:StrsAre items2.toList y) :
  Meets (Builtin.«list.__lt__» ⟨[.ref l,.ref b],[]⟩)
   (fun A R s=>(s.heap.get? l=some { cls:=.type "list",dict:=dd,data:=.seq items n,slots:=sl }/\s.heap.get? b=some { cls:=.type "list",dict:=dd2,data:=.seq items2 n2,slots:=sl2 })/\R (.ok (.ret (.bool (ltL x y)))) s):=by
 intro prog w A R s h;obtain⟨hp,g,d,tk,os⟩:=s;obtain⟨⟨hl,hb⟩,h⟩:=h;have f3:=AutoSeq1.sub_list_list
 wp_walk using wpAny_loadPart' hl,wpAny_loadPart' hb
 exact⟨plainId_quiet plain_eq_loop _,codeAny_builtin entry_eq_loop (by
  rw[Around.under_plainId plain_eq_loop _];exact lt_loopS l b items items2 n n2 dd dd2 sl sl2 x y hx hy _ 0 rfl (hAp _) (hAp _) prog w A R _ ⟨⟨hl,hb⟩,h⟩)⟩
theorem keyLt_lists (hu:A.units<cLine) (hl:s.heap.IsList l items) (hb:s.heap.IsList b items2) (hx:StrsAre items.toList x) (hy:StrsAre items2.toList y)
  (h:Q (ltL x y) s):wpAny (model P w) A (keyLt' oneType' (.ref l) (.ref b)) Q E s:=by
 obtain⟨⟨cls,dd,data,sl⟩,ho,hc,n,hd⟩:=hl;obtain⟨⟨cls2,dd2,data2,sl2⟩,ho2,hc2,n2,hd2⟩:=hb;simp only at hc hd hc2 hd2;subst hc hd hc2 hd2;rw[keyLt'_oneType,oneLt'_eq];simp only[if_true];refine wpAny_bind (wpAny_cRoomFor hu ?_);refine wpAny_bind (wpAny_callSpecialIfBound?_slot (⟨_,ho,rfl⟩:s.TypeIs (.ref l) "list") F.slot_list_lt (call_meets F.slot_list_lt ⟨_,ho,rfl⟩ F.entry_list_lt (F.args_list_lt_2 _ _) (list_ltS l b items items2 n n2 dd dd2 sl sl2 x y hx hy) ⟨⟨ho,ho2⟩,?_⟩));exact wpAny_truthy_bool h
end L2
namespace L2
open PySem PySem.Spec PyProof.Rows PySem.W
def LstS (h:Heap) (v:Value) (t:List Str):Prop:=∃ a its,v = .ref a/\h.IsList a its/\StrsAre its.toList t
theorem lists_mem:∀ {vs:List Value} {ts:List (List Str)},Paired (LstS h) vs ts->∀ v∈vs,∃ t∈ts,LstS h v t
 | _,_,.nil,v,hv=>by cases hv
 | _,_,.cons x r,v,hv=>by
  rcases hAh.mp hv with z | z
  ·subst z;exact⟨_,hAe,x⟩
  ·obtain⟨t,ht,q⟩:=lists_mem r v z;exact⟨t,hAc _ ht,q⟩
section
variable {P:Program} {w:World} {A:Around} {E:Value->Shared->Prop} {s:Shared}
theorem qGi {h h':Heap} {a:Addr} (k:∀ b o,b≠a->h.get? b=some o->h'.get? b=some o):∀ {vs:List Value} {ts:List (List Str)} {i:Nat},Paired (LstS h) vs ts->(∀ v∈vs,v≠.ref a)->i<vs.length->∃ (b:Addr) (its:Array Value),h'.IsList b its/\vs.getD i Value.none = .ref b/\StrsAre its.toList (ts.getD i [])
 | _,_,i,.nil,_,hi=>absurd hi (hCs _)
 | _,_,0,@Paired.cons _ _ _ v t l1 l2 hh tt,hn,_=>by
  obtain⟨b,its,rfl,⟨o,g,c,n,d⟩,st⟩:=hh;have nb:b≠a:=fun z=>hn _ hAe (by rw[z])
  exact⟨b,its,⟨o,k b o nb g,c,n,d⟩,rfl,st⟩
 | _,_,i+1,@Paired.cons _ _ _ v t l1 l2 hh tt,hn,hi=>qGi (i:=i) k tt (fun u hu=>hn u (hAc _ hu)) (by simpa using hi)
theorem sort_listsO (hu:A.units<cLine) (ho:s.heap.get? a=some (seqObj "list" vs.toArray n)) (ht:Paired (LstS s.heap) vs ts) (h64:vs.length<64) (hna:∀ v∈vs,v≠.ref a)
  (h:∀ (out:List Value) (p:Array Nat),out.Perm vs->Gd vs.length p->SPk (ltI ts) p vs.length->out=p.toList.map (fun i=>vs.getD i Value.none)->R (.done (.ret .none)) { s with heap:=sortedHeap s.heap a vs out.toArray }):wpAny (model P w) A (Builtin.«list.sort» ⟨[.ref a],[]⟩) R E s:=by
 rw[list_sort_plain];have ha:a<s.heap.objs.size:=Heap.lt_size ho;refine wpAny_bind (listItems_at ho rfl (wpAny_bind (listUpdate_at ho rfl ?_ (by rw[hAa,sizeLine_eq];omega) (hAp _))));obtain⟨e1,ho1⟩:∃ e1,(s.heap.update a (Obj.mapSeq fun _=>#[])).get? a=some (seqObj "list" #[] e1):=⟨_,get?_update_seq ho (fun _=>#[])⟩;refine wpAny_bind (seqEpoch_at ho1 rfl (wpAny_bind (wpAny_newTuple ?_ (by show vs.length<=_;rw[sizeLine_eq];omega))));refine wpAny_bind (wpAny_newList ?_ (hAp _));refine wpAny_holding ?_;have ho6:(((s.heap.update a (Obj.mapSeq fun _=>#[])).push (seqObj "tuple" vs.toArray 0)).push (seqObj "list" #[] 0)).get? a=some (seqObj "list" #[] e1):=Heap.get?_push_of_some _ (Heap.get?_push_of_some _ ho1);have keep:∀ b o,b≠a->s.heap.get? b=some o->(((s.heap.update a (Obj.mapSeq fun _=>#[])).push (seqObj "tuple" vs.toArray 0)).push (seqObj "list" #[] 0)).get? b=some o:=fun b o hb e=>by
  refine Heap.get?_push_of_some _ (Heap.get?_push_of_some _ ?_);rw[Heap.get?_update_ne _ _ _ _ hb];exact e
 show wpAny (model P w) A _ R E { s with heap:=((s.heap.update a (Obj.mapSeq fun _=>#[])).push (seqObj "tuple" vs.toArray 0)).push (seqObj "list" #[] 0) };dsimp only;have fin:∀ (st':SortSt) (out:List Value),(arrOf st').map (·.2)=out.toArray->failedOf st'=none->out.Perm vs->(∃ p,Gd vs.length p/\SPk (ltI ts) p vs.length/\out=p.toList.map (fun i=>vs.getD i Value.none))->wpAny (model P w) A (do
   let touched:=(← seqEpoch a) != e1
   Builtin.List.listUpdate (.ref a) fun _=>(arrOf st').map (·.2)
   if let some e:=failedOf st' then rule "list.sort.comparison-raised";throw e
   if touched then rule "list.sort.modified";raiseError "ValueError" "list modified during sort"
   ret .none) R E { s with heap:=((s.heap.update a (Obj.mapSeq fun _=>#[])).push (seqObj "tuple" vs.toArray 0)).push (seqObj "list" #[] 0) }:=by
  intro st' out e hf hp ⟨p,hg,hsp,ep⟩;refine wpAny_bind (seqEpoch_at ho6 rfl ?_);refine wpAny_bind (listUpdate_at ho6 rfl ?_ (hAp _) (by rw[e,hAa,hp.length_eq,sizeLine_eq];omega));rw[hf];simp only[bne_self_eq_false,hBv,if_false];rw[e];exact wpAny_pure (h out p hp hg hsp ep)
 by_cases h2:vs.toArray.size<2
 ·rw[if_pos h2,if_pos h2];refine wpAny_bind (wpAny_pure ?_);rw[StateT.run_pure];refine wpAny_bind (wpAny_pure (fin _ vs ?_ rfl (hCo _) ⟨Rng vs.length,Array.Perm.refl _,fun i j hij hj=>absurd hj (by rw[hAa]at h2;omega),(qHe vs).symm⟩));show(vs.toArray.zip vs.toArray).map (·.2)=vs.toArray;apply hDl.mp;rw[hDm,hDz];exact hCu (hA5 _)
 ·rw[if_neg h2,if_neg h2];have hl2:2<=vs.length:=by rw[hAa]at h2;omega
  refine wpAny_bind (kas_kind (T:=.type "list") hl2 (fun v hv=>?_) (by decide) (by decide) ?_)
  ·obtain⟨t,_,b,its,rfl,⟨o,g,c,_⟩,st⟩:=lists_mem ht v hv;have nb:b≠a:=fun z=>hna _ hv (by rw[z])
   exact kitAt_ty _ _ ⟨o,keep b o nb g,c⟩
  refine wpAny_bind (wpAny_mono (kat_run (ks:=vs) (Q:=fun st' s'=>s'={ s with heap:=((s.heap.update a (Obj.mapSeq fun _=>#[])).push (seqObj "tuple" vs.toArray 0)).push (seqObj "list" #[] 0) }/\∃ out:List Value,(arrOf st').map (·.2)=out.toArray/\failedOf st'=none/\out.Perm vs/\∃ p,Gd vs.length p/\SPk (ltI ts) p vs.length/\out=p.toList.map (fun i=>vs.getD i Value.none)) (G:=fun p s'=>s'={ s with heap:=((s.heap.update a (Obj.mapSeq fun _=>#[])).push (seqObj "tuple" vs.toArray 0)).push (seqObj "list" #[] 0) }/\Gd vs.length p/\SPk (ltI ts) p vs.length) rfl hl2 h64 (fun p st' s' a1 a2 a3 a4=>?_) ?_) ?_ fun _ _ e=>e)
  ·obtain⟨rfl,g,sp⟩:=a4;refine⟨rfl,_,kat_snds rfl a2,a3,?_,p,g,sp,rfl⟩;have q:=(hBw.mp g).map fun i=>vs.getD i Value.none
   exact q.trans (List.Perm.of_eq (qHe vs))
  ·refine sk_sort (ltI_ord ts) (fun i j C hi hj hC=>?_) (by omega) fun p g sp=>⟨rfl,g,sp⟩
   obtain⟨x1,y1,z1,v1,w1⟩:=qGi keep ht hna hi;obtain⟨x2,y2,z2,v2,w2⟩:=qGi keep ht hna hj;show wpAny _ _ (keyLt' _ (vs.getD i Value.none) (vs.getD j Value.none)) C _ _;rw[v1,v2];exact keyLt_lists hu z1 z2 w1 w2 hC
  ·rintro⟨⟨⟩,st'⟩ s' ⟨rfl,out,q1,q2,q3,q4⟩;exact fin st' out q1 q2 q3 q4
end
section
variable {X:Cx}
theorem lists_mk (I:Inv X pins σ H s) (k:∀ b o,s.heap.get? b=some o->h'.get? b=some o):∀ {as:List Addr} {ts:List (List Str)},Paired (fun a t=>SqL X.K H a (t.map V.str)) as ts->Paired (LstS h') (as.map Value.ref) ts
 | _,_,.nil=>.nil
 | _,_,.cons h t=>by
  obtain⟨its,rv,⟨o,n,e,c,_,dt⟩,_⟩:=I.list h;exact .cons ⟨_,its.toArray,rfl,⟨o,k _ _ e,c,_,dt⟩,by simpa using qDj rv⟩ (lists_mk I k t)
theorem lists_lt (I:Inv X pins σ H s):∀ {as:List Addr} {ts:List (List Str)},Paired (fun a t=>SqL X.K H a (t.map V.str)) as ts->∀ b∈as,b<s.heap.objs.size
 | _,_,.nil,b,hb=>by cases hb
 | _,_,.cons h t,b,hb=>by
  rcases hAh.mp hb with z | z
  ·subst z;obtain⟨its,rv,⟨o,n,e,_⟩,_⟩:=I.list h;exact Heap.lt_size e
  ·exact lists_lt I t b z
theorem call_sortedLO (hu:X.A.units+2<cLine):qB9 X (.builtin "sorted") (fun xs H Q=>∃ (p:Addr) (as:List Addr) (ts:List (List Str)),xs=[.ref p]/\SqL X.K H p (as.map V.ref)/\Paired (fun a t=>SqL X.K H a (t.map V.str)) as ts/\as.length<64/\∀ (r:Addr) (o:Array Nat),H r=none->Gd as.length o->SPk (ltI ts) o as.length->Q (.ref r) (upd H r (.lst ((o.toList.map fun i=>as.getD i 0).map V.ref)))):=by
 intro pins s σ H xs us Q I r h;obtain⟨p,as,ts,rfl,hq,ht,h64,q⟩:=h;obtain⟨u,rfl,rx⟩:=qCs r;cases rx;obtain⟨its,rv,pl,hz⟩:=I.list hq;have ei:=refs_of rv;subst ei;refine Calls.call_function_entry kind_sorted plain_sorted entry_sorted (args_sorted1 _) ?_;unfold Builtin.«sorted»;refine wpAny_bind (m:=checkCount "sorted" 1 1 _) (wpAny_pure (wpAny_bind (collect_list pl.isList ?_ (by rw[hA1,sizeLine_eq];omega))));refine wpAny_bind (wpAny_newList ?_ (by rw[hA1,sizeLine_eq];omega));have hsz:((s.heap.push (seqObj "list" #[] 0)).update s.heap.objs.size (Obj.mapSeq (·++(as.map Value.ref).toArray))).objs.size=s.heap.objs.size+1:=by rw[Heap.size_update,size_push']
 have hoL:(((s.heap.push (seqObj "list" #[] 0)).update s.heap.objs.size (Obj.mapSeq (·++(as.map Value.ref).toArray))).push (seqObj "list" (as.map Value.ref).toArray 0)).get? (s.heap.objs.size+1)=some (seqObj "list" (as.map Value.ref).toArray 0):=by
  rw[<-hsz];exact Heap.get?_push_size _ rfl
 have keep:∀ b o,s.heap.get? b=some o->(((s.heap.push (seqObj "list" #[] 0)).update s.heap.objs.size (Obj.mapSeq (·++(as.map Value.ref).toArray))).push (seqObj "list" (as.map Value.ref).toArray 0)).get? b=some o:=fun b o e=>by
  have hlt:b<s.heap.objs.size:=Heap.lt_size e;rw[Heap.get?_push_ne _ _ _ (by rw[hsz];exact hB0 (hDb hlt)),Heap.get?_update_ne _ _ _ _ (hB0 hlt),Heap.get?_push_ne _ _ _ (hB0 hlt)];exact e
 show wpAny _ _ _ _ _ { s with heap:=((s.heap.push (seqObj "list" #[] 0)).update s.heap.objs.size (Obj.mapSeq (·++(as.map Value.ref).toArray))).push (seqObj "list" (as.map Value.ref).toArray 0) };rw[hsz];have tp:=lists_mk (h':=((s.heap.push (seqObj "list" #[] 0)).update s.heap.objs.size (Obj.mapSeq (·++(as.map Value.ref).toArray))).push (seqObj "list" (as.map Value.ref).toArray 0)) I keep ht;refine wpAny_bind (wpAny_holding (wpAny_call_entry slot_list_sort ⟨_,hoL,rfl⟩ entry_list_sort (sort_listsO ?hu hoL tp (by rw[hA1];exact h64) (fun v hv z=>?_) fun out o hp hg hsp eo=>⟨_,rfl,?_⟩) (args_list_sort _)))
 case hu=>omega
 ·obtain⟨b,hb,e⟩:=hA9.mp hv;rw[<-e]at z;injection z with z
  have lt:=lists_lt I ht b hb;exact absurd lt (by rw[z];exact Nat.not_lt_of_le (hBl _))
 rw[hA1]at hg hsp;rw[outs_refs fun i hi=>gd_mem hg hi]at eo;subst eo;have nz:H (s.heap.objs.size+1)=none:=I.hok.fresh (hBl _);obtain⟨e,he⟩:=sortedAll_at s.heap (as.map Value.ref) ((o.toList.map fun i=>as.getD i 0).map Value.ref).toArray;refine wpAny_pure ⟨_,rfl,.ref (s.heap.objs.size+1),_,I.laid (t':=s.toks) (a:=s.heap.objs.size+1) (o:=.lst ((o.toList.map fun i=>as.getD i 0).map V.ref)) (h':=sortedAll s.heap (as.map Value.ref) ((o.toList.map fun i=>as.getD i 0).map Value.ref).toArray) (fun b o eb=>sortedAll_old eb) (hBl _) ⟨?_,(o.toList.map fun i=>as.getD i 0).map Value.ref,e,qD4 _,he⟩,rfl,q _ o nz hg hsp⟩;rw[hA1,hA1,gd_len hg];exact hBd (qAf (by omega))
end
end L2
namespace L2
open PySem PySem.Spec PyProof.Rows
end L2
namespace L2
open PySem PySem.Spec PyProof.Rows PySem.W
abbrev Srt (a:List (List Str)):Prop:=a.Pairwise fun x y=>ltL y x=false
theorem getD_rangeL (ts:List (List Str)):(List.range ts.length).map (fun i=>ts.getD i [])=ts:=by
 refine hDu fun i=>?_
 by_cases hi:i<ts.length
 ·rw[hAs,List.getElem?_range hi,hA2 hi];show some (ts.getD i [])=_;rw[hAk,hA2 hi];rfl
 ·rw[hCe (by simp;omega),hCe (by omega)]
theorem order_rows (g:Gd ts.length o) (sp:SPk (ltI ts) o ts.length):Srt (o.toList.map fun i=>ts.getD i [])/\(o.toList.map fun i=>ts.getD i []).Perm ts:=by
 have sz:=g.size;refine⟨?_,?_⟩
 ·rw[Srt,List.pairwise_iff_getElem];intro i j hi hj hij;rw[hA1]at hi hj;have h:=sp i j hij (by simpa [sz] using hj);rw[List.getElem_map,List.getElem_map];have e:∀ k (hk:k<o.toList.length),o.getD k 0=o.toList[k]:=fun k hk=>by
   have hk':k<o.size:=by simpa using hk
   simp[Array.getD,hk']
  rw[e i hi,e j hj]at h;exact h
 ·have q:=(hBw.mp g).map fun i=>ts.getD i []
  exact q.trans (List.Perm.of_eq (getD_rangeL ts))
end L2
namespace L2
open PySem PySem.Spec PyProof.Rows
theorem qBo {X:Cx} {target iter elt:Expr} {ifs:List Expr} {scope sc:Scope} {pos:Pos} {N N':List Str} {sub:List (Option Nat)} {wi:TI} {g:TG} {tt:TT} {te:TE} (hN:X.N=N) (hsc:X.env.scope=sc)
  (O:CmpOk N sc N' scope sub) (hc:X.calm=true) (hi:PI X target iter wi)
  (B:∀ C s H fp,PG (qDg X scope N' C s H fp) target g/\PTs (qDg X scope N' C s H fp) ifs tt/\PE (qDg X scope N' C s H fp) elt te)
  (hs:∀ x,foldedSetIterable iter X.env x=pure x:=by intro _;rfl):PE X (.ListComp elt [⟨target,iter,ifs,0⟩] scope pos) (tComp sub wi g tt te) :=
 pe_comp hc (by rw[hN,hsc];exact O) hi B hs
theorem qFi {X:Cx} {target iter elt:Expr} {ifs:List Expr} {scope sc:Scope} {pos:Pos} {N N':List Str} {sub:List (Option Nat)} {wi:TI} {g:TG} {tt:TT} {te:TE} {i:Nat} {y:Str} {py spos:Pos} (hN:X.N=N) (hsc:X.env.scope=sc)
  (O:CmpOk N sc N' scope sub) (hc:X.calm=true) (hi:PI X target iter wi)
  (B:∀ C s H fp,PG (qDg X scope N' C s H fp) target g/\PTs (qDg X scope N' C s H fp) ifs tt/\PE (qDg X scope N' C s H fp) elt te)
  (nd:X.N.Nodup) (hy:X.N[i]?=some y) (hx:Loc X.env.scope y)
  (hsw:swapsWith (.ListComp elt [⟨target,iter,ifs,0⟩] scope pos) (some (.Name y py)) spos.line X.env=pure true:=by rfl)
  (hs:∀ x,foldedSetIterable iter X.env x=pure x:=by intro _;rfl) (hf:X.fn y=true\/X.env.scope.names.lookup y=some .local:=by first | exact .inl rfl | exact .inr rfl | assumption) :
  PS X (.Assign [.Name y py] (.ListComp elt [⟨target,iter,ifs,0⟩] scope pos) spos) (tAsg (tComp sub wi g tt te) (gName i)) :=
 ps_comp hc (by rw[hN,hsc];exact O) hi B nd hy hx hsw hs hf
end L2
namespace My
open PySem L2
structure Cl (P:Program) (w:World) (K:PySem.W.Frag) (mg:Str->Option Value) (base:Heap) (CX:CXT) (k:Nat) (f:Addr) (fd:FuncData) (ps:List Str) (sp:Sp) (n:Str):Prop where
 g:FnOk P w K mg base CX k f fd ps sp
 b:Binds K fd ps []
 k:PySem.W.keepIn K (.ref f)=true
 m:mg n=some (.ref f)
theorem qAp {X:Cx} {CX:CXT} {k:Nat} {f:Addr} {fd:FuncData} {ps:List Str} {sp:Sp} {x:Str} {dvs:List V} {E:XK} {e:Expr} {es:List Expr} {t:TA} {p pos:Pos} (G:Cl X.prog X.w X.K X.mg X.base CX k f fd ps sp x) (hr:Room k X.A) (hg:Gl X x) (hd:qA9 dvs []) (hx:Passes CX X E)
  (ha:PA X (e :: es) t) (hdb:(x == ("__debug__" : Str))=false:=by decide) (he:starEach (e :: es) X.env=(false,eval e X.env) :: starEach es X.env:=by rfl) (hpl:(backTo pos (starEach es X.env)).any (·.1)=false:=by rfl):PE X (.Call (.Name x p) (e :: es) [] pos) (tCall sp dvs E t):=pe_call G.g hr hg G.m G.k G.b hd hx ha hdb he hpl
noncomputable def top (i:Nat):Stmt:=PySem.Challenge.pw_roundsalone_k49_quiet_ones.main.body.getD i (.Pass ⟨0,0,0,0⟩)
noncomputable abbrev sMask:Stmt:=top 1
noncomputable abbrev qF5:Stmt:=top 2
noncomputable abbrev sLess:Stmt:=top 3
noncomputable abbrev sRedu:Stmt:=top 4
noncomputable abbrev sSums:Stmt:=top 5
noncomputable abbrev sLead:Stmt:=top 6
noncomputable abbrev sCrM:Stmt:=top 7
noncomputable abbrev sLack:Stmt:=top 8
noncomputable abbrev sTabF:Stmt:=top 9
noncomputable abbrev qF4:Stmt:=top 11
noncomputable abbrev qG4:Stmt:=top 12
noncomputable abbrev sLeft:Stmt:=top 17
noncomputable abbrev qCi:Stmt:=top 19
noncomputable abbrev qE8:Stmt:=top 21
noncomputable abbrev sRMas:Stmt:=top 22
noncomputable abbrev qDw:Stmt:=top 23
noncomputable abbrev qG1:Stmt:=top 24
noncomputable abbrev sIsQ:Stmt:=top 26
noncomputable abbrev qF6:Stmt:=top 27
noncomputable abbrev sCell:Stmt:=top 29
noncomputable abbrev qG2:Stmt:=top 30
noncomputable abbrev sTake:Stmt:=top 31
noncomputable abbrev qD8:Stmt:=top 32
noncomputable abbrev sLLd:Stmt:=top 33
noncomputable abbrev sLSt:Stmt:=top 34
noncomputable abbrev sSpa:Stmt:=top 35
noncomputable abbrev sLCr:Stmt:=top 36
noncomputable abbrev sBou:Stmt:=top 37
noncomputable abbrev sTies:Stmt:=top 38
noncomputable abbrev sStM:Stmt:=top 39
noncomputable abbrev sSma:Stmt:=top 40
noncomputable abbrev sMor:Stmt:=top 41
noncomputable abbrev sMix:Stmt:=top 42
noncomputable abbrev sHou:Stmt:=top 43
noncomputable abbrev sLRow:Stmt:=top 44
noncomputable abbrev sTab:Stmt:=top 45
noncomputable abbrev sLCop:Stmt:=top 46
noncomputable abbrev sGood:Stmt:=top 47
noncomputable abbrev sLLf:Stmt:=top 48
noncomputable abbrev sLHp:Stmt:=top 49
noncomputable abbrev sLLea:Stmt:=top 50
noncomputable abbrev sLIO:Stmt:=top 51
noncomputable abbrev sLQu:Stmt:=top 52
noncomputable abbrev sBlk:Stmt:=top 53
noncomputable abbrev sLaw:Stmt:=top 54
def Ext (H H':Hp):Prop:=∀ b o,H b=some o->H' b=some o
theorem Ext.refl (H:Hp):Ext H H:=fun _ _ h=>h
theorem Ext.trans {H H1 H2:Hp} (a:Ext H H1) (b:Ext H1 H2):Ext H H2:=fun c o h=>b c o (a c o h)
theorem Ext.new {H:Hp} {p:Addr} (h:H p=none) (o:HO):Ext H (upd H p o):=fun b u q=>by rw[upd_ne (qAe q h)];exact q
theorem Ext.none {H H':Hp} (e:Ext H H') {p:Addr} (h:H' p=none):H p=none:=by
 cases q:H p with
 | none=>rfl
 | some o=>rw[e p o q]at h;cases h
def spCell (K:PySem.W.Frag):Sp:=fun vs H Q _=>∃ (a:Addr) (ns:List Int) (k:Int),vs=[.ref a,.int k]/\SqL K H a (ns.map V.int)/\0<=k/\∀ v,Q (.int v) H
section
variable {P:Program} {w:World} {K:PySem.W.Frag} {mg:Str->Option Value} {base:Heap} {f f1:Addr} {fd fd1:FuncData}
theorem scCell:FnScope ["_law_script","_law_k"] ["_law_script","_law_k"] (qAb sCell):=⟨rfl,rfl,rfl,by decide +kernel,rfl,by decide +kernel,by decide +kernel⟩
theorem ok_cell (F:Fun K "_law_cell_at" "_law_cell_at" sCell f fd) (ml:mg "len" = none):FnOk P w K mg base CX0 1 f fd ["_law_script","_law_k"] (spCell K):=by
 refine F.ok scCell (fun vs H Q E h=>?_) (fun cdv A outer s H vs Q E hr h=>?_)
 ·obtain⟨a,ns,k,rfl,_⟩:=h;rfl
 obtain⟨a,ns,k,rfl,hS,h0,q⟩:=h;refine⟨_,qAa (qBf (qAk op_lt (pv 1) (qAj qAi rfl ml hAw (pa_cons (pv 0) pa_nil)) (qAq _)) (pss_one (ps_ret (qBv qBe (pv 0) (pv 1) (fun _ _=>rfl)))) qAu) (pss_one (ps_ret qAc)),?_⟩;try dsimp only[Cx.wish,qBy]
 refine⟨_,rfl,_,rfl,a,_,rfl,.inl hS,_,_,rfl,rfl,_,rfl,?_⟩;refine qBw (fun c=>?_) (fun c=>q 0);have c':k<(((ns.map V.int).length:Nat):Int):=of_decide_eq_true c;rw[hA1]at c';have hk:k.toNat<ns.length:=by omega
 have hv:atI (ns.map V.int) ((k.toNat:Nat):Int)=some (.int ns[k.toNat]):=qB5 (by rw[hAs,hA2 hk] <;> rfl);rw[Int.toNat_of_nonneg h0]at hv;exact⟨_,rfl,_,rfl,a,_,_,_,rfl,rfl,hS,hv,q _⟩
end
end My
namespace My
open PySem L2
theorem qD3:bootBuiltins "isinstance" = some (.builtin "isinstance"):=by decide +kernel
theorem kit_same (K:PySem.W.Frag) (t:Value):PySem.W.kitOne K t t=some true:=by unfold PySem.W.kitOne;rw[if_pos (beq_self_eq_true t)]
theorem qGr:bootBuiltins "range" = some (.type "range"):=by decide +kernel
theorem boot_any':bootBuiltins "any" = some (.builtin "any"):=by decide +kernel
end My
namespace My
open PySem L2
theorem inV_str (n:Str):∀ other:List Str,inV (.str n) (other.map V.str)=decide (n∈other)
 | []=>by simp[inV]
 | x :: r=>by
  have ih:=inV_str n r;unfold inV at ih ⊢;rw[hBf,hCx,ih];show(x == n || decide (n∈r))=_;by_cases e:n=x
  ·subst e;simp
  ·have e':¬x=n:=fun z=>e z.symm
   simp[e,e']
theorem flat_strs:∀ other:List Str,(other.map V.str).all qGy=true:=fun other=>by
 rw[hDy];intro x hx;obtain⟨y,_,rfl⟩:=hA9.mp hx;rfl
def LsS (H:Hp) (a:Addr) (ss:List Str):Prop:=H a=some (.lst (ss.map V.str))
end My
namespace My
open PySem L2
noncomputable abbrev sg:Str:="abcdefghijklmnopqrstuvwxyz0123456789"
noncomputable def sgC (n:Nat):Nat:=sg.cps.toList.getD n 0
theorem sg_len:sg.cps.toList.length=36:=by decide +kernel
theorem sg_nd:sg.cps.toList.Nodup:=by decide +kernel
theorem sg_small:∀ c∈sg.cps.toList,c<128:=by decide +kernel
theorem sg_at {i:Int} (h0:0<=i) (h1:i<36):atI sg.cps.toList i=some (sgC i.toNat):=by
 have hk:i.toNat<sg.cps.toList.length:=by rw[sg_len];omega
 have:=qB5 (xs:=sg.cps.toList) (j:=i.toNat) (v:=sgC i.toNat) (by
  unfold sgC;rw[hAk,hA2 hk];rfl)
 rw[Int.toNat_of_nonneg h0]at this;exact this
theorem sgC_inj {i j:Nat} (hi:i<36) (hj:j<36) (e:sgC i=sgC j):i=j:=by
 have hi':i<sg.cps.toList.length:=by rw[sg_len];exact hi
 have hj':j<sg.cps.toList.length:=by rw[sg_len];exact hj
 unfold sgC at e;rw[hAk,hAk,hA2 hi',hA2 hj']at e;exact(List.getElem_inj sg_nd).mp e
theorem qD7 {i:Nat} (hi:i<36):sgC i<128:=by
 have hi':i<sg.cps.toList.length:=by rw[sg_len];exact hi
 unfold sgC;rw[hAk,hA2 hi'];exact sg_small _ (hBp hi')
def Sm (x:Str):Prop:=∀ c∈x.cps.toList,c<128
theorem Sm.ok {x:Str} (h:Sm x):PyData.strOk x=true:=by
 unfold PyData.strOk;rw[Array.all_eq_true_iff_forall_mem];intro c hc;have:=h c (by simpa using hc);exact decide_eq_true (by omega)
theorem Sm.app {x y:Str} (h:Sm x) (h':Sm y):Sm (x++y):=fun c hc=>by
 rw[Str.cps_append,hBt,hAb]at hc;exact hc.elim (h c) (h' c)
theorem Sm.one {c:Nat} (h:c<128):Sm ⟨#[c]⟩:=fun d hd=>by
 have:d=c:=by simpa using hd
 omega
theorem Sm.nil:Sm "":=fun c hc=>by
 have:c∈([]:List Nat):=hc;cases this
theorem Sm.slice {x:Str} (h:Sm x) (l u:Option Int):Sm (Txt.slice x l u):=fun c hc=>by
 unfold Txt.slice at hc;split at hc
 ·exact h c hc
 ·simp only[hCw]at hc;obtain⟨i,_,hi⟩:=hc;exact h c (by simpa using Array.mem_of_getElem? hi)
end My
namespace My
open PySem L2
noncomputable def qGv (r:List Str):PyData:=.list (r.map .str)
noncomputable def rowsD (F:List (List Str)):PyData:=.list (F.map qGv)
theorem eqv_strs:∀ a b:List Str,PyData.eqvAll (a.map .str) (b.map .str)=decide (a=b)
 | [],[]=>rfl
 | [],_ :: _=>rfl
 | _ :: _,[]=>rfl
 | x :: a,y :: b=>by
  show(x == y && PyData.eqvAll (a.map .str) (b.map .str))=_;rw[eqv_strs a b];by_cases e:x=y
  ·subst e;simp
  ·simp[e]
theorem eqv_row (a b:List Str):PyData.eqv (qGv a) (qGv b)=decide (a=b):=eqv_strs a b
def SOk (r:List Str):Prop:=∀ x∈r,PyData.strOk x=true
theorem lay_strs:∀ {r:List Str},SOk r->PyData.canLayAll0 (r.map .str)=true/\PyData.depthAll (r.map .str)=0
 | [],_=>⟨rfl,rfl⟩
 | x :: r,h=>by
  obtain⟨h1,h2⟩:=lay_strs (r:=r) fun y hy=>h y (hAc _ hy)
  refine⟨?_,?_⟩
  ·show(PyData.strOk x && PyData.canLayAll0 (r.map .str))=true;rw[h1,h x hAe];rfl
  ·show max 0 (PyData.depthAll (r.map .str))=0;rw[h2];rfl
theorem dr_strs {K:PySem.W.Frag} {H:Hp}:∀ r:List Str,DRs K H (r.map V.str) (r.map .str)
 | []=>.nil
 | x :: r=>.cons (.str x) (dr_strs r)
theorem dr_row {K:PySem.W.Frag} {H:Hp} {a:Addr} {r:List Str} (h:LsS H a r):DR K H (.ref a) (qGv r):=.lst (SqL.of h) (dr_strs r)
end My
namespace My
open PySem L2
theorem qF7 {k:Nat} {A:Around} (hr:Room k A):A.units+64<cLine:=by have:=hr.un;omega
theorem qBu:bootBuiltins "list" = some (.type "list"):=by decide +kernel
theorem qCh:bootBuiltins "sorted" = some (.builtin "sorted"):=by decide +kernel
end My
namespace My
open PySem L2
theorem qCv {α:Type} {P:List α->Prop} (h0:P []) (hs:∀ l t,P l->P (l++[t])) (l:List α):P l:=by
 have:∀ r:List α,P r.reverse:=fun r=>by
  induction r with
  | nil=>exact h0
  | cons a r ih=>rw[List.reverse_cons];exact hs _ _ ih
 have q:=this l.reverse
 rwa [List.reverse_reverse]at q
abbrev Tr:=Str×Str×Str
noncomputable abbrev lab (f:Str->Str) (t:Tr):Str->Str:=fun p=>if f p=f t.2.2 then f t.2.1 else f p
noncomputable def homF (net:List Tr):Str->Str:=net.foldl lab id
def isPt (net:List Tr) (x:Str):Prop:=∃ t∈net,x=t.2.1\/x=t.2.2
noncomputable def wStep (kept:List Tr) (t:Tr):List Tr:=if homF kept t.2.1=homF kept t.2.2 then kept else kept++[t]
noncomputable def woodF (net:List Tr):List Tr:=net.foldl wStep []
end My
namespace My
open PySem L2
abbrev Rise (l:List Str):Prop:=l.Pairwise fun a b=>sLtB a b=true
end My
namespace My
open PySem L2
theorem qB1 {α β:Type} {R:α->β->Prop}:∀ {as:List α} {bs:List β} {i:Nat} {a:α},Paired R as bs->as[i]?=some a->∃ b,bs[i]?=some b/\R a b
 | _,_,_,_,.nil,e=>by simp at e
 | _,_,0,_,.cons h _,e=>by simp at e;subst e;exact⟨_,rfl,h⟩
 | _,_,i+1,_,.cons _ t,e=>by
  obtain⟨b,h1,h2⟩:=qB1 (i:=i) t (by simpa using e);exact⟨b,by simpa using h1,h2⟩
theorem qAm {α:Type} {l:List α} {i:Nat} {t:α} (h:l[i]?=some t):l.take (i+1)=l.take i++[t]:=by rw[List.take_add_one,h];rfl
theorem at_lt {α:Type} {l:List α} {i:Nat} {t:α} (h:l[i]?=some t):i<l.length:=(hAv.mp h).1
theorem rise_go:∀ (l:List Str) (p:Str),PyProof.Rows.risingS p l=true->(p :: l).Nodup->Rise (p :: l)
 | [],p,_,_=>hC5 _ _
 | x :: r,p,h,nd=>by
  have h':(!PySem.Spec.ltCps x.cps.toList p.cps.toList && PyProof.Rows.risingS x r)=true:=h;rw[hBo]at h';have nd':=hBu.mp nd;have ih:=rise_go r x h'.2 nd'.2;have px:sLtB p x=true:=by
   have z:=h'.1;rw[PyProof.Rows.ltCps_eq]at z;rcases sLtB_tri p x with t | t | t
   ·exact t
   ·exact absurd t (fun e=>nd'.1 (by rw[e];exact hAe))
   ·rw[decide_eq_true (of_decide_eq_true t)]at z;cases z
  refine hBr.mpr ⟨fun y hy=>?_,ih⟩;rcases hAh.mp hy with e | hy
  ·rw[e];exact px
  ·exact qG3 px ((hBr.mp ih).1 y hy)
theorem rise_of {l:List Str} (h:PyProof.Rows.sortedS l=true) (nd:l.Nodup):Rise l:=by
 cases l with
 | nil=>exact List.Pairwise.nil
 | cons x r=>exact rise_go r x h nd
def PtsOk (net:List Tr) (ps:List Str):Prop:=ps.Nodup/\∀ x,x∈ps↔isPt net x
end My
namespace My
open PySem L2
theorem Ext.over {H H':Hp} {d:Addr} (e:Ext H H') (h:H d=Option.none) (o:HO):Ext H (upd H' d o):=fun b u q=>by rw[upd_ne (qAe q h)];exact e b u q
noncomputable def hD (ps:List Str) (f:Str->Str):List (Key×V):=ps.map fun p=>(Sum.inr p,V.str (f p))
end My
namespace My
open PySem L2
theorem room2 {k:Nat} {A:Around} (hr:Room k A):A.units+2<cLine:=by have:=hr.un;omega
def qC4 (H:Hp) (p:Addr) (F:List (List Str)):Prop:=∃ as:List Addr,H p=some (.lst (as.map V.ref))/\Paired (LsS H) as F
theorem qC4.ext {H H':Hp} {p:Addr} {F:List (List Str)} (h:qC4 H p F) (e:Ext H H'):qC4 H' p F:=by
 obtain⟨as,h1,h2⟩:=h;exact⟨as,e _ _ h1,Paired.mapP h2 fun a r z=>e _ _ z⟩
def RowsY (H0 H:Hp) (fo:Addr) (F:List (List Str)):Prop:=∃ as:List Addr,H fo=some (.lst (as.map V.ref))/\Paired (fun a r=>LsS H a r/\H0 a=none/\a≠fo) as F
theorem RowsY.rows {H0 H:Hp} {p:Addr} {F:List (List Str)} (h:RowsY H0 H p F):qC4 H p F:=by
 obtain⟨as,h1,h2⟩:=h;exact⟨as,h1,Paired.mapP h2 fun a r z=>z.1⟩
def RowsZ (H0 H:Hp) (fo:Addr) (F:List (List Str)):Prop:=∃ as:List Addr,as.Nodup/\H fo=some (.lst (as.map V.ref))/\Paired (fun a r=>LsS H a r/\H0 a=none/\a≠fo) as F
theorem qDy {α β:Type} {R:α->β->Prop}:∀ {as:List α} {bs:List β},Paired R as bs->∀ a∈as,∃ b∈bs,R a b
 | _,_,.nil,a,h=>by cases h
 | _,_,.cons h t,a,ha=>by
  rcases hAh.mp ha with rfl | z
  ·exact⟨_,hAe,h⟩
  ·obtain⟨b,hb,hr⟩:=qDy t a z;exact⟨b,hAc _ hb,hr⟩
theorem getD_rangeA (as:List Addr):(List.range as.length).map (fun i=>as.getD i 0)=as:=by
 refine hDu fun i=>?_
 by_cases hi:i<as.length
 ·rw[hAs,List.getElem?_range hi,hA2 hi];show some (as.getD i 0)=_;rw[hAk,hA2 hi];rfl
 ·rw[hCe (by simp;omega),hCe (by omega)]
theorem pick_perm {as:List Addr} {o:Array Nat} (g:Gd as.length o):(o.toList.map fun i=>as.getD i 0).Perm as :=
 ((hBw.mp g).map fun i=>as.getD i 0).trans (List.Perm.of_eq (getD_rangeA as))
theorem paired_at {R:Addr->List Str->Prop}:∀ {as:List Addr} {ts:List (List Str)} {i:Nat},Paired R as ts->i<as.length->R (as.getD i 0) (ts.getD i [])
 | _,_,i,.nil,hi=>absurd hi (hCs _)
 | _,_,0,.cons h _,_=>h
 | _,_,i+1,.cons _ t,hi=>by simpa using paired_at (i:=i) t (by simpa using hi)
theorem qGh {R:Addr->List Str->Prop} {as:List Addr} {ts:List (List Str)} (pr:Paired R as ts):∀ {l:List Nat},(∀ i∈l,i<as.length)->Paired R (l.map fun i=>as.getD i 0) (l.map fun i=>ts.getD i [])
 | [],_=>.nil
 | i :: l,h=>.cons (paired_at pr (h i hAe)) (qGh pr fun j hj=>h j (hAc _ hj))
end My
namespace My
open PySem L2
end My
namespace My
open PySem L2
noncomputable abbrev enV (e:Int×Int):List V:=[.int e.1,.int e.2]
def EndsAt (H:Hp) (p:Addr) (es:List (Int×Int)):Prop:=∃ as:List Addr,H p=some (.lst (as.map V.ref))/\Paired (fun a e=>H a=some (.tup (enV e))) as es
def InSp (sp:Int) (e:Int×Int):Prop:=(0<=e.1/\e.1<sp)/\0<=e.2/\e.2<sp
section
variable {P:Program} {w:World} {K:PySem.W.Frag} {mg:Str->Option Value} {base:Heap} {f f1 f2:Addr} {fd fd1 fd2:FuncData}
structure EI (H:Hp) (sp n:Int) (i:Nat) (σ:St) (H':Hp) (b' h:Int) (hp fo:Addr) (hs:List Int) (es:List (Int×Int)):Prop where
 st:∃ x6 x7 x8 x9:Option V,σ=[some (.int b'),some (.int n),some (.int sp),some (.ref hp),some (.ref fo),some (.int h),x6,x7,x8,x9]
 ext:Ext H H'
 fo0:H fo=none
 ne:hp≠fo
 hsA:H' hp=some (.lst (hs.map V.int))
 hsl:(hs.length:Int)=sp
 esA:EndsAt H' fo es
 esl:es.length<=i
 esi:∀ e∈es,InSp sp e
end
end My
namespace L2
open PySem PySem.Spec PyProof.Rows
theorem for_pairs {n:Nat} {Ls:Hp->Prop} {xv:Nat->List V} {g:TG} {tb:TS} {D:Ends} {σ:St} {H:Hp} (Pv:Nat->St->Hp->Prop) (h0:Pv 0 σ H) (hl:∀ i σ H,i<=n->Pv i σ H->Ls H)
  (hs:∀ i σ H T,i<n->Pv i σ H->H T=none->g (.ref T) σ (upd H T (.tup (xv i))) fun σ2 H2=>tb { D with nx:=Pv (i+1),ct:=Pv (i+1),bk:=D.nx } σ2 H2) (hd:∀ σ H,Pv n σ H->D.nx σ H) :
  ∃ W:Nat->Nat->St->Hp->Prop,(∃ m,W 0 m σ H)/\∀ i m σ H,W i m σ H ->
   ((Itp n Ls xv).stop i H/\D.nx σ H)\/((Itp n Ls xv).go i H/\∃ N:St->Hp->Prop,(∀ σ' H',N σ' H'->∃ m',m'<m/\W (i+1) m' σ' H')/\∀ x H',(Itp n Ls xv).yld i H x H'->g x σ H' fun σ2 H2=>tb { D with nx:=N,ct:=N,bk:=D.nx } σ2 H2):=by
 refine⟨fun i m σ H=>m=n - i/\i<=n/\Pv i σ H,⟨n,by simp,hAp _,h0⟩,?_⟩;rintro i m σ H ⟨rfl,hi,p⟩;have q:=hl i σ H hi p;by_cases hlt:i<n
 ·refine .inr ⟨⟨q,hlt⟩,Pv (i+1),fun σ' H' p'=>⟨n - (i+1),by omega,rfl,hlt,p'⟩,fun x H' y=>?_⟩;obtain⟨T,e1,e2,e3⟩:=y;subst e2 e3;exact hs i σ H T hlt p e1
 ·have e:i=n:=by omega
  subst e;exact .inl ⟨⟨q,rfl⟩,hd σ H p⟩
end L2
namespace My
open PySem L2
theorem paired_mem {α β:Type} {R:α->β->Prop}:∀ {as:List α} {bs:List β},Paired R as bs->∀ a∈as,∃ b∈bs,R a b
 | _,_,.nil,a,h=>by cases h
 | _,_,.cons h t,a,ha=>by
  rcases hAh.mp ha with rfl | z
  ·exact⟨_,hAe,h⟩
  ·obtain⟨b,hb,hr⟩:=paired_mem t a z;exact⟨b,hAc _ hb,hr⟩
noncomputable def t0:Tr:=("","","")
end My
namespace My
open PySem L2
end My
namespace My
theorem qCt {x i:Nat} (h:x<2^i) {j:Nat} (hj:i<=j):x.testBit j=false :=
 Nat.testBit_lt_two_pow (hAl h (hB9 (by decide) hj))
theorem tb_ge {x i:Nat} (h:x.testBit i=true):2^i<=x:=by
 rcases hE2 x (2^i) with z | z
 ·rw[Nat.testBit_lt_two_pow z]at h;cases h
 ·exact z
theorem log2_of {x i:Nat} (h1:x.testBit i=true) (h2:x<2^(i+1)):x.log2=i:=by
 have g:=tb_ge h1;have nz:x≠0:=fun z=>by subst z;simp at h1
 have a:=(Nat.log2_lt nz).mpr h2;have b:=(Nat.le_log2 nz).mpr g;omega
theorem tb_le {x i:Nat} (h:x.testBit i=true):i<=x.log2:=by
 have nz:x≠0:=fun z=>by subst z;simp at h
 exact(Nat.le_log2 nz).mpr (tb_ge h)
theorem tb_above {x i:Nat} (h:x.log2<i):x.testBit i=false:=qCt hE0 h
theorem qE6 {n:Nat} (h:n % 2=0):n^^^1=n+1:=by
 have d:(n^^^1) / 2=n / 2:=by rw[Nat.xor_div_two];simp
 have b:(n^^^1).testBit 0=true:=by rw[hB2,hAx,hAx];simp[h]
 rw[hAx]at b;have b':=of_decide_eq_true b;omega
theorem xor_one_odd {n:Nat} (h:n % 2=1):n^^^1=n - 1:=by
 have d:(n^^^1) / 2=n / 2:=by rw[Nat.xor_div_two];simp
 have b:(n^^^1).testBit 0=false:=by rw[hB2,hAx,hAx];simp[h]
 rw[hAx]at b;have b':=of_decide_eq_false b;omega
theorem shr_log2 {s:Nat} (hs:s≠0):s >>> s.log2=1:=by
 rw[hD4];have a:=Nat.log2_self_le hs;have b:s<2^(s.log2+1):=hE0;rw[Nat.pow_succ]at b;have p:0<2^s.log2:=hDj (by decide);exact Nat.div_eq_of_lt_le (by omega) (by omega)
theorem qGz (x:Nat) {s:Nat} (hs:s≠0):x^^^s<x↔x.testBit s.log2=true:=by
 have e:(x^^^s) >>> s.log2=(x >>> s.log2)^^^1:=by rw[Nat.shiftRight_xor_distrib,shr_log2 hs]
 have tb:x.testBit s.log2=decide ((x >>> s.log2) % 2=1):=by rw[Nat.testBit_eq_decide_div_mod_eq,hD4]
 rw[tb];have lt:∀ {a b:Nat},a >>> s.log2<b >>> s.log2->a<b:=fun {a b} h=>by
  rw[hD4,hD4]at h;rcases hE2 a b with z | z
  ·exact z
  ·have:=Nat.div_le_div_right (c:=2^s.log2) z;omega
 rcases hBn (x >>> s.log2) with h | h
 ·rw[qE6 h]at e;have:x<x^^^s:=lt (by omega);constructor
  ·intro z;omega
  ·intro z;rw[h]at z;simp at z
 ·rw[xor_one_odd h]at e;have:x^^^s<x:=lt (by rw[e];exact Nat.sub_one_lt fun z=>by rw[z]at h;cases h);exact⟨fun _=>by simp[h],fun _=>this⟩
noncomputable def rd1 (x s:Nat):Nat:=if x.testBit s.log2=true then x^^^s else x
theorem min_rd1 (x:Nat) {s:Nat} (hs:s≠0):(if x^^^s<x then x^^^s else x)=rd1 x s:=by
 unfold rd1;by_cases h:x.testBit s.log2=true
 ·rw[if_pos h,if_pos ((qGz x hs).mpr h)]
 ·rw[if_neg h,if_neg (fun z=>h ((qGz x hs).mp z))]
theorem qCk (x s i:Nat):(rd1 x s).testBit i=(x.testBit i ^^ (x.testBit s.log2 && s.testBit i)):=by
 unfold rd1;by_cases h:x.testBit s.log2=true
 ·rw[if_pos h,hB2,h,hBm]
 ·rw[if_neg h];have:x.testBit s.log2=false:=by simpa using h
  rw[this];simp
theorem rd1_zero (s:Nat):rd1 0 s=0:=by unfold rd1;simp
theorem rd1_lin (x y s:Nat):rd1 (x^^^y) s=rd1 x s^^^rd1 y s:=by
 refine hAn fun i=>?_
 rw[qCk,hB2,hB2,hB2,qCk,qCk];cases x.testBit i <;> cases y.testBit i <;> cases x.testBit s.log2 <;> cases y.testBit s.log2 <;> cases s.testBit i <;> rfl
noncomputable def red1 (k:List Nat) (x:Nat):Nat:=k.foldl rd1 x
theorem qGb:∀ k:List Nat,red1 k 0=0
 | []=>rfl
 | s :: k=>by show red1 k (rd1 0 s)=0;rw[rd1_zero];exact qGb k
theorem red1_lin:∀ (k:List Nat) (x y:Nat),red1 k (x^^^y)=red1 k x^^^red1 k y
 | [],_,_=>rfl
 | s :: k,x,y=>by show red1 k (rd1 (x^^^y) s)=red1 k (rd1 x s)^^^red1 k (rd1 y s);rw[rd1_lin];exact red1_lin k _ _
structure RR (k:List Nat):Prop where
 nz:∀ s∈k,s≠0
 ap:k.Pairwise fun s t=>t.testBit s.log2=false/\s.testBit t.log2=false
theorem RR.nil:RR []:=⟨fun s h=>(by cases h),.nil⟩
theorem RR.tl {s:Nat} {k:List Nat} (h:RR (s :: k)):RR k:=⟨fun t ht=>h.nz t (hAc _ ht),(hBr.mp h.ap).2⟩
theorem RR.hd {s:Nat} {k:List Nat} (h:RR (s :: k)):∀ t∈k,t.testBit s.log2=false/\s.testBit t.log2=false:=(hBr.mp h.ap).1
theorem RR.ne:∀ {k:List Nat},RR k->∀ {s t:Nat},s∈k->t∈k->s≠t->s.testBit t.log2=false
 | [],_,_,_,hs,_,_=>by cases hs
 | a :: k,h,s,t,hs,ht,e=>by
  rcases hAh.mp hs with rfl | zs
  ·rcases hAh.mp ht with rfl | zt
   ·exact absurd rfl e
   ·exact(h.hd t zt).2
  ·rcases hAh.mp ht with rfl | zt
   ·exact(h.hd s zs).1
   ·exact RR.ne h.tl zs zt e
theorem RR.self {k:List Nat} (h:RR k) {s:Nat} (hs:s∈k):s.testBit s.log2=true:=hCb (h.nz s hs)
theorem qEd:∀ {k:List Nat} {x i:Nat},RR k->(∀ s∈k,x.testBit s.log2=true->s.testBit i=false)->(red1 k x).testBit i=x.testBit i
 | [],_,_,_,_=>rfl
 | s :: k,x,i,h,hx=>by
  show(red1 k (rd1 x s)).testBit i=_;have b1:(rd1 x s).testBit i=x.testBit i:=by
   rw[qCk];cases q:x.testBit s.log2 with
   | false=>simp
   | true=>rw[hx s hAe q];simp
  rw[qEd h.tl fun t ht hb=>?_,b1];refine hx t (hAc _ ht) ?_;rw[qCk,(h.hd t ht).2]at hb
  simpa using hb
theorem qEc:∀ {k:List Nat} {x:Nat},RR k->∀ s∈k,(red1 k x).testBit s.log2=false
 | [],_,_,_,hs=>by cases hs
 | a :: k,x,h,s,hs=>by
  show(red1 k (rd1 x a)).testBit s.log2=false;rcases hAh.mp hs with rfl | z
  ·rw[qEd h.tl fun t ht _=>(h.hd t ht).1,qCk,h.self hAe];cases x.testBit s.log2 <;> rfl
  ·exact qEc h.tl s z
theorem red1_mem:∀ {k:List Nat},RR k->∀ s∈k,red1 k s=0
 | [],_,_,hs=>by cases hs
 | a :: k,h,s,hs=>by
  show red1 k (rd1 s a)=0;rcases hAh.mp hs with rfl | z
  ·have:rd1 s s=0:=by unfold rd1;rw[if_pos (h.self hAe),hE3]
   rw[this];exact qGb k
  ·have:rd1 s a=s:=by unfold rd1;rw[if_neg (by rw[(h.hd s z).1];decide)]
   rw[this];exact red1_mem h.tl s z
theorem red1_none {k:List Nat} (h:RR k) {x:Nat} (hx:∀ s∈k,x.testBit s.log2=false):red1 k x=x :=
 hAn fun i=>qEd h fun s hs z=>by rw[hx s hs]at z;cases z
inductive Spn (l:List Nat):Nat->Prop
 | zero:Spn l 0
 | add {x y:Nat}:x∈l->Spn l y->Spn l (x^^^y)
theorem Spn.mem {l:List Nat} {x:Nat} (h:x∈l):Spn l x:=by
 have:=Spn.add h Spn.zero
 rwa [Nat.xor_zero]at this
theorem Spn.xor {l:List Nat} {x y:Nat} (h:Spn l x) (h':Spn l y):Spn l (x^^^y):=by
 induction h with
 | zero=>rwa [Nat.zero_xor]
 | add m _ ih=>rw[hD0];exact .add m ih
theorem Spn.mono {l l':List Nat} (h:∀ x∈l,Spn l' x) {y:Nat} (hy:Spn l y):Spn l' y:=by
 induction hy with
 | zero=>exact .zero
 | add m _ ih=>exact(h _ m).xor ih
theorem Spn.lt {l:List Nat} {m:Nat} (h:∀ x∈l,x<2^m) {y:Nat} (hy:Spn l y):y<2^m:=by
 induction hy with
 | zero=>exact hDj (by decide)
 | add hm _ ih=>exact hCf (h _ hm) ih
theorem qBc (x y:Nat):(x^^^y)^^^y=x:=by rw[hD0,hE3,Nat.xor_zero]
theorem rd1_spn {k:List Nat} {x s:Nat} (hs:s∈k):Spn k (rd1 x s^^^x):=by
 unfold rd1;split
 ·rw[Nat.xor_comm x s,qBc];exact .mem hs
 ·rw[hE3];exact .zero
theorem red1_spn (k:List Nat):∀ (k':List Nat),(∀ s∈k',s∈k)->∀ x,Spn k (red1 k' x^^^x)
 | [],_,x=>by show Spn k (x^^^x);rw[hE3];exact .zero
 | s :: k',h,x=>by
  have a:=red1_spn k k' (fun t ht=>h t (hAc _ ht)) (rd1 x s);have b:=rd1_spn (x:=x) (h s hAe);have c:=a.xor b;rw[<-hD0,qBc]at c;exact c
theorem spn_red1 {k:List Nat} (h:RR k) {y:Nat} (hy:Spn k y):red1 k y=0:=by
 induction hy with
 | zero=>exact qGb k
 | add m _ ih=>rw[red1_lin,red1_mem h _ m,ih];rfl
theorem spn_zero {k:List Nat} (h:RR k) {y:Nat} (hy:Spn k y) (hx:∀ s∈k,y.testBit s.log2=false):y=0:=(red1_none h hx).symm.trans (spn_red1 h hy)
theorem spn_lead {k:List Nat} (h:RR k) {y:Nat} (hy:Spn k y) (nz:y≠0):∃ s∈k,s.log2=y.log2:=by
 refine Classical.byContradiction fun no=>?_
 have e:(red1 k y).testBit y.log2=y.testBit y.log2:=qEd h fun s hs hb=>by
  have le:=tb_le hb;have ne:s.log2≠y.log2:=fun z=>no ⟨s,hs,z⟩
  exact tb_above (by omega)
 rw[spn_red1 h hy,hCb nz]at e;simp at e
noncomputable def redS (k:List Nat) (x:Nat):List Nat:=if red1 k x=0 then k else k.map (fun s=>rd1 s (red1 k x))++[red1 k x]
noncomputable def red (xs:List Nat):List Nat:=xs.foldl redS []
theorem qEb (xs:List Nat) (x:Nat):red (xs++[x])=redS (red xs) x:=by unfold red;rw[hBz];rfl
theorem rd1_log2 {s f:Nat} (hs:s≠0) (hf:f≠0) (h:f.testBit s.log2=false):(rd1 s f).log2=s.log2/\rd1 s f≠0:=by
 have ss:=hCb hs;have bit:(rd1 s f).testBit s.log2=true:=by rw[qCk,ss,h];simp
 refine⟨log2_of bit ?_,fun z=>by rw[z]at bit;simp at bit⟩;unfold rd1;split
 ·rename_i q;have le:=tb_le q;exact hCf hE0 (hAl hE0 (hB9 (by decide) (by omega)))
 ·exact hE0
theorem RR.step {k:List Nat} (h:RR k) (x:Nat):RR (redS k x):=by
 unfold redS;by_cases z:red1 k x=0
 ·rw[if_pos z];exact h
 rw[if_neg z];have ld:=fun s hs=>qEc (x:=x) h s hs
 generalize red1 k x=f at z ld;have l2:∀ s∈k,(rd1 s f).log2=s.log2/\rd1 s f≠0:=fun s hs=>rd1_log2 (h.nz s hs) z (ld s hs)
 have ff:=hCb z;refine⟨fun s hs=>?_,?_⟩
 ·rcases hAb.mp hs with w | w
  ·obtain⟨u,hu,rfl⟩:=hA9.mp w;exact(l2 u hu).2
  ·rw[hA4]at w;rw[w];exact z
 ·rw[hB3];refine⟨?_,hC5 _ _,fun a ha b hb=>?_⟩
  ·rw[hAz];refine hC0 (fun {a b} ha hb r=>?_) h.ap;rw[(l2 a ha).1,(l2 b hb).1,qCk,qCk,r.1,r.2,ld a ha,ld b hb];simp
  ·rw[hA4]at hb;obtain⟨u,hu,rfl⟩:=hA9.mp ha;subst hb;refine⟨by rw[(l2 u hu).1];exact ld u hu,?_⟩;rw[qCk,ff];cases u.testBit b.log2 <;> rfl
theorem redS_spn {k:List Nat} (x y:Nat):Spn (redS k x) y↔Spn (k++[x]) y:=by
 have rx:=red1_spn k k (fun _ h=>h) x;unfold redS;have inl:∀ {z},Spn k z->Spn (k++[x]) z:=fun {z} hz=>hz.mono fun u hu=>.mem (hAg _ hu)
 have xm:Spn (k++[x]) x:=.mem (by simp);by_cases z:red1 k x=0
 ·rw[if_pos z];rw[z,Nat.zero_xor]at rx;refine⟨inl,fun h=>h.mono fun u hu=>?_⟩;rcases hAb.mp hu with w | w
  ·exact .mem w
  ·rw[hA4]at w;rw[w];exact rx
 rw[if_neg z];have fm:Spn (k++[x]) (red1 k x):=by
  have:=(inl rx).xor xm
  rwa [qBc]at this
 revert rx fm;generalize red1 k x=f;intro rx fm;have ff:Spn (k.map (fun s=>rd1 s f)++[f]) f:=.mem (by simp);have sk:∀ s∈k,Spn (k.map (fun s=>rd1 s f)++[f]) s:=fun s hs=>by
  have a:Spn (k.map (fun s=>rd1 s f)++[f]) (rd1 s f):=.mem (hAg _ (hE1 (f:=fun s=>rd1 s f) hs));by_cases q:s.testBit f.log2=true
  ·have b:=a.xor ff;rw[show rd1 s f=s^^^f from if_pos q,qBc]at b;exact b
  ·rw[show rd1 s f=s from if_neg q]at a;exact a
 constructor
 ·intro h;refine h.mono fun u hu=>?_
  rcases hAb.mp hu with w | w
  ·obtain⟨s,hs,rfl⟩:=hA9.mp w;unfold rd1;split
   ·exact(inl (.mem hs)).xor fm
   ·exact inl (.mem hs)
  ·rw[hA4]at w;rw[w];exact fm
 ·intro h;refine h.mono fun u hu=>?_
  rcases hAb.mp hu with w | w
  ·exact sk u w
  ·rw[hA4]at w;subst w;have b:=ff.xor (rx.mono sk);rw[<-hD0,hE3,Nat.zero_xor]at b;exact b
theorem qEw {P:List Nat->Prop} (h0:P []) (hs:∀ l t,P l->P (l++[t])) (l:List Nat):P l:=by
 have:∀ r:List Nat,P r.reverse:=fun r=>by
  induction r with
  | nil=>exact h0
  | cons a r ih=>rw[List.reverse_cons];exact hs _ _ ih
 have q:=this l.reverse
 rwa [List.reverse_reverse]at q
theorem qC1 (xs:List Nat):RR (red xs):=qEw (P:=fun xs=>RR (red xs)) RR.nil (fun l t ih=>by rw[qEb];exact ih.step t) xs
theorem qCw (xs:List Nat):∀ y,Spn (red xs) y↔Spn xs y:=by
 refine qEw (P:=fun xs=>∀ y,Spn (red xs) y↔Spn xs y) (fun y=>Iff.rfl) (fun l t ih y=>?_) xs;rw[qEb,redS_spn];constructor
 ·exact fun h=>h.mono fun u hu=>by
   rcases hAb.mp hu with w | w
   ·exact((ih u).mp (.mem w)).mono fun v hv=>.mem (hAg _ hv)
   ·exact .mem (hA8 _ w)
 ·exact fun h=>h.mono fun u hu=>by
   rcases hAb.mp hu with w | w
   ·exact((ih u).mpr (.mem w)).mono fun v hv=>.mem (hAg _ hv)
   ·exact .mem (hA8 _ w)
theorem qF9 {xs:List Nat} {m:Nat} (h:∀ x∈xs,x<2^m):∀ s∈red xs,s<2^m:=fun s hs=>Spn.lt h ((qCw xs s).mp (.mem hs))
def Fsh (xs:List Nat):Prop:=∀ i x,xs[i]?=some x->∃ j,x.testBit j=true/\∀ y∈xs.take i,y.testBit j=false
theorem spn_bit {l:List Nat} {j:Nat} (h:∀ x∈l,x.testBit j=false) {y:Nat} (hy:Spn l y):y.testBit j=false:=by
 induction hy with
 | zero=>simp
 | add m _ ih=>rw[hB2,h _ m,ih];rfl
end My
namespace My
noncomputable def xsum:Nat->(Nat->Bool)->Bool
 | 0,_=>false
 | m+1,f=>xsum m f ^^ f m
theorem qBr {f g:Nat->Bool}:∀ {m:Nat},(∀ j,j<m->f j=g j)->xsum m f=xsum m g
 | 0,_=>rfl
 | m+1,h=>by unfold xsum;rw[qBr fun j hj=>h j (by omega),h m (by omega)]
theorem xsum_xor (f g:Nat->Bool):∀ m:Nat,xsum m (fun j=>f j ^^ g j)=(xsum m f ^^ xsum m g)
 | 0=>rfl
 | m+1=>by
  unfold xsum;rw[xsum_xor f g m];show((xsum m f ^^ xsum m g) ^^ (f m ^^ g m))=_;cases xsum m f <;> cases xsum m g <;> cases f m <;> cases g m <;> rfl
theorem qEs:∀ m:Nat,xsum m (fun _=>false)=false
 | 0=>rfl
 | m+1=>by unfold xsum;rw[qEs m];rfl
theorem xsum_one {f:Nat->Bool} {l:Nat}:∀ {m:Nat},(∀ j,j<m->j≠l->f j=false)->xsum m f=(decide (l<m) && f l)
 | 0,_=>by simp[xsum]
 | m+1,h=>by
  unfold xsum;rw[xsum_one (m:=m) fun j hj=>h j (by omega)];by_cases e:l=m
  ·subst e;simp
  ·have n:=h m (by omega) (fun z=>e z.symm);rw[n];have:decide (l<m)=decide (l<m+1):=by
    by_cases q:l<m
    ·rw[decide_eq_true q,decide_eq_true (by omega)]
    ·rw[decide_eq_false q,decide_eq_false (by omega)]
   rw[this];simp
theorem xsum_head (f:Nat->Bool):∀ m:Nat,xsum (m+1) f=(f 0 ^^ xsum m fun j=>f (j+1))
 | 0=>by simp[xsum]
 | m+1=>by
  rw[xsum,xsum_head f m,xsum];cases f 0 <;> cases xsum m (fun j=>f (j+1)) <;> cases f (m+1) <;> rfl
theorem xsum_rev (f:Nat->Bool):∀ m:Nat,xsum m (fun j=>f (m - 1 - j))=xsum m f
 | 0=>rfl
 | m+1=>by
  rw[xsum_head];have:xsum m (fun j=>f (m+1 - 1 - (j+1)))=xsum m fun j=>f (m - 1 - j):=qBr fun j hj=>by
   rw[show m+1 - 1 - (j+1)=m - 1 - j by omega]
  rw[this,xsum_rev f m];show(f m ^^ xsum m f)=(xsum m f ^^ f m);cases f m <;> cases xsum m f <;> rfl
noncomputable def dot (m x y:Nat):Bool:=xsum m fun j=>x.testBit j && y.testBit j
theorem qFu (m x x' y:Nat):dot m (x^^^x') y=(dot m x y ^^ dot m x' y):=by
 unfold dot;rw[<-xsum_xor];refine qBr fun j _=>?_
 rw[hB2];cases x.testBit j <;> cases x'.testBit j <;> cases y.testBit j <;> rfl
theorem dot_right (m x y y':Nat):dot m x (y^^^y')=(dot m x y ^^ dot m x y'):=by
 unfold dot;rw[<-xsum_xor];refine qBr fun j _=>?_
 rw[hB2];cases x.testBit j <;> cases y.testBit j <;> cases y'.testBit j <;> rfl
theorem dot_zero (m y:Nat):dot m 0 y=false:=by
 unfold dot;rw[qBr (g:=fun _=>false) fun j _=>by simp,qEs]
theorem dot_zero' (m y:Nat):dot m y 0=false:=by
 unfold dot;rw[qBr (g:=fun _=>false) fun j _=>by simp,qEs]
theorem dot_pow {m p y:Nat} (hp:p<m):dot m (2^p) y=y.testBit p:=by
 unfold dot;rw[xsum_one (l:=p) fun j _ ne=>by rw[hB7,decide_eq_false (fun z=>ne z.symm)];rfl];rw[hB7];simp[hp]
theorem dot_only {m x s l:Nat} (hl:l<m) (hs:s.testBit l=true) (h:∀ j,j<m->j≠l->(x.testBit j && s.testBit j)=false):dot m x s=x.testBit l:=by
 unfold dot;rw[xsum_one (l:=l) h,decide_eq_true hl,hs];simp
theorem spn_dot {l:List Nat} {m y:Nat} (h:∀ s∈l,dot m y s=false) {z:Nat} (hz:Spn l z):dot m y z=false:=by
 induction hz with
 | zero=>exact dot_zero' m y
 | add hm _ ih=>rw[dot_right,h _ hm,ih];rfl
theorem spn_dotL {l:List Nat} {m s:Nat} (h:∀ x∈l,dot m x s=false) {z:Nat} (hz:Spn l z):dot m z s=false:=by
 induction hz with
 | zero=>exact dot_zero m s
 | add hm _ ih=>rw[qFu,h _ hm,ih];rfl
theorem qGt:∀ (l x:Nat),x.testBit l=false->2^l+x=2^l^^^x
 | 0,x,h=>by
  have e:x % 2=0:=by
   rw[hAx]at h;have:=of_decide_eq_false h;omega
  show 1+x=1^^^x;rw[Nat.xor_comm,qE6 e,Nat.add_comm]
 | l+1,x,h=>by
  rw[hCc]at h;have ih:=qGt l (x / 2) h;have d:(2^(l+1)^^^x) / 2=2^l+x / 2:=by
   rw[Nat.xor_div_two,ih,Nat.pow_succ,Nat.mul_div_cancel _ (by decide)]
  have b:(2^(l+1)^^^x).testBit 0=x.testBit 0:=by rw[hB2,hB7];simp
  rw[hAx,hAx]at b;have b':(2^(l+1)^^^x) % 2=1↔x % 2=1:=by simpa using b
  have p:=Nat.pow_succ (n:=2) (m:=l);rcases hBn x with q | q
  ·have:¬(2^(l+1)^^^x) % 2=1:=fun z=>by have:=b'.mp z;omega
   omega
  ·have:=b'.mpr q;omega
theorem qDt:∀ (L:List Nat),L.Nodup->∀ j,((L.map fun l=>2^l).sum).testBit j=decide (j∈L)
 | [],_,j=>by simp
 | l :: L,nd,j=>by
  obtain⟨n1,n2⟩:=hBu.mp nd;have ih:=qDt L n2;rw[hBf,List.sum_cons,qGt l _ (by rw[ih l,decide_eq_false n1]),hB2,ih j,hB7];by_cases e:l=j
  ·subst e;simp[n1]
  ·have e':¬j=l:=fun z=>e z.symm
   simp[e,e']
noncomputable def crM (S:List Nat) (p:Nat):Nat:=2^p+((S.filter fun s:Nat=>s.testBit p).map fun s:Nat=>2^s.log2).sum
def isLd (S:List Nat) (p:Nat):Prop:=∃ s∈S,s.log2=p
instance (S:List Nat):DecidablePred (isLd S):=fun p=>inferInstanceAs (Decidable (∃ s∈S,s.log2=p))
theorem ld_nd:∀ {S:List Nat},RR S->(S.map Nat.log2).Nodup
 | [],_=>List.nodup_nil
 | s :: S,h=>by
  rw[hBf];refine hBu.mpr ⟨fun z=>?_,ld_nd h.tl⟩;obtain⟨t,ht,e⟩:=hA9.mp z;have a:=(h.hd t ht).1;rw[<-e,h.self (hAc _ ht)]at a;cases a
theorem qEl {S:List Nat} (h:RR S) (p j:Nat):(((S.filter fun s:Nat=>s.testBit p).map fun s:Nat=>2^s.log2).sum).testBit j=decide (∃ s∈S,s.testBit p=true/\s.log2=j):=by
 have e:((S.filter fun s:Nat=>s.testBit p).map fun s:Nat=>2^s.log2)=((S.filter fun s:Nat=>s.testBit p).map Nat.log2).map fun l=>2^l:=by rw[hAo];rfl
 rw[e,qDt _ ((ld_nd h).sublist (hBb.map _))];refine decide_eq_decide.mpr ?_;rw[hA9];constructor
 ·rintro⟨s,hs,rfl⟩;exact⟨s,(hAf.mp hs).1,(hAf.mp hs).2,rfl⟩
 ·rintro⟨s,hs,h1,rfl⟩;exact⟨s,hAf.mpr ⟨hs,h1⟩,rfl⟩
theorem leads_bit {S:List Nat} (h:RR S) (j:Nat):((S.map fun s:Nat=>2^s.log2).sum).testBit j=decide (isLd S j):=by
 have e:(S.map fun s:Nat=>2^s.log2)=(S.map Nat.log2).map fun l=>2^l:=by rw[hAo];rfl
 rw[e,qDt _ (ld_nd h)];refine decide_eq_decide.mpr ?_;rw[hA9];exact Iff.rfl
theorem qGp {S:List Nat} (h:RR S) {p:Nat} (np:¬isLd S p) (j:Nat):(crM S p).testBit j=(decide (p=j) ^^ decide (∃ s∈S,s.testBit p=true/\s.log2=j)):=by
 unfold crM;rw[qGt _ _ (by rw[qEl h];exact decide_eq_false fun ⟨s,hs,_,e⟩=>np ⟨s,hs,e⟩),hB2,hB7,qEl h]
theorem crM_lt {S:List Nat} {m:Nat} (h:RR S) (hm:∀ s∈S,s<2^m) {p:Nat} (hp:p<m) (np:¬isLd S p):crM S p<2^m:=by
 refine hBi _ fun i hi=>?_
 rw[qGp h np,decide_eq_false (by omega:¬p=i),decide_eq_false]
 ·rfl
 ·rintro⟨s,hs,_,e⟩;have:=h.self hs;rw[e,qCt (hm s hs) hi]at this;cases this
theorem crM_dot {S:List Nat} {m:Nat} (h:RR S) (hm:∀ s∈S,s<2^m) {p:Nat} (hp:p<m) (np:¬isLd S p):∀ s∈S,dot m (crM S p) s=false:=fun s hs=>by
 have e:crM S p=2^p^^^((S.filter fun s:Nat=>s.testBit p).map fun s:Nat=>2^s.log2).sum:=by
  unfold crM;exact qGt _ _ (by rw[qEl h];exact decide_eq_false fun ⟨s,hs,_,e⟩=>np ⟨s,hs,e⟩)
 have ls:s.log2<m:=by
  have:=h.self hs;rcases hE2 s.log2 m with z | z
  ·exact z
  ·rw[qCt (hm s hs) z]at this;cases this
 rw[e,qFu,dot_pow hp,dot_only (l:=s.log2) ls (h.self hs) fun j hj ne=>?_,qEl h]
 ·have:decide (∃ t∈S,t.testBit p=true/\t.log2=s.log2)=s.testBit p:=by
   cases q:s.testBit p with
   | true=>exact decide_eq_true ⟨s,hs,q,rfl⟩
   | false =>
    refine decide_eq_false ?_;rintro⟨t,ht,h1,h2⟩;by_cases z:t=s
    ·subst z;rw[q]at h1;cases h1
    ·have a:=h.ne hs ht (fun w=>z w.symm);rw[h2,h.self hs]at a;cases a
  rw[this];cases s.testBit p <;> rfl
 ·rw[qEl h];by_cases q:∃ t∈S,t.testBit p=true/\t.log2=j
  ·obtain⟨t,ht,h1,h2⟩:=q;have z:s≠t:=fun w=>ne (by rw[w,h2])
   have a:=h.ne hs ht z;rw[h2]at a;rw[a];simp
  ·rw[decide_eq_false q];rfl
noncomputable def crAll (S:List Nat) (m:Nat):List Nat:=((List.range m).filter fun p=>!decide (isLd S p)).map (crM S)
noncomputable def xl (L:List Nat):Nat:=L.foldr (·^^^·) 0
theorem xl_spn {l L:List Nat} (h:∀ x∈L,x∈l):Spn l (xl L):=by
 induction L with
 | nil=>exact .zero
 | cons a L ih=>exact .add (h a hAe) (ih fun x hx=>h x (hAc _ hx))
theorem xl_cr {S:List Nat} (h:RR S):∀ (L:List Nat),L.Nodup->(∀ p∈L,¬isLd S p)->∀ j,¬isLd S j->(xl (L.map (crM S))).testBit j=decide (j∈L)
 | [],_,_,j,_=>by simp[xl]
 | p :: L,nd,np,j,nj=>by
  obtain⟨n1,n2⟩:=hBu.mp nd;show(crM S p^^^xl (L.map (crM S))).testBit j=_;rw[hB2,xl_cr h L n2 (fun q hq=>np q (hAc _ hq)) j nj,qGp h (np p hAe),decide_eq_false (p:=∃ s∈S,s.testBit p=true/\s.log2=j) fun ⟨s,hs,_,e⟩=>nj ⟨s,hs,e⟩];by_cases e:p=j
  ·subst e;simp[n1]
  ·have e':¬j=p:=fun z=>e z.symm
   simp[e,e']
theorem cr_spn {S:List Nat} {m:Nat} (h:RR S) (hm:∀ s∈S,s<2^m) (y:Nat):Spn (crAll S m) y↔y<2^m/\∀ s∈S,dot m y s=false:=by
 have mem:∀ x,x∈crAll S m↔∃ p,p<m/\¬isLd S p/\crM S p=x:=fun x=>by
  unfold crAll;rw[hA9];constructor
  ·rintro⟨p,hp,rfl⟩;obtain⟨h1,h2⟩:=hAf.mp hp;exact⟨p,hAt.mp h1,by simpa using h2,rfl⟩
  ·rintro⟨p,h1,h2,rfl⟩;exact⟨p,hAf.mpr ⟨hAt.mpr h1,by simpa using h2⟩,rfl⟩
 constructor
 ·intro hy;refine⟨Spn.lt (fun x hx=>?_) hy,fun s hs=>spn_dotL (fun x hx=>?_) hy⟩
  ·obtain⟨p,h1,h2,rfl⟩:=(mem x).mp hx;exact crM_lt h hm h1 h2
  ·obtain⟨p,h1,h2,rfl⟩:=(mem x).mp hx;exact crM_dot h hm h1 h2 s hs
 ·rintro⟨hy,hd⟩;have hL:∀ p∈(List.range m).filter (fun p=>!decide (isLd S p) && y.testBit p),p<m/\¬isLd S p/\y.testBit p=true:=fun p hp=>by
   obtain⟨h1,h2⟩:=hAf.mp hp;rw[hBo]at h2;exact⟨hAt.mp h1,by simpa using h2.1,h2.2⟩
  have nd:((List.range m).filter (fun p=>!decide (isLd S p) && y.testBit p)).Nodup:=hCg.sublist hBb;have cov:∀ j,j<m->¬isLd S j->(j∈(List.range m).filter (fun p=>!decide (isLd S p) && y.testBit p)↔y.testBit j=true):=fun j hj nj=>by
   rw[hAf,hAt];simp[hj,nj]
  generalize (List.range m).filter (fun p=>!decide (isLd S p) && y.testBit p)=L at hL nd cov;have sp:Spn (crAll S m) (xl (L.map (crM S))):=xl_spn fun x hx=>by
   obtain⟨p,hp,rfl⟩:=hA9.mp hx;exact(mem _).mpr ⟨p,(hL p hp).1,(hL p hp).2.1,rfl⟩
  have lt1:xl (L.map (crM S))<2^m:=Spn.lt (fun x hx=>by
   obtain⟨p,h1,h2,rfl⟩:=(mem x).mp hx;exact crM_lt h hm h1 h2) sp
  have dz:∀ s∈S,dot m (y^^^xl (L.map (crM S))) s=false:=fun s hs=>by
   rw[qFu,hd s hs,spn_dotL (fun x hx=>?_) sp]
   ·rfl
   ·obtain⟨p,h1,h2,rfl⟩:=(mem x).mp hx;exact crM_dot h hm h1 h2 s hs
  have non:∀ j,¬isLd S j->(y^^^xl (L.map (crM S))).testBit j=false:=fun j nj=>by
   rw[hB2,xl_cr h L nd (fun p hp=>(hL p hp).2.1) j nj];by_cases hj:j<m
   ·cases q:y.testBit j with
    | true=>rw[decide_eq_true ((cov j hj nj).mpr q)];rfl
    | false=>rw[decide_eq_false fun z=>by rw[(cov j hj nj).mp z]at q;cases q];rfl
   ·rw[qCt hy (by omega),decide_eq_false fun z=>hj (hL j z).1];rfl
  have z0:y^^^xl (L.map (crM S))=0:=by
   refine hAn fun j=>?_
   rw[hBq];by_cases q:isLd S j
   ·obtain⟨s,hs,rfl⟩:=q;have ls:s.log2<m:=by
     have:=h.self hs;rcases hE2 s.log2 m with z | z
     ·exact z
     ·rw[qCt (hm s hs) z]at this;cases this
    rw[<-dot_only (m:=m) (s:=s) ls (h.self hs) fun j hj ne=>?_]
    ·exact dz s hs
    ·by_cases q:isLd S j
     ·obtain⟨t,ht,rfl⟩:=q;rw[h.ne hs ht (fun w=>ne (by rw[w]))];simp
     ·rw[non j q];rfl
   ·exact non j q
  have:y=xl (L.map (crM S)):=by
   have q:=qBc y (xl (L.map (crM S)));rw[z0,Nat.zero_xor]at q;exact q.symm
  rw[this];exact sp
end My
namespace My
open PySem
theorem add_xor:∀ (n a b:Nat),a<n->a+b=(a^^^b)+2*(a&&&b)
 | 0,_,_,h=>absurd h (hCs _)
 | n+1,a,b,h=>by
  by_cases a0:a=0
  ·subst a0;simp
  have ih:=add_xor n (a / 2) (b / 2) (by omega);have d1:(a^^^b) / 2=a / 2^^^b / 2:=Nat.xor_div_two;have d2:(a&&&b) / 2=a / 2&&&b / 2:=Nat.and_div_two;have b1:(a^^^b).testBit 0=(a.testBit 0 ^^ b.testBit 0):=hB2 ..;have b2:(a&&&b).testBit 0=(a.testBit 0 && b.testBit 0):=hBg ..;rw[hAx,hAx,hAx]at b1 b2;rw[<-d1,<-d2]at ih;generalize a^^^b=X at b1 ih ⊢;generalize a&&&b=Y at b2 ih ⊢;rcases hBn a with p | p <;> rcases hBn b with q | q <;> rw[p,q]at b1 b2 <;> simp at b1 b2 <;> omega
theorem qBn (a b:Nat):Builtin.bitAnd (a:Int) (b:Int)=((a&&&b:Nat):Int):=by
 unfold Builtin.bitAnd;rw[decide_eq_true (hDp a),decide_eq_true (hDp b)];simp
theorem qBm (a b:Nat):Builtin.bitXor (a:Int) (b:Int)=((a^^^b:Nat):Int):=by
 have e:=add_xor (a+1) a b (hDx a);have h:Builtin.bitXor (a:Int) (b:Int)=(a:Int)+b - 2*Builtin.bitAnd a b:=by
  have x:∀ x y:Int,Builtin.bitNot (Builtin.bitNot x)=x:=fun x y=>by unfold Builtin.bitNot;omega
  unfold Builtin.bitXor Builtin.bitOr;have na:¬(0:Int)<=Builtin.bitNot (a:Int):=by unfold Builtin.bitNot;omega
  have nb:¬(0:Int)<=Builtin.bitNot (b:Int):=by unfold Builtin.bitNot;omega
  have o:Builtin.bitAnd (Builtin.bitNot (a:Int)) (Builtin.bitNot (b:Int))=Builtin.bitNot ((a ||| b:Nat):Int):=by
   unfold Builtin.bitAnd;rw[decide_eq_false na,decide_eq_false nb];show Builtin.bitNot _=_;rw[x a 0,x b 0];simp
  rw[o,x _ 0,qBn];have e2:(a ||| b)+(a&&&b)=a+b:=by
   have:=add_or (a+1) a b (hDx a);omega
  omega
 rw[h,qBn];omega
where
 add_or:∀ (n a b:Nat),a<n->(a ||| b)+(a&&&b)=a+b
 | 0,_,_,h=>absurd h (hCs _)
 | n+1,a,b,h=>by
  by_cases a0:a=0
  ·subst a0;simp
  have ih:=add_or n (a / 2) (b / 2) (by omega);have d1:(a ||| b) / 2=a / 2 ||| b / 2:=Nat.or_div_two
  have d2:(a&&&b) / 2=a / 2&&&b / 2:=Nat.and_div_two;have b1:(a ||| b).testBit 0=(a.testBit 0 || b.testBit 0):=hCp ..;have b2:(a&&&b).testBit 0=(a.testBit 0 && b.testBit 0):=hBg ..;rw[hAx,hAx,hAx]at b1 b2;rw[<-d1,<-d2]at ih;generalize a ||| b=X at b1 ih ⊢
  generalize a&&&b=Y at b2 ih ⊢;rcases hBn a with p | p <;> rcases hBn b with q | q <;> rw[p,q]at b1 b2 <;> simp at b1 b2 <;> omega
theorem low_ex:∀ (n f:Nat),f<n->f≠0->∃ i,f.testBit i=true/\∀ j,j<i->f.testBit j=false
 | 0,_,h,_=>absurd h (hCs _)
 | n+1,f,h,nz=>by
  rcases hBn f with p | p
  ·obtain⟨i,h1,h2⟩:=low_ex n (f / 2) (by omega) (by omega);refine⟨i+1,by rw[hCc];exact h1,fun j hj=>?_⟩;cases j with
   | zero=>rw[hAx,p];rfl
   | succ j=>rw[hCc];exact h2 j (by omega)
  ·exact⟨0,by rw[hAx,p];rfl,fun j hj=>absurd hj (hCs _)⟩
noncomputable def lo (f:Nat):Nat:=Classical.epsilon fun i=>f.testBit i=true/\∀ j,j<i->f.testBit j=false
theorem lo_spec {f:Nat} (h:f≠0):f.testBit (lo f)=true/\∀ j,j<lo f->f.testBit j=false :=
 Classical.epsilon_spec (low_ex (f+1) f (hDx _) h)
theorem pred_bit:∀ (i f:Nat),f.testBit i=true->(∀ j,j<i->f.testBit j=false)->∀ j,(f - 1).testBit j=(decide (j<i) || (decide (i<j) && f.testBit j))
 | 0,f,h1,_,j=>by
  rw[hAx]at h1;have p:=of_decide_eq_true h1;cases j with
  | zero=>rw[hAx];simp;omega
  | succ j=>rw[hCc,hCc,show(f - 1) / 2=f / 2 by omega];simp
 | i+1,f,h1,h2,j=>by
  have z:=h2 0 (by omega);rw[hAx]at z;have p:=of_decide_eq_false z;rw[hCc]at h1;have nz:f / 2≠0:=fun w=>by rw[w]at h1;simp at h1
  cases j with
  | zero=>rw[hAx];simp;omega
  | succ j =>
   rw[hCc,hCc,show(f - 1) / 2=f / 2 - 1 by omega,pred_bit i (f / 2) h1 (fun k hk=>by have:=h2 (k+1) (by omega);rwa [hCc]at this) j];simp
theorem low_bit {f:Nat} (nz:f≠0):Builtin.bitAnd (f:Int) (-(f:Int))=((2^lo f:Nat):Int):=by
 obtain⟨h1,h2⟩:=lo_spec nz;have ev:Builtin.bitAnd (f:Int) (-(f:Int))=(f:Int) - ((f&&&(f - 1):Nat):Int):=by
  unfold Builtin.bitAnd;rw[decide_eq_true (hDp _),decide_eq_false (by omega:¬(0:Int)<=-(f:Int))];show(f:Int) - ((((f:Int).toNat)&&&(Builtin.bitNot (-(f:Int))).toNat:Nat):Int)=_;rw[show(Builtin.bitNot (-(f:Int))).toNat=f - 1 by unfold Builtin.bitNot;omega,hB4]
 rw[ev];have pb:=pred_bit (lo f) f h1 h2;have e:f=2^lo f+(f&&&(f - 1)):=by
  rw[qGt _ _ (by rw[hBg,pb];simp)];refine hAn fun j=>?_
  rw[hB2,hB7,hBg,pb j];rcases Nat.lt_trichotomy j (lo f) with z | z | z
  ·have:¬lo f=j:=by omega
   rw[h2 j z];simp[this]
  ·subst z;rw[h1];simp
  ·have n1:¬lo f=j:=by omega
   simp[z,n1];exact fun h=>.inr h
 omega
theorem qE5 (x p:Nat):x&&&2^p≠0↔x.testBit p=true:=by
 constructor
 ·intro ne;cases q:x.testBit p with
  | true=>rfl
  | false =>
   refine absurd (hAn fun j=>?_) ne;rw[hBg,hB7,hBq];by_cases e:p=j
   ·subst e;rw[q];rfl
   ·simp[e]
 ·intro q z;have:=congrArg (fun x:Nat=>x.testBit p) z;simp[hBg,q]at this
noncomputable def rv (m x:Nat):Nat:=((((List.range m).filter fun i=>x.testBit i).map fun i=>m - 1 - i).map fun l=>2^l).sum
theorem qBj (m x j:Nat):(rv m x).testBit j=(decide (j<m) && x.testBit (m - 1 - j)):=by
 have nd:(((List.range m).filter fun i=>x.testBit i).map fun i=>m - 1 - i).Nodup:=by
  have h:((List.range m).filter fun i=>x.testBit i).Pairwise fun a b=>m - 1 - a≠m - 1 - b:=by
   have:(List.range m).Pairwise fun a b=>a≠b:=hCg
   refine hC0 (fun {a b} ha hb ne=>?_) (this.sublist hBb);have a1:=hAt.mp (hAf.mp ha).1;have b1:=hAt.mp (hAf.mp hb).1;omega
  rw[List.Nodup,hAz];exact h
 unfold rv;rw[qDt _ nd];by_cases hj:j<m
 ·rw[decide_eq_true hj,hBm];cases q:x.testBit (m - 1 - j) with
  | true=>exact decide_eq_true (hA9.mpr ⟨m - 1 - j,hAf.mpr ⟨hAt.mpr (by omega),q⟩,by omega⟩)
  | false =>
   refine decide_eq_false fun z=>?_
   obtain⟨i,hi,e⟩:=hA9.mp z;obtain⟨h1,h2⟩:=hAf.mp hi;have:=hAt.mp h1;rw[show m - 1 - j=i by omega,h2]at q;cases q
 ·rw[decide_eq_false hj,Bool.false_and];refine decide_eq_false fun z=>?_
  obtain⟨i,hi,e⟩:=hA9.mp z;have:=hAt.mp (hAf.mp hi).1;omega
theorem qGx (m x:Nat):rv m x<2^m:=hBi _ fun i hi=>by rw[qBj,decide_eq_false (by omega)];rfl
theorem rv_xor (m x y:Nat):rv m (x^^^y)=rv m x^^^rv m y:=hAn fun j=>by
 rw[hB2,qBj,qBj,qBj,hB2];cases decide (j<m) <;> simp
theorem qCj {m x:Nat} (h:x<2^m):rv m (rv m x)=x:=hAn fun j=>by
 rw[qBj,qBj];by_cases hj:j<m
 ·rw[decide_eq_true hj,decide_eq_true (by omega),show m - 1 - (m - 1 - j)=j by omega];rfl
 ·rw[decide_eq_false hj,qCt h (Nat.le_of_not_lt hj)];rfl
theorem qDx (m:Nat):rv m 0=0:=hAn fun j=>by rw[qBj];simp
theorem rv_ne {m x:Nat} (h:x<2^m) (nz:x≠0):rv m x≠0:=fun z=>nz (by rw[<-qCj h,z,qDx])
theorem lo_lt {m x:Nat} (h:x<2^m) (nz:x≠0):lo x<m:=by
 rcases hE2 (lo x) m with z | z
 ·exact z
 ·have:=(lo_spec nz).1;rw[qCt h z]at this;cases this
theorem qC7 {m x:Nat} (h:x<2^m) (nz:x≠0):(rv m x).log2=m - 1 - lo x:=by
 obtain⟨h1,h2⟩:=lo_spec nz;have l:=lo_lt h nz;refine log2_of ?_ (hBi _ fun i hi=>?_)
 ·rw[qBj,decide_eq_true (by omega),show m - 1 - (m - 1 - lo x)=lo x by omega,h1];rfl
 ·rw[qBj];by_cases q:i<m
  ·rw[h2 (m - 1 - i) (by omega)];simp
  ·rw[decide_eq_false q];rfl
noncomputable def rdL (x s:Nat):Nat:=if x.testBit (lo s)=true then x^^^s else x
theorem rv_rdL {m x s:Nat} (hs:s<2^m) (nz:s≠0):rv m (rdL x s)=rd1 (rv m x) (rv m s):=by
 have l:=lo_lt hs nz;unfold rdL rd1;have b:(rv m x).testBit (rv m s).log2=x.testBit (lo s):=by
  rw[qC7 hs nz,qBj,decide_eq_true (by omega),show m - 1 - (m - 1 - lo s)=lo s by omega];rfl
 rw[b];split
 ·exact rv_xor m x s
 ·rfl
theorem rdL_lt {m x s:Nat} (hx:x<2^m) (hs:s<2^m):rdL x s<2^m:=by
 unfold rdL;split
 ·exact hCf hx hs
 ·exact hx
noncomputable def redL1 (k:List Nat) (x:Nat):Nat:=k.foldl rdL x
def Gm (m:Nat) (k:List Nat):Prop:=∀ s∈k,s<2^m/\s≠0
theorem redL1_rv {m:Nat}:∀ {k:List Nat} {x:Nat},Gm m k->x<2^m->redL1 k x<2^m/\rv m (redL1 k x)=red1 (k.map (rv m)) (rv m x)
 | [],x,_,hx=>⟨hx,rfl⟩
 | s :: k,x,h,hx=>by
  obtain⟨h1,h2⟩:=h s hAe;have ih:=redL1_rv (x:=rdL x s) (fun t ht=>h t (hAc _ ht)) (rdL_lt hx h1);refine⟨ih.1,?_⟩;show rv m (redL1 k (rdL x s))=red1 (k.map (rv m)) (rd1 (rv m x) (rv m s));rw[ih.2,rv_rdL h1 h2]
noncomputable def redLS (k:List Nat) (x:Nat):List Nat:=if redL1 k x=0 then k else k.map (fun s=>rdL s (redL1 k x))++[redL1 k x]
noncomputable def redL (xs:List Nat):List Nat:=xs.foldl redLS []
theorem qGa (xs:List Nat) (x:Nat):redL (xs++[x])=redLS (redL xs) x:=by unfold redL;rw[hBz];rfl
theorem qC9 {m:Nat} (xs:List Nat):(∀ x∈xs,x<2^m)->Gm m (redL xs)/\(redL xs).map (rv m)=red (xs.map (rv m)):=by
 refine qEw (P:=fun xs=>(∀ x∈xs,x<2^m)->Gm m (redL xs)/\(redL xs).map (rv m)=red (xs.map (rv m))) (fun _=>⟨fun s hs=>(by cases hs),rfl⟩) (fun l t ih h=>?_) xs;obtain⟨g,e⟩:=ih fun x hx=>h x (hAg _ hx)
 have ht:=h t (by simp);obtain⟨l1,l2⟩:=redL1_rv g ht;have sp:∀ s∈redL l,rv m s≠0:=fun s hs=>rv_ne (g s hs).1 (g s hs).2
 rw[hA3,List.map_singleton,qEb,qGa,<-e];unfold redLS redS;rw[<-l2];by_cases z:redL1 (redL l) t=0
 ·rw[if_pos z,z,qDx,if_pos rfl];exact⟨g,rfl⟩
 ·have z':=rv_ne l1 z;rw[if_neg z,if_neg z'];have rr:=qC1 (l.map (rv m));rw[<-e]at rr;refine⟨fun s hs=>?_,?_⟩
  ·rcases hAb.mp hs with w | w
   ·obtain⟨u,hu,rfl⟩:=hA9.mp w;refine⟨rdL_lt (g u hu).1 l1,fun q=>?_⟩;have q2:=rv_rdL (x:=u) l1 z;rw[q,qDx]at q2;have ld:=qEc (x:=rv m t) rr (rv m u) (hE1 hu);rw[<-l2]at ld;exact(rd1_log2 (sp u hu) z' ld).2 q2.symm
   ·rw[hA4]at w;rw[w];exact⟨l1,z⟩
  ·rw[hA3,List.map_singleton,hAo,hAo];congr 1;refine hBs fun s hs=>?_
   exact rv_rdL l1 z
end My
namespace My
open PySem
noncomputable def bd (V:Nat->Nat):Nat->Nat->Nat
 | 0,_=>0
 | m+1,y=>bd V m y^^^(if y.testBit m=true then V m else 0)
noncomputable def el1 (v f:Nat×Nat):Nat×Nat:=if v.1.testBit (lo f.1)=true then (v.1^^^f.1,v.2^^^f.2) else v
noncomputable def el (k:List (Nat×Nat)) (v:Nat×Nat):Nat×Nat:=k.foldl el1 v
abbrev Ech (k:List (Nat×Nat)):Prop:=k.Pairwise fun a b=>b.1.testBit (lo a.1)=false
structure EIv (V:Nat->Nat) (m j:Nat) (K:List (Nat×Nat)) (F:List Nat):Prop where
 k1:∀ f∈K,f.1≠0/\f.1=bd V m f.2
 kl:∀ f∈K,f.2<2^j
 k2:Ech K
 f1:∀ y∈F,y<2^j/\bd V m y=0
 cov:∀ y,y<2^j->Spn (F++K.map (·.2)) y
 len:F.length+K.length=j
 fsh:Fsh F
end My
namespace L2
open PySem PySem.Spec PyProof.Rows
section
variable {X:Cx}
theorem ints_of:∀ {us:List Value},qA9 (ns.map V.int) us->∃ xs:List (Int×Tok),us=xs.map (fun p=>Value.int p.1 p.2)/\xs.map (·.1)=ns:=by
 induction ns with
 | nil=>intro us r;cases r;exact⟨[],rfl,rfl⟩
 | cons a l ih =>
  intro us r;cases r with
  | cons r rr =>
   obtain⟨t,rfl⟩:=r;obtain⟨xs,rfl,rfl⟩:=ih rr;exact⟨(a,t) :: xs,rfl,rfl⟩
theorem qEo (hc:X.calm=true):qB9 X (.builtin "sum") (fun xs H Q=>∃ (p:Addr) (ns:List Int),xs=[.ref p]/\SqL X.K H p (ns.map V.int)/\Q (.int ns.sum) H):=by
 intro pins s σ H xs us Q I r h;obtain⟨p,ns,rfl,hq,q⟩:=h;obtain⟨u,rfl,rx⟩:=qCs r;cases rx;obtain⟨its,rv,pl,hz⟩:=I.list hq;obtain⟨ys,rfl,rfl⟩:=ints_of rv;have e:(ys.map (fun p=>Value.int p.1 p.2)).toArray=intItems ys.toArray:=by unfold intItems;simp
 have pl':=pl.isList;rw[e]at pl';refine sum_intListG (I.ok.hd hc) pl' fun h' tk t' hk=>⟨.int _,H,I.kept (t':=tk) hk,⟨t',rfl⟩,?_⟩
 rw[preSum_eq,hA6 (by simp)];exact q
theorem qCy:∀ {us:List Value},qA9 (ns.map V.int) us->IntsAre us ns:=by
 induction ns with
 | nil=>intro us r;cases r;exact .nil
 | cons a l ih =>
  intro us r;cases r with
  | cons r rr =>
   obtain⟨t,rfl⟩:=r;exact .cons a t (ih rr)
theorem qHb:∀ {us:List Value},IntsAre us ns->qA9 (ns.map V.int) us:=by
 induction ns with
 | nil=>intro us r;cases r;exact .nil
 | cons a l ih =>
  intro us r;cases r with
  | cons _ _ r=>exact .cons ⟨_,rfl⟩ (ih r)
def tSortRev (K:PySem.W.Frag) (t:TA):TE:=fun σ H Q=>t σ H fun vs H1=>∃ (p:Addr) (ns:List Int),vs=[.ref p]/\SqL K H1 p (ns.map V.int)/\ns.length<64/\∀ (r:Addr) (ns':List Int),H1 r=none->ns'.Perm ns->Ordered true ns'->Q (.ref r) (upd H1 r (.lst (ns'.map V.int)))
theorem pe_sortRev (hg:Gl X "sorted") (hm:X.mg "sorted" = none) (ha:PA X [e] t)
  (he:backTo pos (starEach [e] X.env)=(false,eval e X.env) :: backTo pos (starEach [] X.env):=by rfl)
  (hplain:(backTo pos (starEach [e] X.env)).any (·.1)=false:=by rfl):PE X (.Call (.Name "sorted" p) [e] [⟨some "reverse",.Constant (.bool true) j cp,kp⟩] pos) (tSortRev X.K t):=by
 intro pins s σ H Q I h;refine wpAny_Call_Name_kw (qEm I hg hm (by decide +kernel:bootBuiltins "sorted" = some (.builtin "sorted")) ?_ (by decide) (by decide));refine PyProof.Rows.callWith_kw (thn (ha pos pins s σ H _ I h) fun us s1 ⟨vs,H1,I1,r1,q1⟩=>?_) he hplain;obtain⟨a,ns,rfl,hq,h64,q⟩:=q1;obtain⟨u,rfl,rx⟩:=qCs r1;cases rx;refine hDs (Constant_bool (hDw ?_));obtain⟨its,rv,pl,hz⟩:=I1.list hq;have hl:=rv.length;rw[hA1]at hl;refine sorted_ints_rev (b:=true) pl.isList (qCy rv) (by omega) fun out ns' h1 h2 h3=>?_
 obtain⟨e,he⟩:=sortedAll_at s1.heap its out;have nz:H1 (s1.heap.objs.size+1)=none:=I1.hok.fresh (hBl _);refine⟨.ref (s1.heap.objs.size+1),_,I1.laid (t':=s1.toks) (a:=s1.heap.objs.size+1) (o:=.lst (ns'.map V.int)) (fun b o eb=>sortedAll_old eb) (hBl _) ?_,rfl,q _ ns' nz h2 h3⟩;refine⟨?_,out.toList,e,qHb h1,by simpa using he⟩;rw[hA1,h2.length_eq];exact hBd (qAf (by omega))
def rBits:V->List V->Hp->VK->Prop:=fun x vs H Q=>∃ i:Int,x = .int i/\vs=[]/\Q (.int (Builtin.Int.intBits i:Nat)) H
theorem mt_bits:MtR X "int.bit_length" rBits:=by
 intro pins s σ H x vs v us Q I rx rv h;obtain⟨i,rfl,rfl,q⟩:=h;obtain⟨t,rfl⟩:=rx;have hus:=rv.zero;subst hus;exact call_int_bit_length ⟨.int _,H,I.tok _,⟨_,rfl⟩,q⟩
end
end L2
namespace L2
open PySem PySem.Spec PyProof.Rows
section
variable {X:Cx}
def iEnum (K:PySem.W.Frag) (ta:TA):TI:=fun σ H R=>ta σ H fun vs H1=>∃ (a:Addr) (xs:List V),vs=[.ref a]/\SqL K H1 a xs/\R (Itp xs.length (fun H=>SqL K H a xs) (fun i=>[.int (i:Nat),xs.getD i .non])) H1
theorem boot_enum:bootBuiltins "enumerate" = some (.type "enumerate"):=by decide +kernel
theorem pi_enum (hg:Gl X "enumerate") (hm:X.mg "enumerate" = none) (ha:PA X [a] ta) (hs:starEach [a] X.env=[(false,eval a X.env)]:=by rfl) :
  PI X (.Tuple elts ct tpos) (.Call (.Name "enumerate" p) [a] [] pos) (iEnum X.K ta):=by
 intro pins s σ H R I h;refine Call_ (qEm I hg hm boot_enum (hCr (thn (ha pos pins s σ H _ I h) fun us s1 ⟨vs,H1,I1,r1,q1⟩=>?_) (by rw[hs];rfl) (by rfl)));obtain⟨l,xs,e,hx,q⟩:=q1;subst e;obtain⟨u,rfl,rx⟩:=qCs r1;cases rx;obtain⟨it1,rv1,pl1,hz1⟩:=I1.list hx;have b1:l<s1.heap.objs.size:=by obtain⟨o,n,e,_⟩:=pl1;exact Heap.lt_size e
 refine call_enumerate_list pl1.isList fun h1 z1 z2 z3 z7=>?_
 refine wpAny_pyIter_enum z1 ?_;have hfp:∀ b∈[s1.heap.objs.size+1,s1.heap.objs.size],s1.heap.objs.size<=b:=fun b hb=>by
  simp only[hAh,hDn,or_false]at hb;rcases hb with rfl | rfl
  ·exact Nat.le_add_right _ _
  ·exact hA5 _
 refine⟨s1.heap.objs.size+1,[s1.heap.objs.size+1,s1.heap.objs.size],
  fun i h=>(∃ old,IsEnum h (s1.heap.objs.size+1) s1.heap.objs.size i old)/\h.IsListIter s1.heap.objs.size l i,
  _,H1,rfl,I1.kept (t':=s1.toks) z7,
  turn_walkT (s1.heap.objs.size+1) _ [s1.heap.objs.size+1,s1.heap.objs.size,l] [s1.heap.objs.size+1,s1.heap.objs.size] _ _ _ _ (by simp) (fun b hb=>hb) (fun i h st b hb=>?_) (fun i h h' st k=>?_) (fun i=>by show 2<=sizeLine;decide) ?_ (fun A i s' Q E st hQ=>by
   obtain⟨⟨old,he⟩,_⟩:=st;exact wpAny_pyIter_enum he hQ),
  ⟨⟨_,z1⟩,z2⟩,fun b hb=>I1.fpOk (hfp b hb) (I1.hok.fresh (hfp b hb)),q⟩
 ·obtain⟨⟨old,a1⟩,⟨o4,a4,c4,d4⟩⟩:=st;simp only[hAh,hDn,or_false]at hb;rcases hb with rfl | rfl
  ·exact⟨_,a1,fun v z=>by cases z⟩
  ·exact⟨_,a4,fun v z=>by rw[d4]at z;cases z⟩
 ·obtain⟨⟨old,a1⟩,a4⟩:=st;exact⟨⟨old,k _ (by simp) _ a1⟩,a4.at fun o e=>k _ (by simp) o e⟩
 ·intro X' hP hw hK hc pins' s' σ' H' I' hL;rw[<-hK]at hL;obtain⟨jt1,sv1,ql1,_⟩:=I'.list hL;have m1:=sv1.length;have ne1:l≠s1.heap.objs.size:=hB0 b1;have Wz:=WalksT.enumerateD (A:=X'.A) (Draws.list (prog:=X.prog) (w:=X.w) (A:=X'.A.in1) (I'.ok.hd hc) s1.heap.objs.size l ne1 jt1.toArray) (s1.heap.objs.size+1) (Nat.succ_ne_self _) (fun z=>by
   simp only[hAh,hDn,or_false]at z;rcases z with z | z
   ·exact Nat.succ_ne_self _ z
   ·exact absurd b1 (by rw[<-z];exact Nat.not_lt_of_le (hBl _))) (by simp)
  rw[show jt1.toArray.size=xs.length by show jt1.length=_;rw[m1]]at Wz;refine⟨_,_,_,Wz,fun i st=>?_,fun i h st=>?_,fun i vals pv=>?_⟩
  ·exact⟨st.1,st.2,ql1.isList⟩
  ·exact⟨st.1,st.2.1⟩
  ·obtain⟨t,x,e1,rfl⟩:=pv;have e1:jt1[i]?=some x:=by simpa using e1
   have c1:i<xs.length:=by rw[m1];exact(hAv.mp e1).1
   obtain⟨u,d1,d2⟩:=sv1.get (hA2 c1);rw[e1]at d1;cases d1;show qA9 [.int (i:Nat),xs.getD i .non] [.int i t,x];rw[hAk,hA2 c1];exact .cons ⟨t,rfl⟩ (.cons d2 .nil)
end
end L2
namespace My
open PySem L2
noncomputable abbrev iV (n:Nat):V:=.int (n:Int)
def LsN (H:Hp) (a:Addr) (ms:List Nat):Prop:=H a=some (.lst (ms.map iV))
theorem qCr:bootBuiltins "min" = some (.builtin "min"):=by decide +kernel
theorem qEq:bootBuiltins "sum" = some (.builtin "sum"):=by decide +kernel
theorem qFx {as:List Str} {i:Nat} {x:V} (e:(as.map V.str)[i]?=some x):∃ a,x = .str a/\as[i]?=some a:=by
 rw[hAs]at e;cases ha:as[i]? with
 | none=>rw[ha]at e;cases e
 | some a=>rw[ha]at e;exact⟨a,(hAu e).symm,rfl⟩
theorem qF8 {as:List Addr} {i:Nat} {x:V} (e:(as.map V.ref)[i]?=some x):∃ a,x = .ref a/\as[i]?=some a:=by
 rw[hAs]at e;cases ha:as[i]? with
 | none=>rw[ha]at e;cases e
 | some a=>rw[ha]at e;exact⟨a,(hAu e).symm,rfl⟩
theorem qA1 {ms:List Nat} {i:Nat} {x:V} (e:(ms.map iV)[i]?=some x):∃ n,x=iV n/\ms[i]?=some n:=by
 rw[hAs]at e;cases ha:ms[i]? with
 | none=>rw[ha]at e;cases e
 | some a=>rw[ha]at e;exact⟨a,(hAu e).symm,rfl⟩
theorem qB4 (ms:List Nat):ms.map iV=(ms.map fun n:Nat=>(n:Int)).map V.int:=by rw[hAo];rfl
noncomputable def qAt (names row:List Str):Nat:=names.foldl (fun m n=>2*m+(if n∈row then 1 else 0)) 0
theorem qE1 (names row:List Str) (n:Str):qAt (names++[n]) row=2*qAt names row+(if n∈row then 1 else 0):=by unfold qAt;rw[hBz];rfl
theorem qA0 (row:List Str) (names:List Str):∀ j,(qAt names row).testBit j=(decide (j<names.length) && decide (∃ n,names[names.length - 1 - j]?=some n/\n∈row)):=by
 refine qCv (P:=fun names=>∀ j,(qAt names row).testBit j=(decide (j<names.length) && decide (∃ n,names[names.length - 1 - j]?=some n/\n∈row))) (fun j=>by simp[qAt]) (fun l n ih j=>?_) names;rw[qE1,hA7];show _=(decide (j<l.length+1) && decide (∃ m,(l++[n])[l.length+1 - 1 - j]?=some m/\m∈row));cases j with
 | zero =>
  rw[hAx,decide_eq_true (by omega:0<l.length+1),hBm];refine decide_eq_decide.mpr ?_;rw[show l.length+1 - 1 - 0=l.length by omega,hC6 (hA5 _)];simp;by_cases h:n∈row
  ·simp[h]
  ·simp[h]
 | succ j =>
  rw[hCc,show(2*qAt l row+(if n∈row then 1 else 0)) / 2=qAt l row by split <;> omega,ih j];by_cases hj:j<l.length
  ·rw[decide_eq_true hj,decide_eq_true (by omega:j+1<l.length+1),show l.length+1 - 1 - (j+1)=l.length - 1 - j by omega,List.getElem?_append_left (by omega)]
  ·rw[decide_eq_false hj,decide_eq_false (by omega:¬j+1<l.length+1)];rfl
theorem qEi (names row:List Str):qAt names row<2^names.length:=hBi _ fun i hi=>by rw[qA0,decide_eq_false (by omega)];rfl
def spMask:Sp:=fun vs H Q _=>∃ (pn pr:Addr) (names row:List Str),vs=[.ref pn,.ref pr]/\LsS H pn names/\LsS H pr row/\Q (iV (qAt names row)) H
noncomputable def rowM (names:List Str) (x:Nat):List Str:=(List.range names.length).filterMap fun i=>if x.testBit (names.length - 1 - i)=true then names[i]? else none
def qFz:Sp:=fun vs H Q _=>∃ (pn:Addr) (names:List Str) (x:Nat),vs=[.ref pn,iV x]/\LsS H pn names/\names.length<=12/\∀ r H',Ext H H'->H r=none->LsS H' r (rowM names x)->Q (.ref r) H'
theorem qC6 (x k:Nat):Builtin.bitAnd ((x:Int) / 2^k) 1=if x.testBit k=true then 1 else 0:=by
 have e:(x:Int) / 2^k=((x / 2^k:Nat):Int):=by rw[Int.natCast_ediv,Int.natCast_pow];rfl
 have e1:(1:Int)=((1:Nat):Int):=rfl;rw[e];show Builtin.bitAnd _ ((1:Nat):Int)=_;rw[qBn,Nat.and_one_is_mod,Nat.testBit_eq_decide_div_mod_eq];rcases hBn (x / 2^k) with h | h <;> rw[h] <;> rfl
def spLess:Sp:=fun vs H Q _=>∃ (x:Nat) (p:Addr) (k:List Nat),vs=[iV x,.ref p]/\LsN H p k/\(∀ s∈k,s≠0)/\Q (iV (red1 k x)) H
theorem min_int (x:Nat) {s:Nat} (hs:s≠0):(if Builtin.bitXor (x:Int) (s:Int)<(x:Int) then Builtin.bitXor (x:Int) (s:Int) else (x:Int))=((rd1 x s:Nat):Int):=by
 rw[qBm,<-min_rd1 x hs];by_cases h:x^^^s<x
 ·rw[if_pos h,if_pos (by omega)]
 ·rw[if_neg h,if_neg (by omega)]
def spRedu:Sp:=fun vs H Q _=>∃ (p:Addr) (ms:List Nat),vs=[.ref p]/\LsN H p ms/\ms.length<=24/\∀ (r:Addr) (M:List Nat) (H':Hp),Ext H H'->H r=none->LsN H' r M->M.Perm (red ms)->M.Pairwise (fun a b=>b<=a)->Q (.ref r) H'
def spLead:Sp:=fun vs H Q _=>∃ x:Nat,vs=[iV x]/\x≠0/\x<2^24/\Q (iV (2^x.log2)) H
theorem redS_len (k:List Nat) (x:Nat):(redS k x).length<=k.length+1:=by
 unfold redS;split
 ·omega
 ·rw[hA7,hA1];exact hA5 _
theorem red_le (xs:List Nat):(red xs).length<=xs.length:=by
 refine qEw (P:=fun xs=>(red xs).length<=xs.length) (hA5 _) (fun l t ih=>?_) xs;rw[qEb,hA7];have:=redS_len (red l) t;show _<=l.length+1;omega
section
variable {P:Program} {w:World} {K:PySem.W.Frag} {mg:Str->Option Value} {base:Heap} {f f1 f2:Addr} {fd fd1 fd2:FuncData}
noncomputable abbrev maN:List Str:=["names","row","mask","name"]
theorem scMask:FnScope maN ["names","row"] (qAb sMask):=⟨rfl,rfl,rfl,by decide +kernel,rfl,by decide +kernel,by decide +kernel⟩
theorem ok_mask (F:Fun K "mask_of" "mask_of" sMask f fd):FnOk P w K mg base CX0 1 f fd ["names","row"] spMask:=by
 refine F.ok scMask (fun vs H Q E h=>?_) (fun cdv A outer s H vs Q E hr h=>?_)
 ·obtain⟨pn,pr,names,row,rfl,_⟩:=h;rfl
 obtain⟨pn,pr,names,row,rfl,hn,hw,q⟩:=h;refine⟨_,qAa (qAg (i:=2) scMask.nd rfl (Or.inl rfl) qAc)
  (qAa (qAz PassesOwn.never rfl (qAn (pv 0)) (qAd (i:=3) scMask.nd rfl (Or.inl rfl))
   (pss_one (qAg (i:=2) scMask.nd rfl (Or.inl rfl) (qAh qBa (qAh qC3 qAc (pv 2)) (pe_ifExp (qAk op_in_seq (pv 3) (pv 1) (by with_unfolding_all rfl)) qAc qAc)))))
  (pss_one (ps_ret (pv 2)))),?_⟩
 try dsimp only[Cx.wish,qBy]
 refine⟨_,rfl,pn,rfl,⟨_,SqL.of hn⟩,?_⟩;refine qA2 (xs:=names.map V.str) (fun i σ H'=>H'=H/\∃ x3:Option V,σ=[some (.ref pn),some (.ref pr),some (iV (qAt (names.take i) row)),x3]) ⟨rfl,none,rfl⟩ (fun i σ H' _ h=>by rw[h.1];exact SqL.of hn) ?_ ?_
 ·rintro i x σ H' hx ⟨rfl,x3,rfl⟩;obtain⟨y,rfl,hy⟩:=qFx hx;refine⟨_,rfl,_,_,rfl,rfl,.inl ⟨by decide,by decide⟩,_,rfl,_,rfl,pr,_,rfl,.inl (SqL.of hw),rfl,flat_strs _,_,rfl,?_⟩;rw[if_neg (by decide),inV_str];refine qBw (fun c=>?_) (fun c=>?_)
  ·have c':y∈row:=by simpa using c
   refine⟨_,_,rfl,rfl,rfl,some (.str y),?_⟩;rw[show iV (qAt (names.take (i+1)) row)=V.int (2*((qAt (names.take i) row:Nat):Int)+1) by rw[qAm hy,qE1,if_pos c'];rfl];rfl
  ·have c':¬y∈row:=by simpa using c
   refine⟨_,_,rfl,rfl,rfl,some (.str y),?_⟩;rw[show iV (qAt (names.take (i+1)) row)=V.int (2*((qAt (names.take i) row:Nat):Int)+0) by rw[qAm hy,qE1,if_neg c'];rfl];rfl
 ·rintro σ H' ⟨rfl,x3,rfl⟩;rw[hA1,hA6 (hA5 _)];exact⟨_,rfl,q⟩
theorem scRowOf:FnScope ["names","mask","last"] ["names","mask"] (qAb qF5):=⟨rfl,rfl,rfl,by decide +kernel,rfl,by decide +kernel,by decide +kernel⟩
noncomputable abbrev roN:List Str:=["at","name","mask","last"]
theorem ok_rowOf (F:Fun K "row_of" "row_of" qF5 f fd) (ml:mg "len" = none) (me:mg "enumerate" = none):FnOk P w K mg base CX0 1 f fd ["names","mask"] qFz:=by
 refine F.ok scRowOf (fun vs H Q E h=>?_) (fun cdv A outer s H vs Q E hr h=>?_)
 ·obtain⟨pn,names,x,rfl,_⟩:=h;rfl
 obtain⟨pn,names,x,rfl,hn,ln,q⟩:=h;refine⟨_,qAa (qAg (i:=2) scRowOf.nd rfl (Or.inr rfl) (qAh qCp (qAj qAi rfl ml hAw (pa_cons (pv 0) pa_nil)) qAc))
  (pss_one (ps_ret (qBo (N:=["names","mask","last"]) (sc:=qAb qF5) (N':=roN) (sub:=[none,none,some 1,some 2]) rfl rfl (CmpOk.of (by decide +kernel)) rfl (pi_enum rfl me (pa_cons (pv 0) pa_nil))
   (fun C s H fp=>⟨(show PG _ _ (gTup K 2 _) from qEf rfl (qA4 (qAd (i:=0) (by show roN.Nodup;decide) rfl (Or.inl rfl)) (qA4 (qAd (i:=1) (by show roN.Nodup;decide) rfl (Or.inl rfl)) qCx))),
    qBh (qAk qBl (qAh qBg (qAh qFa (pv 2) (qAh qCp (pv 3) (pv 0))) qAc) qAc (qAq _)),pv 1⟩)))),?_⟩
 try dsimp only[Cx.wish,qBy]
 refine⟨_,rfl,pn,_,rfl,.inl (SqL.of hn),_,_,rfl,rfl,?_⟩;refine⟨_,rfl,pn,_,rfl,SqL.of hn,?_⟩;rw[hA1];refine turns_tup (fun i ys H'=>Ext H H'/\ys=((List.range i).filterMap fun i=>if x.testBit (names.length - 1 - i)=true then names[i]? else none).map V.str) ⟨Ext.refl _,rfl⟩ (fun i ys H' _ p=>SqL.of (p.1 _ _ hn)) ?_ ?_
 ·rintro i ys H' T hi ⟨e,rfl⟩ hT;have gd:(names.map V.str).getD i .non = .str names[i]:=by rw[hAk,hAs,hA2 hi];rfl
  have e2:=e.trans (Ext.new hT (.tup [V.int (i:Nat),(names.map V.str).getD i .non]));refine⟨T,_,rfl,SqT.of upd_same,rfl,_,_,rfl,_,_,rfl,rfl,?_⟩;refine⟨Sle.set _ (Sle.set _ (Sle.refl _) (fun u z=>by cases z)) (fun u z=>by cases z),?_⟩;have k:(((names.length:Nat):Int) - 1 - (i:Nat))=((names.length - 1 - i:Nat):Int):=by omega
  refine⟨_,rfl,_,rfl,_,rfl,_,_,rfl,rfl,_,_,rfl,rfl,(by show(0:Int)<=_;omega),_,_,rfl,rfl,rfl,_,rfl,?_⟩;have fm:((List.range (i+1)).filterMap fun i=>if x.testBit (names.length - 1 - i)=true then names[i]? else none)=((List.range i).filterMap fun i=>if x.testBit (names.length - 1 - i)=true then names[i]? else none)++(if x.testBit (names.length - 1 - i)=true then [names[i]] else []):=by
   rw[hC9,List.filterMap_append];congr 1;by_cases b:x.testBit (names.length - 1 - i)=true
   ·simp[b,hA2 hi]
   ·simp[b]
  have sz:=List.length_filterMap_le (fun i=>if x.testBit (names.length - 1 - i)=true then names[i]? else none) (List.range i);rw[hAy]at sz;have key:(decide (V.int (Builtin.bitAnd ((x:Int) / 2^(((names.length:Nat):Int) - 1 - (i:Nat)).toNat) 1)=V.int 1)=true)↔x.testBit (names.length - 1 - i)=true:=by
   rw[decide_eq_true_iff,V.int.injEq,k,hB4,qC6];by_cases b:x.testBit (names.length - 1 - i)=true
   ·simp[b]
   ·simp[b]
  refine qBw (fun c=>?_) (fun c=>?_)
  ·have b:=key.mp c;refine⟨_,rfl,by rw[hA1];exact qAf (by omega),nxt hi ⟨e2,?_⟩⟩;rw[fm,if_pos b,hA3,gd];rfl
  ·have b:¬x.testBit (names.length - 1 - i)=true:=fun z=>c (key.mpr z)
   refine nxt hi ⟨e2,?_⟩;rw[fm,if_neg b,hBe]
 ·rintro ys H' ⟨e,rfl⟩ r hr';exact q r _ (e.trans (Ext.new hr' _)) (e.none hr') upd_same
theorem scLess:FnScope ["mask","kept","step"] ["mask","kept"] (qAb sLess):=⟨rfl,rfl,rfl,by decide +kernel,rfl,by decide +kernel,by decide +kernel⟩
theorem ok_less (F:Fun K "lessened" "lessened" sLess f fd) (mmi:mg "min" = none):FnOk P w K mg base CX0 1 f fd ["mask","kept"] spLess:=by
 refine F.ok scLess (fun vs H Q E h=>?_) (fun cdv A outer s H vs Q E hr h=>?_)
 ·obtain⟨x,p,k,rfl,_⟩:=h;rfl
 obtain⟨x,p,k,rfl,hk,nz,q⟩:=h;refine⟨_,qAa (qAz PassesOwn.never rfl (qAn (pv 1)) (qAd (i:=2) scLess.nd rfl (Or.inl rfl))
   (pss_one (qAg (i:=0) scLess.nd rfl (Or.inl rfl) (qAj (qCq rfl) rfl mmi qCr (pa_cons (pv 0) (pa_cons (qAh qC2 (pv 0) (pv 2)) pa_nil))))))
  (pss_one (ps_ret (pv 0))),?_⟩
 try dsimp only[Cx.wish,qBy]
 refine⟨_,rfl,p,rfl,⟨_,SqL.of hk⟩,?_⟩;refine qA2 (xs:=k.map iV) (fun i σ H'=>H'=H/\∃ x2:Option V,σ=[some (iV (red1 (k.take i) x)),some (.ref p),x2]) ⟨rfl,none,rfl⟩ (fun i σ H' _ h=>by rw[h.1];exact SqL.of hk) ?_ ?_
 ·rintro i v σ H' hx ⟨rfl,x2,rfl⟩;obtain⟨s,rfl,hs⟩:=qA1 hx;refine⟨_,rfl,_,rfl,_,rfl,_,_,rfl,rfl,_,_,rfl,rfl,some (iV s),?_⟩;rw[min_int _ (nz s (hAd hs)),show red1 (k.take (i+1)) x=rd1 (red1 (k.take i) x) s by rw[qAm hs];unfold red1;rw[hBz];rfl];rfl
 ·rintro σ H' ⟨rfl,x2,rfl⟩;rw[hA1,hA6 (hA5 _)];exact⟨_,rfl,q⟩
theorem scRedu:FnScope ["masks","kept","mask","fresh"] ["masks"] (qAb sRedu):=⟨rfl,rfl,rfl,by decide +kernel,rfl,by decide +kernel,by decide +kernel⟩
theorem ok_redu (F:Fun K "reduced" "reduced" sRedu f fd) (G:Cl P w K mg base CX0 1 f1 fd1 ["mask","kept"] spLess "lessened") (mmi:mg "min" = none) (mso:mg "sorted" = none):FnOk P w K mg base CX0 2 f fd ["masks"] spRedu:=by
 refine F.ok scRedu (fun vs H Q E h=>?_) (fun cdv A outer s H vs Q E hr h=>?_)
 ·obtain⟨p,ms,rfl,_⟩:=h;rfl
 obtain⟨p,ms,rfl,hp,lm,q⟩:=h;refine⟨_,qAa (qAg (i:=1) scRedu.nd rfl (Or.inl rfl) (pe_lst pa_nil))
  (qAa (qAz PassesOwn.never rfl (qAn (pv 0)) (qAd (i:=2) scRedu.nd rfl (Or.inl rfl))
   (qAa (qAg (i:=3) scRedu.nd rfl (Or.inr rfl) (qAp G hr rfl .nil qAo (pa_cons (pv 2) (pa_cons (pv 1) pa_nil))))
   (pss_one (qBf (qAk qDz (pv 3) qAc (qAq _))
    (pss_one (qAg (i:=1) scRedu.nd rfl (Or.inl rfl) (qAh qCf (qBo (N:=["masks","kept","mask","fresh"]) (sc:=qAb sRedu) (N':=["step","fresh"]) (sub:=[none,some 3]) rfl rfl (CmpOk.of (by decide +kernel)) rfl (qAn (pv 1))
     (fun C s H fp=>⟨qAd (i:=0) (by show(["step","fresh"]:List Str).Nodup;decide) rfl (Or.inl rfl),qAy,qAj (qCq rfl) rfl mmi qCr (pa_cons (pv 0) (pa_cons (qAh qC2 (pv 0) (pv 1)) pa_nil))⟩)) (pe_lst (pa_cons (pv 3) pa_nil)))))
    qAu))))
  (pss_one (ps_ret (pe_sortRev rfl mso (pa_cons (pv 1) pa_nil))))),?_⟩
 try dsimp only[Cx.wish,qBy]
 refine⟨hAp _,fun ke ke0=>?_⟩;have X0:=Ext.new ke0 (.lst []);refine⟨_,rfl,p,rfl,⟨_,SqL.of (X0 _ _ hp)⟩,?_⟩;refine qA2 (xs:=ms.map iV) (fun i σ H'=>∃ (ke:Addr) (x2 x3:Option V),σ=[some (.ref p),some (.ref ke),x2,x3]/\Ext H H'/\LsN H' ke (red (ms.take i))) ⟨ke,none,none,rfl,X0,upd_same⟩ (fun i σ H' _ h=>by obtain⟨_,_,_,_,e,_⟩:=h;exact SqL.of (e _ _ hp)) ?_ ?_
 ·rintro i v σ H' hx ⟨ke,x2,x3,rfl,e,hk⟩;obtain⟨m,rfl,hm⟩:=qA1 hx;have hi:i<ms.length:=at_lt hm;have rr:=qC1 (ms.take i);have lr:=red_le (ms.take i);rw[hAi]at lr;refine⟨_,rfl,_,rfl,m,ke,_,rfl,hk,rr.nz,?_⟩;have sn:red (ms.take (i+1))=redS (red (ms.take i)) m:=by rw[qAm hm,qEb]
  refine⟨_,rfl,rfl,_,rfl,?_⟩;refine qBw (fun c=>?_) (fun c=>?_)
  ·have c':red1 (red (ms.take i)) m≠0:=fun z=>by rw[z]at c;simp at c
   refine⟨_,rfl,ke,rfl,⟨_,SqL.of hk⟩,?_⟩;refine qAs (xs:=(red (ms.take i)).map iV) (fun j ys H2=>H2=H'/\ys=(((red (ms.take i)).take j).map fun s=>rd1 s (red1 (red (ms.take i)) m)).map iV) ⟨rfl,rfl⟩ (fun j ys H2 _ h=>by rw[h.1];exact SqL.of hk) ?_ ?_
   ·rintro j x ys H2 hx2 ⟨rfl,rfl⟩;obtain⟨s,rfl,hs⟩:=qA1 hx2;have hj:=at_lt hs;refine⟨Sle.set _ (Sle.refl _) (fun u z=>by cases z),iteT (B:=False) ⟨_,rfl,_,rfl,_,rfl,_,_,rfl,rfl,_,_,rfl,?_,nxt (at_lt hx2) ⟨rfl,?_⟩⟩⟩
    ·rw[hA1,hA1,hAi];exact qAf (by omega)
    ·rw[min_int _ c',qAm hs,hA3,hA3];rfl
   ·rintro ys H2 ⟨rfl,rfl⟩ l hl;rw[hA1,hA6 (hA5 _)];have n1:=Ext.new hl (.lst (((red (ms.take i)).map fun s=>rd1 s (red1 (red (ms.take i)) m)).map iV));refine⟨_,rfl,(by show 1<=sizeLine;decide),fun l2 hl2=>?_⟩;have n2:=Ext.new hl2 (.lst [iV (red1 (red (ms.take i)) m)]);refine⟨l,l2,_,_,rfl,rfl,n2 _ _ upd_same,upd_same,?_,fun l3 hl3=>?_⟩
    ·rw[hA1,hA1];show _+1<=sizeLine;exact hBd (qAf (by omega))
    ·refine⟨l3,_,_,rfl,((e.trans n1).trans n2).trans (Ext.new hl3 _),?_⟩;rw[sn];unfold redS LsN;rw[if_neg c',upd_same,hA3];rfl
  ·have c':red1 (red (ms.take i)) m=0:=by
    have:(red1 (red (ms.take i)) m:Int)=0:=by simpa using c
    omega
   refine⟨ke,_,_,rfl,e,?_⟩;rw[sn];unfold redS;rw[if_pos c'];exact hk
 ·rintro σ H' ⟨ke,x2,x3,rfl,e,hk⟩;rw[hA1,hA6 (hA5 _)]at hk;have lr:=red_le ms;refine⟨_,rfl,ke,(red ms).map (fun n:Nat=>(n:Int)),rfl,by rw[<-qB4];exact SqL.of hk,by rw[hA1];omega,fun r ns hr' pm od=>?_⟩;have od':ns.Pairwise fun a b=>a >= b:=od
  obtain⟨M,rfl⟩:∃ M:List Nat,ns=M.map (fun n:Nat=>(n:Int)):=by
   refine⟨ns.map Int.toNat,?_⟩;rw[hAo];refine(hDk _).symm.trans (hBs fun a ha=>?_);obtain⟨n,_,rfl⟩:=hA9.mp (pm.mem_iff.mp ha);simp
  have pm':M.Perm (red ms):=by
   have:=pm.map Int.toNat;rw[hAo,hAo]at this;have idn:(Int.toNat∘fun n:Nat=>(n:Int))=id:=by funext n;simp
   rw[idn,hDk,hDk]at this;exact this
  refine q r M _ (e.trans (Ext.new hr' _)) (e.none hr') (by unfold LsN;rw[upd_same,qB4]) pm' ?_;rw[hAz]at od';exact List.Pairwise.imp (fun {a b} h=>by omega) od'
theorem scLead:FnScope ["mask"] ["mask"] (qAb sLead):=⟨rfl,rfl,rfl,by decide +kernel,rfl,by decide +kernel,by decide +kernel⟩
theorem ok_lead (F:Fun K "lead_of" "lead_of" sLead f fd):FnOk P w K mg base CX0 1 f fd ["mask"] spLead:=by
 refine F.ok scLead (fun vs H Q E h=>?_) (fun cdv A outer s H vs Q E hr h=>?_)
 ·obtain⟨x,rfl,_⟩:=h;rfl
 obtain⟨x,rfl,nz,lt,q⟩:=h;refine⟨_,pss_one (ps_ret (qAh qBx qAc (qAh qCp (pe_bm0 PySem.F.plainAttrs_int PySem.F.slot_int_bit_length PySem.F.type_int_bit_length mt_bits (pv 0)) qAc))),?_⟩;try dsimp only[Cx.wish,qBy]
 have l24:x.log2<24:=(Nat.log2_lt nz).mpr lt;have ib:Builtin.Int.intBits (x:Int)=x.log2+1:=by
  unfold Builtin.Int.intBits;rw[if_neg (by simpa using nz)];simp
 refine⟨_,rfl,rfl,x,rfl,rfl,_,_,rfl,rfl,_,_,rfl,rfl,?_⟩;rw[ib];have e:((x.log2+1:Nat):Int) - 1=(x.log2:Nat):=by omega
 rw[e];refine⟨⟨by omega,by omega,by decide⟩,?_⟩;dsimp only;rw[hB4,Int.one_mul];have p2:((2:Int)^x.log2)=((2^x.log2:Nat):Int):=by rw[Int.natCast_pow];rfl
 rw[p2];exact q
end
end My
namespace My
open PySem L2
theorem RR.perm {a b:List Nat} (h:RR a) (p:b.Perm a):RR b:=⟨fun s hs=>h.nz s (p.mem_iff.mp hs),(p.pairwise_iff (fun {x y} z=>⟨z.2,z.1⟩)).mpr h.ap⟩
theorem qD5:∀ l:List Nat,(l.map fun n:Nat=>(n:Int)).sum=((l.sum:Nat):Int)
 | []=>rfl
 | a :: l=>by rw[hBf,List.sum_cons,List.sum_cons,qD5 l];omega
theorem qA8 (p:Nat):(1:Int)*2^((p:Int)).toNat=((2^p:Nat):Int):=by
 rw[hB4,Int.one_mul,Int.natCast_pow];rfl
def spCrM:Sp:=fun vs H Q _=>∃ (p:Addr) (S:List Nat) (m:Nat),vs=[.ref p,iV m]/\LsN H p S/\RR S/\(∀ s∈S,s<2^m)/\m<=12/\S.length<=24/\∀ r H',Ext H H'->H r=none->LsN H' r (crAll S m)->Q (.ref r) H'
def qC5 (H:Hp) (T:Addr) (names:List Str) (rows:List (List Str)):Prop:=∃ a b,H T=some (.tup [.ref a,.ref b])/\LsS H a names/\qC4 H b rows
def TabF (H0 H:Hp) (T:Addr) (names:List Str) (rows:List (List Str)):Prop:=∃ a b,H T=some (.tup [.ref a,.ref b])/\LsS H a names/\H0 a=none/\RowsY H0 H b rows/\H0 b=none
theorem qC5.ext {H H':Hp} {T:Addr} {names:List Str} {rows:List (List Str)} (h:qC5 H T names rows) (e:Ext H H'):qC5 H' T names rows:=by
 obtain⟨a,b,h1,h2,h3⟩:=h;exact⟨a,b,e _ _ h1,e _ _ h2,h3.ext e⟩
theorem TabF.tin {H0 H:Hp} {T:Addr} {names:List Str} {rows:List (List Str)} (h:TabF H0 H T names rows):qC5 H T names rows:=by
 obtain⟨a,b,h1,h2,h3,h4,h5⟩:=h;exact⟨a,b,h1,h2,h4.rows⟩
theorem TabF.down {H0 H1 H:Hp} {T:Addr} {names:List Str} {rows:List (List Str)} (h:TabF H1 H T names rows) (e:Ext H0 H1):TabF H0 H T names rows:=by
 obtain⟨a,b,h1,h2,h3,⟨as,h4,h6⟩,h5⟩:=h;exact⟨a,b,h1,h2,e.none h3,⟨as,h4,Paired.mapP h6 fun a r z=>⟨z.1,e.none z.2.1,z.2.2⟩⟩,e.none h5⟩
def spTabF:Sp:=fun vs H Q _=>∃ (pn pm:Addr) (names:List Str) (ms:List Nat),vs=[.ref pn,.ref pm]/\LsS H pn names/\names.length<=12/\LsN H pm ms/\ms.length<=24/\∀ (T:Addr) (M:List Nat) (H':Hp),Ext H H'->H T=none->TabF H H' T names (M.map (rowM names))->M.Perm (red ms)->M.Pairwise (fun a b=>b<=a)->Q (.ref T) H'
def qFy:Sp:=fun vs H Q _=>∃ (T:Addr) (names:List Str) (rows:List (List Str)),vs=[.ref T]/\qC5 H T names rows/\rows.length<=24/\∀ (r:Addr) (M:List Nat) (H':Hp),Ext H H'->H r=none->LsN H' r M->M.Perm (red (rows.map (qAt names)))->M.Pairwise (fun a b=>b<=a)->Q (.ref r) H'
def spCross:Sp:=fun vs H Q _=>∃ (T:Addr) (names:List Str) (rows:List (List Str)),vs=[.ref T]/\qC5 H T names rows/\names.length<=12/\rows.length<=24/\∀ (T':Addr) (S M:List Nat) (H':Hp),Ext H H'->H T'=none->TabF H H' T' names (M.map (rowM names))->S.Perm (red (rows.map (qAt names)))->M.Perm (red (crAll S names.length))->M.Pairwise (fun a b=>b<=a)->Q (.ref T') H'
noncomputable def metF (net:List Tr) (x:Str):List Str:=(net.filter fun t=>decide (t.2.1=x) != decide (t.2.2=x)).map (·.1)
section
variable {P:Program} {w:World} {K:PySem.W.Frag} {mg:Str->Option Value} {base:Heap} {f f1 f2 f3 f4:Addr} {fd fd1 fd2 fd3 fd4:FuncData}
noncomputable abbrev crN:List Str:=["steps","width","leads","told","place","bit"]
theorem scCrM:FnScope crN ["steps","width"] (qAb sCrM):=⟨rfl,rfl,rfl,by decide +kernel,rfl,by decide +kernel,by decide +kernel⟩
theorem ok_crM (F:Fun K "crossed_masks" "crossed_masks" sCrM f fd) (G:Cl P w K mg base CX0 1 f1 fd1 ["mask"] spLead "lead_of") (msu:mg "sum" = none) (mr:mg "range" = none):FnOk P w K mg base CX0 2 f fd ["steps","width"] spCrM:=by
 refine F.ok scCrM (fun vs H Q E h=>?_) (fun cdv A outer s H vs Q E hr h=>?_)
 ·obtain⟨p,S,m,rfl,_⟩:=h;rfl
 obtain⟨p,S,m,rfl,hp,rr,lt,m12,lS,q⟩:=h;refine⟨_,qAa (qAg (i:=2) scCrM.nd rfl (Or.inl rfl) (qAj (qEo rfl) rfl msu qEq (pa_cons (qBo (N:=crN) (sc:=qAb sCrM) (N':=["step"]) (sub:=[none]) rfl rfl (CmpOk.of (by decide +kernel)) rfl (qAn (pv 0))
   (fun C s H fp=>⟨qAd (i:=0) (by show(["step"]:List Str).Nodup;decide) rfl (Or.inl rfl),qAy,qAp G hr rfl .nil qAo (pa_cons (pv 0) pa_nil)⟩)) pa_nil)))
  (qAa (qAg (i:=3) scCrM.nd rfl (Or.inl rfl) (pe_lst pa_nil))
  (qAa (qAz PassesOwn.never rfl (qAw rfl mr (pa_cons (pv 1) pa_nil)) (qAd (i:=4) scCrM.nd rfl (Or.inl rfl))
   (qAa (qAg (i:=5) scCrM.nd rfl (Or.inr rfl) (qAh qBx qAc (pv 4)))
   (pss_one (qBf (qAk qBl (qAh qBg (pv 2) (pv 5)) qAc (qAq _))
    (pss_one (ps_expr (pe_bm hAq hB5 hB6 mt_append (pv 3) (pa_cons
     (qAh qBa (pv 5) (qAj (qEo rfl) rfl msu qEq (pa_cons (qBo (N:=crN) (sc:=qAb sCrM) (N':=["step","bit"]) (sub:=[none,some 5]) rfl rfl (CmpOk.of (by decide +kernel)) rfl (qAn (pv 0))
      (fun C s H fp=>⟨qAd (i:=0) (by show(["step","bit"]:List Str).Nodup;decide) rfl (Or.inl rfl),qBh (qAk qDz (qAh qBg (pv 0) (pv 1)) qAc (qAq _)),qAp G hr rfl .nil qAo (pa_cons (pv 0) pa_nil)⟩)) pa_nil))) pa_nil))))
    qAu))))
  (pss_one (ps_ret (pv 3))))),?_⟩
 try dsimp only[Cx.wish,qBy]
 have l24:∀ s∈S,s<2^24:=fun s hs=>hAl (lt s hs) (hB9 (by decide) (by omega))
 refine⟨_,rfl,p,rfl,⟨_,SqL.of hp⟩,?_⟩;refine qAs (xs:=S.map iV) (fun j ys H2=>H2=H/\ys=((S.take j).map fun s:Nat=>2^s.log2).map iV) ⟨rfl,rfl⟩ (fun j ys H2 _ h=>by rw[h.1];exact SqL.of hp) ?_ ?_
 ·rintro j v ys H2 hx ⟨rfl,rfl⟩;obtain⟨s,rfl,hs⟩:=qA1 hx;have hj:=at_lt hs;have sm:=hAd hs;refine⟨Sle.set _ (Sle.refl _) (fun u z=>by cases z),iteT (B:=False) ⟨_,rfl,s,rfl,rr.nz s sm,l24 s sm,?_,nxt (at_lt hx) ⟨rfl,?_⟩⟩⟩
  ·rw[hA1,hA1,hAi];exact qAf (by omega)
  ·rw[qAm hs,hA3,hA3];rfl
 rintro ys H2 ⟨rfl,rfl⟩ l1 hl1;rw[hA1,hA6 (hA5 _)];have n1:=Ext.new hl1 (.lst ((S.map fun s:Nat=>2^s.log2).map iV));refine⟨l1,(S.map fun s:Nat=>2^s.log2).map (fun n:Nat=>(n:Int)),rfl,SqL.of (by rw[upd_same,qB4]),?_⟩;rw[qD5];refine⟨hAp _,fun to to1=>?_⟩;have to0:=n1.none to1;have n2:=n1.trans (Ext.new to1 (.lst []));refine⟨_,rfl,(m:Int),rfl,by omega,by omega,?_⟩;refine qA7 (lo:=0) (n:=((m:Int)).toNat) (fun i σ H'=>∃ (x4 x5:Option V),σ=[some (.ref p),some (iV m),some (iV (S.map fun s:Nat=>2^s.log2).sum),some (.ref to),x4,x5]/\Ext H2 H'/\LsN H' to (((List.range i).filter fun p=>!decide (isLd S p)).map (crM S))) ⟨none,none,rfl,n2,upd_same⟩ ?_ ?_
 ·rintro i σ H' hi ⟨x4,x5,rfl,e,ht⟩;have hi':i<m:=by omega
  refine⟨_,rfl,_,_,rfl,rfl,⟨by omega,by omega,by decide⟩,?_⟩;have bv:(fun i j:Int=>V.int (i*2^j.toNat)) 1 (0+(i:Int))=iV (2^i):=by
   show V.int (1*2^(0+(i:Int)).toNat)=_;rw[show(0+(i:Int))=(i:Nat) by omega,qA8]
  rw[bv];have sn:((List.range (i+1)).filter fun p=>!decide (isLd S p)).map (crM S)=((List.range i).filter fun p=>!decide (isLd S p)).map (crM S)++(if isLd S i then [] else [crM S i]):=by
   rw[hC9,hBc,hA3];congr 1;by_cases b:isLd S i
   ·simp[b]
   ·simp[b]
  have lb:=leads_bit rr i;refine⟨_,rfl,_,rfl,_,_,rfl,rfl,rfl,_,rfl,?_⟩;refine qBw (fun c=>?_) (fun c=>?_)
  ·have nl:¬isLd S i:=fun z=>by
    rw[decide_eq_true z]at lb;have ne:=(qE5 _ i).mpr lb;have:Builtin.bitAnd (((S.map fun s:Nat=>2^s.log2).sum:Nat):Int) ((2^i:Nat):Int)=0:=by simpa using c
    rw[qBn]at this;omega
   refine⟨_,rfl,.inl ⟨rfl,_,SqL.of ht⟩,_,rfl,?_⟩;refine⟨_,rfl,p,rfl,⟨_,SqL.of (e _ _ hp)⟩,?_⟩;refine qAs (xs:=S.map iV) (fun j ys H3=>H3=H'/\ys=(((S.take j).filter fun s:Nat=>s.testBit i).map fun s:Nat=>2^s.log2).map iV) ⟨rfl,rfl⟩ (fun j ys H3 _ h=>by rw[h.1];exact SqL.of (e _ _ hp)) ?_ ?_
   ·rintro j v ys H3 hx ⟨rfl,rfl⟩;obtain⟨s,rfl,hs⟩:=qA1 hx;have hj:=at_lt hs;have sm:=hAd hs;refine⟨Sle.set _ (Sle.refl _) (fun u z=>by cases z),_,rfl,_,rfl,_,_,rfl,rfl,rfl,_,rfl,?_⟩;have key:((!decide (V.int (Builtin.bitAnd (s:Int) ((2^i:Nat):Int))=V.int 0))=true)↔s.testBit i=true:=by
     rw[<-qE5 s i,qBn];simp
    refine qBw (fun c3=>?_) (fun c3=>?_)
    ·have b:=key.mp c3;refine⟨_,rfl,s,rfl,rr.nz s sm,l24 s sm,?_,nxt (at_lt hx) ⟨rfl,?_⟩⟩
     ·have:=hAm (fun s:Nat=>s.testBit i) (S.take j);rw[hAi]at this;rw[hA1,hA1];exact qAf (by omega)
     ·rw[qAm hs,hBc,hA3,hA3];simp[b]
    ·have b:¬s.testBit i=true:=fun z=>c3 (key.mpr z)
     refine nxt (at_lt hx) ⟨rfl,?_⟩;rw[qAm hs,hBc];simp[b]
   ·rintro ys H3 ⟨rfl,rfl⟩ l2 hl2;rw[hA1,hA6 (hA5 _)];have n3:=Ext.new hl2 (.lst (((S.filter fun s:Nat=>s.testBit i).map fun s:Nat=>2^s.log2).map iV));refine⟨l2,((S.filter fun s:Nat=>s.testBit i).map fun s:Nat=>2^s.log2).map (fun n:Nat=>(n:Int)),rfl,SqL.of (by rw[upd_same,qB4]),?_⟩;rw[qD5];refine⟨_,_,rfl,rfl,to,_,_,rfl,rfl,n3 _ _ ht,?_,?_⟩
    ·have:=hAm (fun p=>!decide (isLd S p)) (List.range i);rw[hAy]at this;rw[hA1,hA1];exact qAf (by omega)
    ·refine⟨_,_,rfl,(e.trans n3).over to0 _,?_⟩;rw[sn,if_neg nl];unfold LsN;rw[upd_same,hA3];rfl
  ·have il:isLd S i:=Classical.byContradiction fun z=>by
    rw[decide_eq_false z]at lb;refine c ?_;have:(S.map fun s:Nat=>2^s.log2).sum&&&2^i=0:=Classical.byContradiction fun y=>by
     have:=(qE5 _ i).mp y;rw[lb]at this;cases this
    show decide (V.int (Builtin.bitAnd (((S.map fun s:Nat=>2^s.log2).sum:Nat):Int) ((2^i:Nat):Int))=V.int 0)=true;rw[qBn,this];rfl
   refine⟨_,_,rfl,e,?_⟩;rw[sn,if_pos il,hBe];exact ht
 ·rintro σ H' ⟨x4,x5,rfl,e,ht⟩;rw[hB4]at ht;exact⟨_,rfl,q to _ e to0 ht⟩
theorem scTabF:FnScope ["names","masks"] ["names","masks"] (qAb sTabF):=⟨rfl,rfl,rfl,by decide +kernel,rfl,by decide +kernel,by decide +kernel⟩
theorem ok_tabF (F:Fun K "table_from" "table_from" sTabF f fd) (G1:Cl P w K mg base CX0 1 f1 fd1 ["names","mask"] qFz "row_of")
  (G2:Cl P w K mg base CX0 2 f2 fd2 ["masks"] spRedu "reduced") (mL:mg "list" = none):FnOk P w K mg base CX0 3 f fd ["names","masks"] spTabF:=by
 refine F.ok scTabF (fun vs H Q E h=>?_) (fun cdv A outer s H vs Q E hr h=>?_)
 ·obtain⟨pn,pm,names,ms,rfl,_⟩:=h;rfl
 obtain⟨pn,pm,names,ms,rfl,hn,ln,hm,lm,q⟩:=h;have hr1:=hr.mono (j:=1) (by decide);refine⟨_,pss_one (ps_ret (qCe (pa_cons (qA6 qCg rfl mL qBu (pa_cons (pv 0) pa_nil)) (pa_cons
  (qBo (N:=["names","masks"]) (sc:=qAb sTabF) (N':=["mask","names"]) (sub:=[none,some 0]) rfl rfl (CmpOk.of (by decide +kernel)) rfl (qAn (qAp G2 hr rfl .nil qAo (pa_cons (pv 1) pa_nil)))
   (fun C s H fp=>⟨qAd (i:=0) (by show(["mask","names"]:List Str).Nodup;decide) rfl (Or.inl rfl),qAy,qAp G1 hr1 rfl .nil qAo (pa_cons (pv 1) (pa_cons (pv 0) pa_nil))⟩)) pa_nil)))),?_⟩
 try dsimp only[Cx.wish,qBy]
 refine⟨_,rfl,pn,_,rfl,.inl (SqL.of hn),fun l1 hl1=>?_⟩;have n1:=Ext.new hl1 (.lst (names.map V.str));refine⟨_,rfl,pm,ms,rfl,n1 _ _ hm,lm,fun r M H1 e1 r0 hM pM dM=>?_⟩;have E1:=n1.trans e1;have lM:M.length<=24:=by rw[pM.length_eq];exact hAr (red_le ms) lm
 refine⟨r,rfl,⟨_,SqL.of hM⟩,?_⟩;refine qAs (xs:=M.map iV) (fun j ys H2=>Ext H1 H2/\∃ as,ys=as.map V.ref/\Paired (fun a r=>LsS H2 a r/\H a=none) as ((M.take j).map (rowM names))) ⟨Ext.refl _,[],rfl,.nil⟩ (fun j ys H2 _ h=>SqL.of (h.1 _ _ hM)) ?_ ?_
 ·rintro j v ys H2 hx ⟨e2,as,rfl,pr⟩;obtain⟨x,rfl,hx'⟩:=qA1 hx;have hj:=at_lt hx';have la:as.length=_:=pr.length;rw[hA1,hAi]at la;refine⟨Sle.set _ (Sle.refl _) (fun u z=>by cases z),iteT (B:=False) ⟨_,rfl,_,rfl,pn,names,x,rfl,(E1.trans e2) _ _ hn,ln,fun r3 H3 e3 r30 h3=>⟨?_,nxt (at_lt hx) ⟨e2.trans e3,as++[r3],by rw[hA3];rfl,?_⟩⟩⟩⟩
  ·rw[hA1];exact qAf (by omega)
  ·rw[qAm hx',hA3];exact Paired.snoc (Paired.mapP pr fun a t z=>⟨e3 _ _ z.1,z.2⟩) ⟨h3,(E1.trans e2).none r30⟩
 ·rintro ys H2 ⟨e2,as,rfl,pr⟩ b hb;rw[hA1,hA6 (hA5 _)]at pr;have E2:=E1.trans e2;have Xb:=Ext.new hb (.lst (as.map V.ref));refine⟨(by show 2<=sizeLine;decide),fun T hT=>?_⟩;have XT:=Xb.trans (Ext.new hT (.tup [V.ref l1,V.ref b]));refine q T M _ (E2.trans XT) ((E2.trans Xb).none hT) ⟨l1,b,upd_same,XT _ _ (e2 _ _ (e1 _ _ upd_same)),hl1,⟨as,(Ext.new hT _) _ _ upd_same,Paired.mapP pr fun a t z=>⟨XT _ _ z.1,z.2,qAe z.1 hb⟩⟩,E2.none hb⟩ pM dM
theorem scStepM:FnScope ["table","names","rows"] ["table"] (qAb qF4):=⟨rfl,rfl,rfl,by decide +kernel,rfl,by decide +kernel,by decide +kernel⟩
theorem ok_stepM (F:Fun K "step_masks" "step_masks" qF4 f fd) (G1:Cl P w K mg base CX0 1 f1 fd1 ["names","row"] spMask "mask_of")
  (G2:Cl P w K mg base CX0 2 f2 fd2 ["masks"] spRedu "reduced"):FnOk P w K mg base CX0 3 f fd ["table"] qFy:=by
 refine F.ok scStepM (fun vs H Q E h=>?_) (fun cdv A outer s H vs Q E hr h=>?_)
 ·obtain⟨T,names,rows,rfl,_⟩:=h;rfl
 obtain⟨T,names,rows,rfl,⟨a,b,hT,ha,⟨as,hb,pr⟩⟩,lr,q⟩:=h;have hr1:=hr.mono (j:=1) (by decide);refine⟨_,qAa (qEe (pv 0) (qEf rfl (qA4 (qAd (i:=1) scStepM.nd rfl (Or.inr rfl)) (qA4 (qAd (i:=2) scStepM.nd rfl (Or.inl rfl)) qCx))))
  (pss_one (ps_ret (qAp G2 hr rfl .nil qAo (pa_cons (qBo (N:=["table","names","rows"]) (sc:=qAb qF4) (N':=["row","names"]) (sub:=[none,some 1]) rfl rfl (CmpOk.of (by decide +kernel)) rfl (qAn (pv 2))
   (fun C s H fp=>⟨qAd (i:=0) (by show(["row","names"]:List Str).Nodup;decide) rfl (Or.inl rfl),qAy,qAp G1 hr1 rfl .nil qAo (pa_cons (pv 1) (pa_cons (pv 0) pa_nil))⟩)) pa_nil)))),?_⟩
 try dsimp only[Cx.wish,qBy]
 have la:as.length=rows.length:=pr.length;refine⟨_,rfl,T,_,rfl,SqT.of hT,rfl,_,_,rfl,_,_,rfl,rfl,?_⟩;refine⟨_,rfl,b,rfl,⟨_,SqL.of hb⟩,?_⟩;refine qAs (xs:=as.map V.ref) (fun j ys H2=>H2=H/\ys=((rows.take j).map (qAt names)).map iV) ⟨rfl,rfl⟩ (fun j ys H2 _ h=>by rw[h.1];exact SqL.of hb) ?_ ?_
 ·rintro j v ys H2 hx ⟨rfl,rfl⟩;obtain⟨c,rfl,hc⟩:=qF8 hx;obtain⟨rw1,hrw,hc1⟩:=qB1 pr hc;have hj:=at_lt hrw;refine⟨Sle.set _ (Sle.refl _) (fun u z=>by cases z),iteT (B:=False) ⟨_,rfl,_,rfl,a,c,names,rw1,rfl,ha,hc1,?_,nxt (at_lt hx) ⟨rfl,?_⟩⟩⟩
  ·rw[hA1,hA1,hAi];exact qAf (by omega)
  ·rw[qAm hrw,hA3,hA3];rfl
 ·rintro ys H2 ⟨rfl,rfl⟩ l hl;rw[hA1,la,hA6 (hA5 _)];have n1:=Ext.new hl (.lst ((rows.map (qAt names)).map iV));refine⟨l,_,rfl,upd_same,by rw[hA1];exact lr,fun r M H1 e1 r0 hM pM dM=>?_⟩;exact q r M H1 (n1.trans e1) (n1.none r0) hM pM dM
theorem scCross:FnScope ["table","names"] ["table"] (qAb qG4):=⟨rfl,rfl,rfl,by decide +kernel,rfl,by decide +kernel,by decide +kernel⟩
theorem ok_cross (F:Fun K "crossed" "crossed" qG4 f fd) (G1:Cl P w K mg base CX0 3 f1 fd1 ["names","masks"] spTabF "table_from")
  (G2:Cl P w K mg base CX0 2 f2 fd2 ["steps","width"] spCrM "crossed_masks")
  (G3:Cl P w K mg base CX0 3 f3 fd3 ["table"] qFy "step_masks") (ml:mg "len" = none):FnOk P w K mg base CX0 4 f fd ["table"] spCross:=by
 refine F.ok scCross (fun vs H Q E h=>?_) (fun cdv A outer s H vs Q E hr h=>?_)
 ·obtain⟨T,names,rows,rfl,_⟩:=h;rfl
 obtain⟨T,names,rows,rfl,ht,ln,lr,q⟩:=h;have hr2:=hr.mono (j:=2) (by decide);refine⟨_,qAa (qAg (i:=1) scCross.nd rfl (Or.inl rfl) (qBv qGl (pv 0) qAc (fun _ _=>rfl)))
  (pss_one (ps_ret (qAp G1 hr rfl .nil qAo (pa_cons (pv 1) (pa_cons (qAp G2 hr2 rfl .nil qAo (pa_cons (qAp G3 hr rfl .nil qAo (pa_cons (pv 0) pa_nil)) (pa_cons (qAj qAi rfl ml hAw (pa_cons (pv 1) pa_nil)) pa_nil))) pa_nil))))),?_⟩
 try dsimp only[Cx.wish,qBy]
 obtain⟨a,b,hT,ha,hb⟩:=id ht;refine⟨_,rfl,T,_,_,_,rfl,rfl,SqT.of hT,(by exact qB5 (j:=0) rfl),?_⟩;refine⟨_,rfl,_,rfl,T,names,rows,rfl,ht,lr,fun r S H1 e1 r0 hS pS dS=>?_⟩;have rrS:RR S:=(qC1 _).perm pS;have ltS:∀ s∈S,s<2^names.length:=fun s hs=>qF9 (fun x hx=>by
  obtain⟨rw1,_,rfl⟩:=hA9.mp hx;exact qEi names rw1) s (pS.mem_iff.mp hs)
 have lS:S.length<=24:=by
  have:=red_le (rows.map (qAt names));rw[hA1]at this;rw[pS.length_eq];omega
 refine⟨_,rfl,a,_,rfl,.inl (SqL.of (e1 _ _ ha)),r,S,names.length,(by rw[hA1];rfl),hS,rrS,ltS,ln,lS,fun r2 H2 e2 r20 h2=>?_⟩;have lc:(crAll S names.length).length<=24:=by
  unfold crAll;rw[hA1];have:=hAm (fun p=>!decide (isLd S p)) (List.range names.length);rw[hAy]at this;omega
 have E2:=e1.trans e2;refine⟨a,r2,names,_,rfl,E2 _ _ ha,ln,h2,lc,fun T' M H3 e3 t0 tf pM dM=>?_⟩;exact q T' S M H3 (E2.trans e3) (E2.none t0) (tf.down E2) pS pM dM
end
end My
namespace My
open PySem L2
noncomputable def ixF (ps:List Str) (x:Str):Nat:=ps.findIdx fun y=>decide (y=x)
theorem ixF_at {ps:List Str} {x:Str} (h:x∈ps):ps[ixF ps x]?=some x/\(∀ k,k<ixF ps x->ps[k]?≠some x)/\ixF ps x<ps.length:=by
 have lt:ixF ps x<ps.length:=List.findIdx_lt_length_of_exists ⟨x,h,by simp⟩;have at_:ps[ixF ps x]=x:=by
  have:=List.findIdx_getElem (w:=lt);exact of_decide_eq_true this
 refine⟨by rw[hA2 lt,at_],fun k hk e=>?_,lt⟩;have:=List.not_of_lt_findIdx hk;have kl:k<ps.length:=Nat.lt_trans hk lt;rw[hA2 kl]at e;have e':=hAu e;simp[e']at this
noncomputable def vT (ps:List Str) (t:Tr):Nat:=2^ixF ps t.2.1^^^2^ixF ps t.2.2
noncomputable def vF (net:List Tr) (ps:List Str) (i:Nat):Nat:=match net[i]? with | some t=>vT ps t | none=>0
end My
namespace My
open PySem L2
theorem redL1_snoc (k:List Nat) (s x:Nat):redL1 (k++[s]) x=rdL (redL1 k x) s:=by unfold redL1;rw[hBz];rfl
theorem redL_le (xs:List Nat):(redL xs).length<=xs.length:=by
 refine qEw (P:=fun xs=>(redL xs).length<=xs.length) (hA5 _) (fun l t ih=>?_) xs;rw[qGa,hA7];unfold redLS;split
 ·exact hAr ih (Nat.le_add_right _ _)
 ·rw[hA7,hA1];exact Nat.add_le_add_right ih _
def qGu (H:Hp) (p:Addr) (K:List (Nat×Nat)):Prop:=∃ as:List Addr,H p=some (.lst (as.map V.ref))/\Paired (fun a f=>H a=some (.tup [iV f.1,iV f.2])) as K
noncomputable def rowL (names:List Str) (x:Nat):List Str:=(List.range names.length).filterMap fun i=>if x.testBit i=true then names[i]? else none
def spLRow:Sp:=fun vs H Q _=>∃ (pn:Addr) (names:List Str) (x:Nat),vs=[.ref pn,iV x]/\LsS H pn names/\names.length<=12/\∀ r H',Ext H H'->H r=none->LsS H' r (rowL names x)->Q (.ref r) H'
end My
namespace My
open PySem L2
end My
namespace My
open PySem L2
noncomputable abbrev nmS (net:List Tr):List Str:=net.map fun t=>t.1
theorem fm_congr {α β:Type} {f g:α->Option β}:∀ {l:List α},(∀ i∈l,f i=g i)->l.filterMap f=l.filterMap g
 | [],_=>rfl
 | a :: l,h=>by rw[hCq,hCq,h a hAe,fm_congr fun i hi=>h i (hAc _ hi)]
noncomputable def atX (x:Str) (t:Tr):Bool:=decide (t.2.1=x) ^^ decide (t.2.2=x)
theorem spn_rv {m:Nat} {F:List Nat} (hF:∀ x∈F,x<2^m) (z:Nat):Spn (F.map (rv m)) z↔z<2^m/\Spn F (rv m z):=by
 constructor
 ·intro h;refine⟨Spn.lt (fun x hx=>?_) h,?_⟩
  ·obtain⟨y,_,rfl⟩:=hA9.mp hx;exact qGx m y
  ·induction h with
   | zero=>rw[qDx];exact .zero
   | add hm _ ih =>
    obtain⟨y,hy,rfl⟩:=hA9.mp hm;rw[rv_xor,qCj (hF y hy)];exact .add hy ih
 ·rintro⟨hz,h⟩;rw[<-qCj hz];generalize rv m z=y at h
  induction h with
  | zero=>rw[qDx];exact .zero
  | add hm _ ih=>rw[rv_xor];exact .add (hE1 hm) ih
theorem qC8 {names:List Str} (x:Nat):rowM names (rv names.length x)=rowL names x:=by
 unfold rowM rowL;have:∀ i∈List.range names.length,(if (rv names.length x).testBit (names.length - 1 - i)=true then names[i]? else none)=(if x.testBit i=true then names[i]? else none):=fun i hi=>by
  have hi':=hAt.mp hi;rw[qBj,decide_eq_true (by omega),hBm,show names.length - 1 - (names.length - 1 - i)=i by omega]
 exact fm_congr this
structure Made (net:List Tr) (ps ps':List Str) (S M:List Nat) (K:List (Nat×Nat)) (F:List Nat):Prop where
 rs:Rise (nmS net)
 pk:PtsOk net ps
 pk':PtsOk net ps'
 pS:S.Perm (red (ps.map fun x=>qAt (nmS net) (metF net x)))
 pM:M.Perm (red (crAll S net.length))
 dM:M.Pairwise fun a b=>b<=a
 ei:EIv (vF net ps') net.length net.length K F
 kw:K.length=(woodF net).length
theorem qEa {l:List Str} (h:Rise l):l.Nodup:=List.Pairwise.imp (fun {a b} z e=>by rw[e,sLtB_irr]at z;cases z) h
end My
namespace My
open PySem L2
theorem filt_t {α:Type} {p:α->Bool} {l:List α} {i:Nat} {t:α} (h:l[i]?=some t) (c:p t=true):(l.take (i+1)).filter p=(l.take i).filter p++[t]:=by rw[qAm h,hBc];simp[c]
theorem filt_f {α:Type} {p:α->Bool} {l:List α} {i:Nat} {t:α} (h:l[i]?=some t) (c:p t=false):(l.take (i+1)).filter p=(l.take i).filter p:=by rw[qAm h,hBc];simp[c]
theorem eqv_rows':∀ a b:List (List Str),PyData.eqvAll (a.map qGv) (b.map qGv)=decide (a=b)
 | [],[]=>rfl
 | [],_ :: _=>rfl
 | _ :: _,[]=>rfl
 | x :: a,y :: b=>by
  show(PyData.eqv (qGv x) (qGv y) && PyData.eqvAll (a.map qGv) (b.map qGv))=_;rw[eqv_rows' a b,eqv_row];by_cases e:x=y
  ·subst e;simp
  ·simp[e]
theorem eqv_rows (a b:List (List Str)):PyData.eqv (rowsD a) (rowsD b)=decide (a=b):=eqv_rows' a b
theorem lay_rows:∀ {F:List (List Str)},(∀ r∈F,SOk r)->PyData.canLayAll0 (F.map qGv)=true/\PyData.depthAll (F.map qGv)<=1
 | [],_=>⟨rfl,by decide⟩
 | x :: r,h=>by
  obtain⟨h1,h2⟩:=lay_rows (F:=r) fun y hy=>h y (hAc _ hy)
  obtain⟨h3,h4⟩:=lay_strs (h x hAe);refine⟨?_,?_⟩
  ·show(PyData.canLayAll0 (x.map .str) && PyData.canLayAll0 (r.map qGv))=true;rw[h1,h3];rfl
  ·show max (PyData.depthAll (x.map .str)+1) (PyData.depthAll (r.map qGv))<=1;rw[h4];omega
theorem qF2 {F:List (List Str)} (h:∀ r∈F,SOk r):SeqAt.shaped (rowsD F)=true:=by
 obtain⟨h3,h4⟩:=lay_rows h;show(PyData.canLayAll0 (F.map qGv) && decide (PyData.depthAll (F.map qGv)+1<=64))=true;rw[h3,decide_eq_true (by omega)];rfl
theorem dr_rows' {K:PySem.W.Frag} {H:Hp}:∀ {as:List Addr} {F:List (List Str)},Paired (LsS H) as F->DRs K H (as.map V.ref) (F.map qGv)
 | _,_,.nil=>.nil
 | _,_,.cons h t=>.cons (dr_row h) (dr_rows' t)
theorem dr_rows {K:PySem.W.Frag} {H:Hp} {p:Addr} {F:List (List Str)} (h:qC4 H p F):DR K H (.ref p) (rowsD F):=by
 obtain⟨as,h1,h2⟩:=h;exact .lst (SqL.of h1) (dr_rows' h2)
noncomputable def tabD (names:List Str) (rows:List (List Str)):PyData:=.tuple [qGv names,rowsD rows]
theorem eqv_tab (names:List Str) (rows:List (List Str)):PyData.eqv (tabD names rows) (tabD names rows)=true:=by
 show(PyData.eqv (qGv names) (qGv names) && (PyData.eqv (rowsD rows) (rowsD rows) && true))=true;rw[eqv_row,eqv_rows,decide_eq_true rfl,decide_eq_true rfl];rfl
theorem qG0 {names:List Str} {rows:List (List Str)} (h1:SOk names) (h2:∀ r∈rows,SOk r):SeqAt.shaped (tabD names rows)=true:=by
 obtain⟨a1,a2⟩:=lay_strs h1;obtain⟨b1,b2⟩:=lay_rows h2;show((PyData.canLayAll0 (names.map .str) && (PyData.canLayAll0 (rows.map qGv) && true)) && decide (max (PyData.depthAll (names.map .str)+1) (max (PyData.depthAll (rows.map qGv)+1) 0)+1<=64))=true;rw[a1,b1,a2,decide_eq_true (by omega)];rfl
theorem dr_tab {K:PySem.W.Frag} {H:Hp} {T:Addr} {names:List Str} {rows:List (List Str)} (h:qC5 H T names rows):DR K H (.ref T) (tabD names rows):=by
 obtain⟨a,b,h1,h2,h3⟩:=h;exact .tup (SqT.of h1) (.cons (dr_row h2) (.cons (dr_rows h3) .nil))
end My
namespace My
open PySem L2
theorem qFr {names:List Str} {z:Nat} {n:Str}:n∈rowM names z↔∃ i,i<names.length/\names[i]?=some n/\z.testBit (names.length - 1 - i)=true:=by
 unfold rowM;rw[hCw];constructor
 ·rintro⟨i,hi,e⟩;split at e
  ·rename_i b;exact⟨i,hAt.mp hi,e,b⟩
  ·cases e
 ·rintro⟨i,hi,e,b⟩;exact⟨i,hAt.mpr hi,by rw[if_pos b];exact e⟩
theorem rowM_sub {names:List Str} {z:Nat} {n:Str} (h:n∈rowM names z):n∈names:=by
 obtain⟨i,_,e,_⟩:=qFr.mp h;exact hAd e
theorem qGo {names:List Str} (nd:names.Nodup) {i j:Nat} {n:Str} (hi:names[i]?=some n) (hj:names[j]?=some n):i=j :=
 (List.getElem?_inj (hAv.mp hi).1 nd).mp (hi.trans hj.symm)
noncomputable abbrev chi (names:List Str) (z:Nat):Str->Bool:=fun n=>decide (n∈rowM names z)
theorem qHh {names:List Str} (nd:names.Nodup) {z i:Nat} {n:Str} (hi:names[i]?=some n):chi names z n=z.testBit (names.length - 1 - i):=by
 have il:=(hAv.mp hi).1;cases q:z.testBit (names.length - 1 - i) with
 | true=>exact decide_eq_true (qFr.mpr ⟨i,il,hi,q⟩)
 | false =>
  refine decide_eq_false fun m=>?_
  obtain⟨j,_,ej,bj⟩:=qFr.mp m;rw[qGo nd ej hi,q]at bj;cases bj
theorem qDd {names:List Str} (nd:names.Nodup) {z:Nat} (hz:z<2^names.length):qAt names (rowM names z)=z:=by
 refine hAn fun j=>?_
 rw[qA0];by_cases hj:j<names.length
 ·rw[decide_eq_true hj,hBm];have hi:names.length - 1 - j<names.length:=by omega
  have e:=hA2 hi;have c:=qHh nd (z:=z) e;rw[show names.length - 1 - (names.length - 1 - j)=j by omega]at c;rw[<-c];refine decide_eq_decide.mpr ⟨fun ⟨n,h1,h2⟩=>?_,fun h=>⟨_,e,h⟩⟩;rw[e]at h1;cases h1;exact h2
 ·rw[decide_eq_false hj,qCt hz (by omega)];rfl
theorem chi_mask {names:List Str} (nd:names.Nodup) (r:List Str) {n:Str} (hn:n∈names):chi names (qAt names r) n=decide (n∈r):=by
 obtain⟨i,hi,e⟩:=hBy hn;have e':names[i]?=some n:=by rw[hA2 hi,e]
 rw[qHh nd e',qA0,decide_eq_true (by omega:names.length - 1 - i<names.length),hBm,show names.length - 1 - (names.length - 1 - i)=i by omega];refine decide_eq_decide.mpr ⟨fun ⟨m,h1,h2⟩=>?_,fun h=>⟨n,e',h⟩⟩;rw[e']at h1;cases h1;exact h2
theorem chi_xor {names:List Str} (nd:names.Nodup) (z z':Nat) {n:Str} (hn:n∈names):chi names (z^^^z') n=(chi names z n ^^ chi names z' n):=by
 obtain⟨i,hi,e⟩:=hBy hn;have e':names[i]?=some n:=by rw[hA2 hi,e]
 rw[qHh nd e',qHh nd e',qHh nd e',hB2]
theorem mask_ext {names:List Str} {r r':List Str} (h:∀ n∈names,(n∈r↔n∈r')):qAt names r=qAt names r':=by
 refine hAn fun j=>?_
 rw[qA0,qA0];congr 1;refine decide_eq_decide.mpr ⟨fun ⟨n,h1,h2⟩=>⟨n,h1,(h n (hAd h1)).mp h2⟩,fun ⟨n,h1,h2⟩=>⟨n,h1,(h n (hAd h1)).mpr h2⟩⟩
theorem mask_xor {names rest:List Str} (nd:names.Nodup) (sub:∀ n∈rest,n∈names) (z z':Nat):qAt rest (rowM names (z^^^z'))=qAt rest (rowM names z)^^^qAt rest (rowM names z'):=by
 refine hAn fun j=>?_
 rw[hB2,qA0,qA0,qA0];by_cases hj:j<rest.length
 ·rw[decide_eq_true hj,hBm,hBm,hBm];have hi:rest.length - 1 - j<rest.length:=by omega
  have e:=hA2 hi;have f:∀ w,decide (∃ n,rest[rest.length - 1 - j]?=some n/\n∈rowM names w)=chi names w rest[rest.length - 1 - j]:=fun w=>decide_eq_decide.mpr ⟨fun ⟨n,h1,h2⟩=>by rw[e]at h1;cases h1;exact h2,fun h=>⟨_,e,h⟩⟩
  rw[f,f,f];exact chi_xor nd z z' (sub _ (hBp hi))
 ·rw[decide_eq_false hj];rfl
theorem row_zero (names:List Str):rowM names 0=[]:=by
 cases q:rowM names 0 with
 | nil=>rfl
 | cons n r =>
  have:n∈rowM names 0:=by rw[q];exact hAe
  obtain⟨i,_,_,b⟩:=qFr.mp this;simp at b
theorem mask_nil (names:List Str):qAt names []=0:=by
 refine hAn fun j=>?_
 rw[qA0];simp
structure Tb (net:List Tr) (ps:List Str) (S M:List Nat):Prop where
 rs:Rise (nmS net)
 pk:PtsOk net ps
 pS:S.Perm (red (ps.map fun x=>qAt (nmS net) (metF net x)))
 pM:M.Perm (red (crAll S net.length))
 dM:M.Pairwise fun a b=>b<=a
noncomputable def lackF (ms:List Nat) (q:Nat):List Nat:=(ms.filter fun z=>!z.testBit q)++((ms.filter fun z=>z.testBit q).drop 1).map fun z=>z^^^(ms.filter fun z=>z.testBit q).headD 0
theorem lack_spn (ms:List Nat) (q:Nat) (z:Nat):Spn (lackF ms q) z↔Spn ms z/\z.testBit q=false:=by
 have hmem:∀ y∈ms.filter (fun z=>z.testBit q),y∈ms/\y.testBit q=true:=fun y hy=>⟨(hAf.mp hy).1,(hAf.mp hy).2⟩
 have bitF:∀ y∈lackF ms q,y.testBit q=false:=fun y hy=>by
  unfold lackF at hy;rcases hAb.mp hy with w | w
  ·simpa using (hAf.mp w).2
  ·obtain⟨u,hu,rfl⟩:=hA9.mp w;have h1:=(hmem u (hCl hu)).2;have h2:((ms.filter fun z=>z.testBit q).headD 0).testBit q=true:=by
    cases e:ms.filter (fun z=>z.testBit q) with
    | nil=>rw[e]at hu;simp at hu
    | cons a l=>exact(hmem a (by rw[e];exact hAe)).2
   rw[hB2,h1,h2];rfl
 constructor
 ·intro h;refine⟨h.mono fun y hy=>?_,spn_bit bitF h⟩;unfold lackF at hy;rcases hAb.mp hy with w | w
  ·exact .mem (hAf.mp w).1
  ·obtain⟨u,hu,rfl⟩:=hA9.mp w;have h1:=(hmem u (hCl hu)).1;cases e:ms.filter (fun z=>z.testBit q) with
   | nil=>rw[e]at hu;simp at hu
   | cons a l=>exact(Spn.mem h1).xor (.mem (hmem a (by rw[e];exact hAe)).1)
 ·rintro⟨h,hb⟩;have key:Spn (lackF ms q) z\/(Spn (lackF ms q) (z^^^(ms.filter fun z=>z.testBit q).headD 0)/\((ms.filter fun z=>z.testBit q).headD 0).testBit q=true):=by
   clear hb
   induction h with
   | zero=>exact .inl .zero
   | add m _ ih =>
    rename_i x y _;by_cases b:x.testBit q=true
    ·have xm:x∈ms.filter (fun z=>z.testBit q):=hAf.mpr ⟨m,b⟩;have hh:((ms.filter fun z=>z.testBit q).headD 0).testBit q=true:=by
      cases e:ms.filter (fun z=>z.testBit q) with
      | nil=>rw[e]at xm;cases xm
      | cons a l=>exact(hmem a (by rw[e];exact hAe)).2
     have xh:Spn (lackF ms q) (x^^^(ms.filter fun z=>z.testBit q).headD 0):=by
      cases e:ms.filter (fun z=>z.testBit q) with
      | nil=>rw[e]at xm;cases xm
      | cons a l =>
       rw[e]at xm;rcases hAh.mp xm with w | w
       ·subst w;show Spn _ (x^^^x);rw[hE3];exact .zero
       ·refine .mem ?_;unfold lackF;rw[e];exact hA8 _ (hA9.mpr ⟨x,w,rfl⟩)
     rcases ih with ih | ⟨ih,_⟩
     ·refine .inr ⟨?_,hh⟩;have:=xh.xor ih;rw[hD0,Nat.xor_comm _ y,<-hD0]at this;exact this
     ·refine .inl ?_;have:=xh.xor ih;rw[Nat.xor_comm y,<-hD0,qBc]at this;exact this
    ·have xm:x∈lackF ms q:=by
      unfold lackF;exact hAg _ (hAf.mpr ⟨m,by simpa using b⟩)
     rcases ih with ih | ⟨ih,hh⟩
     ·exact .inl (.add xm ih)
     ·refine .inr ⟨?_,hh⟩;rw[hD0];exact .add xm ih
  rcases key with k | ⟨k,hh⟩
  ·exact k
  ·have:=spn_bit bitF k;rw[hB2,hb,hh]at this;cases this
end My
namespace My
open PySem L2
theorem mask_one {names:List Str} (nd:names.Nodup) {i:Nat} {n:Str} (hi:names[i]?=some n):qAt names [n]=2^(names.length - 1 - i):=by
 have il:=(hAv.mp hi).1;refine hAn fun j=>?_
 rw[qA0,hB7];by_cases hj:j<names.length
 ·rw[decide_eq_true hj,hBm];refine decide_eq_decide.mpr ⟨fun ⟨m,h1,h2⟩=>?_,fun e=>⟨n,?_,by simp⟩⟩
  ·rw[hA4]at h2;rw[h2]at h1;have:=qGo nd hi h1;omega
  ·rw[<-e,show names.length - 1 - (names.length - 1 - i)=i by omega];exact hi
 ·rw[decide_eq_false hj,decide_eq_false (fun e:names.length - 1 - i=j=>hj (by omega))];rfl
noncomputable def qEn (names:List Str) (S:List Nat) (taken:List Str):List Nat:=taken.foldl (fun ms n=>lackF ms (qAt names [n]).log2) S
theorem qE3 (names:List Str) (S:List Nat) (taken:List Str) (n:Str):qEn names S (taken++[n])=lackF (qEn names S taken) (qAt names [n]).log2:=by unfold qEn;rw[hBz];rfl
theorem one_log {names:List Str} (nd:names.Nodup) {i:Nat} {n:Str} (hi:names[i]?=some n):(qAt names [n]).log2=names.length - 1 - i:=by
 rw[mask_one nd hi];refine log2_of ?_ (hD7 (by decide) (by omega));rw[hB7];simp
theorem lackA_spn {names:List Str} (nd:names.Nodup) (S:List Nat) (taken:List Str):(∀ n∈taken,n∈names)->∀ z,Spn (qEn names S taken) z↔Spn S z/\∀ n∈taken,chi names z n=false:=by
 refine qCv (P:=fun taken=>(∀ n∈taken,n∈names)->∀ z,Spn (qEn names S taken) z↔Spn S z/\∀ n∈taken,chi names z n=false) (fun _ z=>⟨fun h=>⟨h,fun n hn=>(by cases hn)⟩,fun h=>h.1⟩) (fun l n ih h z=>?_) taken;have ih':=ih (fun m hm=>h m (hAg _ hm)) z;obtain⟨i,hi,e⟩:=hBy (h n (by simp));have e':names[i]?=some n:=by rw[hA2 hi,e]
 rw[qE3,lack_spn,ih',one_log nd e',<-qHh nd e',and_assoc];refine and_congr_right fun _=>⟨fun ⟨a,b⟩ m hm=>?_,fun a=>⟨fun m hm=>a m (hAg _ hm),a n (by simp)⟩⟩
 rcases hAb.mp hm with w | w
 ·exact a m w
 ·rw[hA4]at w;rw[w];exact b
noncomputable abbrev piM (names rest:List Str) (z:Nat):Nat:=qAt rest (rowM names z)
theorem pi_spn {names rest:List Str} (nd:names.Nodup) (sub:∀ n∈rest,n∈names) (P:List Nat) (y:Nat):Spn (P.map (piM names rest)) y↔∃ z,Spn P z/\y=piM names rest z:=by
 constructor
 ·intro h
  induction h with
  | zero=>exact⟨0,.zero,by show 0=qAt rest (rowM names 0);rw[row_zero,mask_nil]⟩
  | add m _ ih =>
   obtain⟨u,hu,rfl⟩:=hA9.mp m;obtain⟨z,hz,rfl⟩:=ih;exact⟨u^^^z,.add hu hz,(mask_xor nd sub u z).symm⟩
 ·rintro⟨z,hz,rfl⟩
  induction hz with
  | zero=>show Spn _ (qAt rest (rowM names 0));rw[row_zero,mask_nil];exact .zero
  | add m _ ih =>
   rename_i u v _;show Spn _ (qAt rest (rowM names (u^^^v)));rw[mask_xor nd sub];exact .add (hE1 m) ih
noncomputable def kap (p:Tr) (e:Str):Str:=if e=p.2.2 then p.2.1 else e
structure CnR (p t t':Tr):Prop where
 nm:t'.1=t.1
 at_:∀ x,atX x t'=(decide (kap p t.2.1=x) ^^ decide (kap p t.2.2=x))
end My
namespace My
open PySem L2
theorem qA3 {n:Nat} (h:n<=5000):n<sizeLine:=hCy h (by decide)
theorem cut_tail (xs:List V):cutV xs (some 1) none=xs.drop 1:=by
 cases xs with
 | nil=>rfl
 | cons a r=>cases r <;> simp[cutV,HT.sIx]
def spLack:Sp:=fun vs H Q _=>∃ (p:Addr) (ms:List Nat) (q:Nat),vs=[.ref p,iV (2^q)]/\LsN H p ms/\ms.length<=24/\∀ r H',Ext H H'->H r=none->LsN H' r (lackF ms q)->Q (.ref r) H'
theorem lackF_len (ms:List Nat) (q:Nat):(lackF ms q).length<=ms.length:=by
 unfold lackF;rw[hA7,hA1,hCa];have:(ms.filter fun z=>!z.testBit q).length+(ms.filter fun z=>z.testBit q).length=ms.length:=by
  induction ms with
  | nil=>rfl
  | cons a l ih =>
   rw[List.filter_cons,List.filter_cons];cases a.testBit q <;> simp <;> omega
 omega
theorem lackA_len (names:List Str) (S:List Nat) (taken:List Str):(qEn names S taken).length<=S.length:=by
 refine qCv (P:=fun taken=>(qEn names S taken).length<=S.length) (hA5 _) (fun l n ih=>?_) taken;rw[qE3];exact hAr (lackF_len _ _) ih
noncomputable def restF (names gone:List Str):List Str:=names.filter fun n=>!decide (n∈gone)
def spLeft:Sp:=fun vs H Q _=>∃ (T pt ph:Addr) (names:List Str) (rows:List (List Str)) (taken shr:List Str),vs=[.ref T,.ref pt,.ref ph]/\qC5 H T names rows/\LsS H pt taken/\LsS H ph shr/\names.Nodup/\(∀ n∈taken,n∈names)/\(∀ n∈shr,n∈names)/\names.length<=12/\rows.length<=24/\taken.length<=12/\shr.length<=12 /\
 ∀ (T':Addr) (S M:List Nat) (H':Hp),Ext H H'->H T'=none->TabF H H' T' (restF names (taken++shr)) (M.map (rowM (restF names (taken++shr))))->S.Perm (red (rows.map (qAt names)))->M.Perm (red ((qEn names S taken).map (piM names (restF names (taken++shr)))))->M.Pairwise (fun a b=>b<=a)->Q (.ref T') H'
section
variable {P:Program} {w:World} {K:PySem.W.Frag} {mg:Str->Option Value} {base:Heap} {f f1 f2 f3 f4 f5:Addr} {fd fd1 fd2 fd3 fd4 fd5:FuncData}
noncomputable abbrev lkN:List Str:=["masks","bit","having","without"]
theorem scLack:FnScope lkN ["masks","bit"] (qAb sLack):=⟨rfl,rfl,rfl,by decide +kernel,rfl,by decide +kernel,by decide +kernel⟩
theorem qBs {ms:List Nat} {Q:List V->Hp->Prop} {H1:Hp} {σ0:St} {g:TG} {tt:TT} {te:TE} {p:Addr} (pr:Nat->Bool) (h:Nat->Nat) (hp:LsN H1 p ms) (ln:ms.length<=5000)
  (hs:∀ z∈ms,∀ (C:V->Hp->Prop) (B:Hp->Prop),(pr z=true->C (iV (h z)) H1)->(pr z=false->B H1)->g (iV z) σ0 H1 fun σ2 H2=>Sle σ0 σ2/\tt σ2 H2 fun b H3=>if b=true then te σ2 H3 C else B H3)
  (hd:Q (((ms.filter pr).map h).map iV) H1):qFd (Itl K p) σ0 g tt te Q H1:=by
 refine qAs (xs:=ms.map iV) (fun j ys H2=>H2=H1/\ys=(((ms.take j).filter pr).map h).map iV) ⟨rfl,rfl⟩ (fun j ys H2 _ h=>by rw[h.1];exact SqL.of hp) ?_ ?_
 ·rintro j x ys H2 hx ⟨rfl,rfl⟩;obtain⟨z,rfl,hz⟩:=qA1 hx;have hj:=at_lt hz;have sz:=hAm pr (ms.take j);rw[hAi]at sz;refine hs z (hAd hz) _ _ (fun b=>⟨?_,nxt (at_lt hx) ⟨rfl,?_⟩⟩) (fun b=>nxt (at_lt hx) ⟨rfl,?_⟩)
  ·rw[hA1,hA1];exact qA3 (by omega)
  ·rw[qAm hz,hBc,hA3,hA3];simp[b]
  ·rw[qAm hz,hBc];simp[b]
 ·rintro ys H2 ⟨rfl,rfl⟩;rw[hA1,hA6 (hA5 _)];exact hd
theorem and_test (z q:Nat):((!decide (V.int (Builtin.bitAnd (z:Int) ((2^q:Nat):Int))=V.int 0))=true)↔z.testBit q=true:=by
 rw[<-qE5 z q,qBn];simp
theorem ok_lack (F:Fun K "lacking" "lacking" sLack f fd):FnOk P w K mg base CX0 1 f fd ["masks","bit"] spLack:=by
 refine F.ok scLack (fun vs H Q E h=>?_) (fun cdv A outer s H vs Q E hr h=>?_)
 ·obtain⟨p,ms,q,rfl,_⟩:=h;rfl
 obtain⟨p,ms,q,rfl,hp,lm,qq⟩:=h;refine⟨_,qAa (qAg (i:=2) scLack.nd rfl (Or.inr rfl) (qBo (N:=lkN) (sc:=qAb sLack) (N':=["mask","bit"]) (sub:=[none,some 1]) rfl rfl (CmpOk.of (by decide +kernel)) rfl (qAn (pv 0))
   (fun C s H fp=>⟨qAd (i:=0) (by show(["mask","bit"]:List Str).Nodup;decide) rfl (Or.inl rfl),qBh (qAk qDz (qAh qBg (pv 0) (pv 1)) qAc (qAq _)),pv 0⟩)))
  (qAa (qFi (i:=3) (N:=lkN) (sc:=qAb sLack) (N':=["mask","bit"]) (sub:=[none,some 1]) rfl rfl (CmpOk.of (by decide +kernel)) rfl (qAn (pv 0))
   (fun C s H fp=>⟨qAd (i:=0) (by show(["mask","bit"]:List Str).Nodup;decide) rfl (Or.inl rfl),qBh (qAk qBl (qAh qBg (pv 0) (pv 1)) qAc (qAq _)),pv 0⟩) scLack.nd rfl (Or.inl rfl))
  (pss_one (ps_ret (qAh qCf (pv 3) (qBo (N:=lkN) (sc:=qAb sLack) (N':=["mask","having"]) (sub:=[none,some 2]) rfl rfl (CmpOk.of (by decide +kernel)) rfl (qAn (qEg sl_list (pv 2) (qGc qAc) qGd))
   (fun C s H fp=>⟨qAd (i:=0) (by show(["mask","having"]:List Str).Nodup;decide) rfl (Or.inl rfl),qAy,qAh qC2 (pv 0) (qBv (show IxR _ (rIxL K) from qBe) (pv 1) qAc (fun _ _=>rfl))⟩)))))),?_⟩
 try dsimp only[Cx.wish,qBy]
 refine⟨_,rfl,p,rfl,⟨_,SqL.of hp⟩,?_⟩;refine qBs (fun z=>z.testBit q) id hp (by omega) (fun z hz C B c b=>⟨Sle.set _ (Sle.refl _) (fun u z=>by cases z),?_⟩) ?_
 ·refine⟨_,rfl,_,rfl,_,_,rfl,rfl,rfl,_,rfl,?_⟩;refine qBw (fun cc=>⟨_,rfl,c ((and_test z q).mp cc)⟩) (fun cc=>b ?_);cases e:z.testBit q with
  | false=>rfl
  | true=>exact absurd ((and_test z q).mpr e) cc
 intro l1 hl1;rw[hDk];have n1:=Ext.new hl1 (.lst ((ms.filter fun z=>z.testBit q).map iV));refine⟨_,rfl,p,rfl,⟨_,SqL.of (n1 _ _ hp)⟩,?_⟩;refine qBs (fun z=>!z.testBit q) id (n1 _ _ hp) (by omega) (fun z hz C B c b=>⟨Sle.set _ (Sle.refl _) (fun u z=>by cases z),?_⟩) ?_
 ·refine⟨_,rfl,_,rfl,_,_,rfl,rfl,rfl,_,rfl,?_⟩;have key:(decide (V.int (Builtin.bitAnd (z:Int) ((2^q:Nat):Int))=V.int 0)=true)↔z.testBit q=false:=by
   have:=and_test z q;cases e:z.testBit q with
   | true=>rw[e]at this;have:=this.mpr rfl;simp at this ⊢;exact this
   | false =>
    rw[e]at this;refine⟨fun _=>rfl,fun _=>?_⟩;cases d:decide (V.int (Builtin.bitAnd (z:Int) ((2^q:Nat):Int))=V.int 0) with
    | true=>rfl
    | false=>rw[d]at this;exact absurd (this.mp rfl) (by decide)
  refine qBw (fun cc=>⟨_,rfl,c (by rw[key.mp cc];rfl)⟩) (fun cc=>b ?_);cases e:z.testBit q with
  | true=>rfl
  | false=>exact absurd (key.mpr e) cc
 intro l2 hl2;rw[hDk];have n2:=n1.trans (Ext.new hl2 (.lst ((ms.filter fun z=>!z.testBit q).map iV)));have h1:LsN (upd (upd H l1 (.lst ((ms.filter fun z=>z.testBit q).map iV))) l2 (.lst ((ms.filter fun z=>!z.testBit q).map iV))) l1 (ms.filter fun z=>z.testBit q):=(Ext.new hl2 _) _ _ upd_same;have h2:LsN (upd (upd H l1 (.lst ((ms.filter fun z=>z.testBit q).map iV))) l2 (.lst ((ms.filter fun z=>!z.testBit q).map iV))) l2 (ms.filter fun z=>!z.testBit q):=upd_same;revert n2 h1 h2;generalize upd (upd H l1 (.lst ((ms.filter fun z=>z.testBit q).map iV))) l2 (.lst ((ms.filter fun z=>!z.testBit q).map iV))=H2;intro n2 h1 h2;have lh:=hAm (fun z:Nat=>z.testBit q) ms;refine⟨_,rfl,_,rfl,_,rfl,l1,_,rfl,SqL.of h1,fun l3 hl3=>?_⟩;rw[cut_tail,<-List.map_drop];have n3:=Ext.new hl3 (.lst (((ms.filter fun z=>z.testBit q).drop 1).map iV));refine⟨l3,rfl,⟨_,SqL.of upd_same⟩,?_⟩;refine qBs (ms:=(ms.filter fun z=>z.testBit q).drop 1) (fun _=>true) (fun z=>z^^^(ms.filter fun z=>z.testBit q).headD 0) upd_same (by rw[hCa];omega) (fun z hz C B c b=>⟨Sle.set _ (Sle.refl _) (fun u z=>by cases z),?_⟩) ?_
 ·have hd:atI ((ms.filter fun z=>z.testBit q).map iV) 0=some (iV ((ms.filter fun z=>z.testBit q).headD 0)):=by
   cases e:ms.filter (fun z=>z.testBit q) with
   | nil=>rw[e]at hz;simp at hz
   | cons a l=>exact qB5 (j:=0) rfl
  refine iteT (B:=B (upd H2 l3 (.lst (((ms.filter fun z=>z.testBit q).drop 1).map iV)))) ⟨_,rfl,_,rfl,l1,_,_,_,rfl,rfl,SqL.of (n3 _ _ h1),hd,_,_,rfl,rfl,?_⟩;have:=c rfl;rw[show iV (z^^^(ms.filter fun z=>z.testBit q).headD 0)=V.int (Builtin.bitXor (z:Int) (((ms.filter fun z=>z.testBit q).headD 0:Nat):Int)) by rw[qBm]]at this;exact this
 intro l4 hl4;have ft:((ms.filter fun z=>z.testBit q).drop 1).filter (fun _=>true)=(ms.filter fun z=>z.testBit q).drop 1:=List.filter_eq_self.mpr fun _ _=>rfl
 rw[ft];have n4:=n3.trans (Ext.new hl4 (.lst ((((ms.filter fun z=>z.testBit q).drop 1).map fun z=>z^^^(ms.filter fun z=>z.testBit q).headD 0).map iV)));refine⟨l2,l4,_,_,rfl,rfl,n4 _ _ h2,upd_same,?_,fun l5 hl5=>?_⟩
 ·have:=lackF_len ms q;unfold lackF at this;rw[hA7]at this;rw[hA1,hA1];exact hBd (qAf (by omega))
 ·refine qq l5 _ ((n2.trans n4).trans (Ext.new hl5 _)) ((n2.trans n4).none hl5) ?_;unfold LsN lackF;rw[upd_same,hA3]
noncomputable abbrev lfN:List Str:=["table","taken","shrunk_ones","names","gone","name","masks","rest"]
theorem qE7:FnScope lfN ["table","taken","shrunk_ones"] (qAb sLeft):=⟨rfl,rfl,rfl,by decide +kernel,rfl,by decide +kernel,by decide +kernel⟩
noncomputable abbrev lfC:List Str:=["mask","rest","names"]
theorem ok_left (F:Fun K "left" "left" sLeft f fd)
  (G1:Cl P w K mg base CX0 3 f1 fd1 ["table"] qFy "step_masks")
  (G2:Cl P w K mg base CX0 1 f2 fd2 ["masks","bit"] spLack "lacking")
  (G3:Cl P w K mg base CX0 1 f3 fd3 ["names","row"] spMask "mask_of")
  (G4:Cl P w K mg base CX0 1 f4 fd4 ["names","mask"] qFz "row_of")
  (G5:Cl P w K mg base CX0 3 f5 fd5 ["names","masks"] spTabF "table_from"):FnOk P w K mg base CX0 4 f fd ["table","taken","shrunk_ones"] spLeft:=by
 refine F.ok qE7 (fun vs H Q E h=>?_) (fun cdv A outer s H vs Q E hr h=>?_)
 ·obtain⟨T,pt,ph,names,rows,taken,shr,rfl,_⟩:=h;rfl
 obtain⟨T,pt,ph,names,rows,taken,shr,rfl,ti,ht,hs,nd,tsub,ssub,ln,lr,lt,lsr,q⟩:=h;have hr1:=hr.mono (j:=1) (by decide);refine⟨_,qAa (qAg (i:=3) qE7.nd rfl (Or.inr rfl) (qBv qGl (pv 0) qAc (fun _ _=>rfl)))
  (qAa (qAg (i:=4) qE7.nd rfl (Or.inr rfl) (qAh qCf (pv 1) (pv 2)))
  (qAa (qAz PassesOwn.never rfl (qAn (pv 4)) (qAd (i:=5) qE7.nd rfl (Or.inl rfl)) (pss_one (qBf (qAk qDb (pv 5) (pv 3) (by with_unfolding_all rfl)) (pss_one ps_never) qAu)))
  (qAa (qAg (i:=6) qE7.nd rfl (Or.inl rfl) (qAp G1 hr rfl .nil qAo (pa_cons (pv 0) pa_nil)))
  (qAa (qAz PassesOwn.never rfl (qAn (pv 1)) (qAd (i:=5) qE7.nd rfl (Or.inl rfl))
   (pss_one (qAg (i:=6) qE7.nd rfl (Or.inl rfl) (qAp G2 hr1 rfl .nil qAo (pa_cons (pv 6) (pa_cons (qAp G3 hr1 rfl .nil qAo (pa_cons (pv 3) (pa_cons (pe_lst (pa_cons (pv 5) pa_nil)) pa_nil))) pa_nil))))))
  (qAa (qAg (i:=7) qE7.nd rfl (Or.inr rfl) (qBo (N:=lfN) (sc:=qAb sLeft) (N':=["name","gone"]) (sub:=[none,some 4]) rfl rfl (CmpOk.of (by decide +kernel)) rfl (qAn (pv 3))
   (fun C s H fp=>⟨qAd (i:=0) (by show(["name","gone"]:List Str).Nodup;decide) rfl (Or.inl rfl),qBh (qAk (show OpR _ (compareOp .NotIn) (rIn K true) from qDb) (pv 0) (pv 1) (by with_unfolding_all rfl)),pv 0⟩)))
  (pss_one (ps_ret (qAp G5 hr rfl .nil qAo (pa_cons (pv 7) (pa_cons (qBo (N:=lfN) (sc:=qAb sLeft) (N':=lfC) (sub:=[none,some 7,some 3]) rfl rfl (CmpOk.of (by decide +kernel)) rfl (qAn (pv 6))
   (fun C s H fp=>⟨qAd (i:=0) (by show lfC.Nodup;decide) rfl (Or.inl rfl),qAy,qAp G3 hr1 rfl .nil qAo (pa_cons (pv 1) (pa_cons (qAp G4 hr1 rfl .nil qAo (pa_cons (pv 2) (pa_cons (pv 0) pa_nil))) pa_nil))⟩)) pa_nil)))))))))),?_⟩
 try dsimp only[Cx.wish,qBy]
 obtain⟨a,b,hT,ha,hb⟩:=id ti;refine⟨_,rfl,T,_,_,_,rfl,rfl,SqT.of hT,(by exact qB5 (j:=0) rfl),?_⟩;refine⟨_,rfl,_,rfl,pt,ph,_,_,rfl,rfl,ht,hs,?_,fun go hgo=>?_⟩
 ·rw[hA1,hA1];exact hBd (qAf (by omega))
 have X1:=Ext.new hgo (.lst (taken.map V.str++shr.map V.str));have hg1:LsS (upd H go (.lst (taken.map V.str++shr.map V.str))) go (taken++shr):=by unfold LsS;rw[upd_same,hA3]
 revert X1 hg1;generalize upd H go (.lst (taken.map V.str++shr.map V.str))=H1;intro X1 hg1;refine⟨_,rfl,go,rfl,⟨_,SqL.of hg1⟩,?_⟩;refine qA2 (xs:=(taken++shr).map V.str) (fun i σ H'=>H'=H1/\∃ x5:Option V,σ=[some (.ref T),some (.ref pt),some (.ref ph),some (.ref a),some (.ref go),x5,none,none]) ⟨rfl,none,rfl⟩ (fun i σ H' _ h=>by rw[h.1];exact SqL.of hg1) ?_ ?_
 ·rintro i v σ H' hx ⟨rfl,x5,rfl⟩;obtain⟨n,rfl,hn⟩:=qFx hx;have nm:n∈names:=by
   rcases hAb.mp (hAd hn) with z | z
   ·exact tsub n z
   ·exact ssub n z
  refine⟨_,rfl,_,rfl,a,_,rfl,.inl (SqL.of (X1 _ _ ha)),rfl,flat_strs _,_,rfl,?_⟩;rw[if_pos rfl,inV_str,decide_eq_true nm];exact iteF ⟨rfl,_,rfl⟩
 rintro σ H' ⟨rfl,x5,rfl⟩;refine⟨_,rfl,T,names,rows,rfl,ti.ext X1,lr,fun ms S H2 e2 ms0 hS pS dS=>?_⟩;have lS:S.length<=24:=by
  rw[pS.length_eq];have:=red_le (rows.map (qAt names));rw[hA1]at this;omega
 have E2:=X1.trans e2;refine⟨_,rfl,pt,rfl,⟨_,SqL.of (E2 _ _ ht)⟩,?_⟩;refine qA2 (xs:=taken.map V.str) (fun i σ H3=>∃ (ms:Addr) (x5:Option V),σ=[some (.ref T),some (.ref pt),some (.ref ph),some (.ref a),some (.ref go),x5,some (.ref ms),none]/\Ext H2 H3/\LsN H3 ms (qEn names S (taken.take i))) ⟨ms,_,rfl,Ext.refl _,hS⟩ (fun i σ H3 _ h=>by obtain⟨_,_,_,e,_⟩:=h;exact SqL.of ((E2.trans e) _ _ ht)) ?_ ?_
 ·rintro i v σ H3 hx ⟨ms,x5,rfl,e3,hm⟩;obtain⟨n,rfl,hn⟩:=qFx hx;have nm:=tsub n (hAd hn);obtain⟨k,hk,ek⟩:=hBy nm;have ek':names[k]?=some n:=by rw[hA2 hk,ek]
  refine⟨_,rfl,_,rfl,_,rfl,(by show 1<=sizeLine;decide),fun l hl=>?_⟩;have Xl:=Ext.new hl (.lst [V.str n]);have E3:=(E2.trans e3).trans Xl;refine⟨a,l,names,[n],rfl,E3 _ _ ha,upd_same,?_⟩;have lA:=lackA_len names S (taken.take i);refine⟨ms,qEn names S (taken.take i),names.length - 1 - k,(by rw[mask_one nd ek'];rfl),Xl _ _ hm,by omega,fun r H4 e4 r0 h4=>?_⟩;refine⟨r,_,rfl,e3.trans (Xl.trans e4),?_⟩;rw[qAm hn,qE3,one_log nd ek'];exact h4
 rintro σ H3 ⟨ms,x5,rfl,e3,hm⟩;rw[hA1,hA6 (hA5 _)]at hm;have E3:=E2.trans e3;have hg3:=(e2.trans e3) _ _ hg1;have ha3:=E3 _ _ ha;refine⟨_,rfl,a,rfl,⟨_,SqL.of ha3⟩,?_⟩;refine qAs (xs:=names.map V.str) (fun j ys H4=>H4=H3/\ys=(restF (names.take j) (taken++shr)).map V.str) ⟨rfl,rfl⟩ (fun j ys H4 _ h=>by rw[h.1];exact SqL.of ha3) ?_ ?_
 ·rintro j v ys H4 hx ⟨rfl,rfl⟩;obtain⟨n,rfl,hn⟩:=qFx hx;have hj:=at_lt hn;have sz:=hAm (fun n=>!decide (n∈taken++shr)) (names.take j);rw[hAi]at sz;refine⟨Sle.set _ (Sle.refl _) (fun u z=>by cases z),_,rfl,_,rfl,go,_,rfl,.inl (SqL.of hg3),rfl,flat_strs _,_,rfl,?_⟩;rw[if_pos rfl,inV_str];refine qBw (fun c=>?_) (fun c=>?_)
  ·refine⟨_,rfl,?_,nxt (at_lt hx) ⟨rfl,?_⟩⟩
   ·unfold restF;rw[hA1];exact qAf (by omega)
   ·unfold restF;rw[filt_t hn c,hA3];rfl
  ·refine nxt (at_lt hx) ⟨rfl,?_⟩;unfold restF;rw[filt_f hn (by simpa using c)]
 rintro ys H4 ⟨rfl,rfl⟩ rl hrl;rw[hA1,hA6 (hA5 _)];have X4:=Ext.new hrl (.lst ((restF names (taken++shr)).map V.str));have hr4:LsS (upd H4 rl (.lst ((restF names (taken++shr)).map V.str))) rl (restF names (taken++shr)):=upd_same;have ha4:=X4 _ _ ha3;have hm4:=X4 _ _ hm;have E4:=E3.trans X4;revert hr4 ha4 hm4 E4;generalize upd H4 rl (.lst ((restF names (taken++shr)).map V.str))=H5;intro hr4 ha4 hm4 E4;have lA:=lackA_len names S taken;refine⟨_,rfl,_,rfl,ms,rfl,⟨_,SqL.of hm4⟩,?_⟩;refine qAs (xs:=(qEn names S taken).map iV) (fun j ys H6=>Ext H5 H6/\ys=(((qEn names S taken).take j).map (piM names (restF names (taken++shr)))).map iV) ⟨Ext.refl _,rfl⟩ (fun j ys H6 _ h=>SqL.of (h.1 _ _ hm4)) ?_ ?_
 ·rintro j v ys H6 hx ⟨e6,rfl⟩;obtain⟨z,rfl,hz⟩:=qA1 hx;have hj:=at_lt hz;refine⟨Sle.set _ (Sle.refl _) (fun u z=>by cases z),iteT (B:=False) ⟨_,rfl,_,rfl,_,rfl,a,names,z,rfl,e6 _ _ ha4,ln,fun r7 H7 e7 r70 h7=>?_⟩⟩;refine⟨rl,r7,restF names (taken++shr),rowM names z,rfl,(e6.trans e7) _ _ hr4,h7,?_,nxt (at_lt hx) ⟨e6.trans e7,?_⟩⟩
  ·rw[hA1,hA1,hAi];exact qAf (by omega)
  ·rw[qAm hz,hA3,hA3];rfl
 rintro ys H6 ⟨e6,rfl⟩ pl hpl;rw[hA1,hA6 (hA5 _)];have X6:=e6.trans (Ext.new hpl (.lst (((qEn names S taken).map (piM names (restF names (taken++shr)))).map iV)));have E6:=E4.trans X6;have lrest:(restF names (taken++shr)).length<=12:=hAr (hAm _ _) ln;refine⟨rl,pl,restF names (taken++shr),_,rfl,X6 _ _ hr4,lrest,upd_same,by rw[hA1];omega,fun T' M H7 e7 t0 tf pM dM=>?_⟩;exact q T' S M H7 (E6.trans e7) (E6.none t0) (tf.down E6) pS pM dM
end
end My
namespace L2
open PySem PySem.Spec PyProof.Rows
end L2
namespace My
open PySem L2
end My
namespace My
open PySem L2
noncomputable def maskL (names row:List Str):Nat:=(row.map fun n=>2^ixF names n).sum
theorem ix_get {names:List Str} (nd:names.Nodup) {i:Nat} {n:Str} (h:names[i]?=some n):ixF names n=i:=qGo nd (ixF_at (hAd h)).1 h
theorem qBi {names:List Str} {z:Nat} {n:Str}:n∈rowL names z↔∃ i,i<names.length/\names[i]?=some n/\z.testBit i=true:=by
 unfold rowL;rw[hCw];constructor
 ·rintro⟨i,hi,e⟩;split at e
  ·rename_i b;exact⟨i,hAt.mp hi,e,b⟩
  ·cases e
 ·rintro⟨i,hi,e,b⟩;exact⟨i,hAt.mpr hi,by rw[if_pos b];exact e⟩
theorem rowL_nd {names:List Str} (nd:names.Nodup) (x:Nat):(rowL names x).Nodup:=by
 rw[<-qC8];have:(rowM names (rv names.length x)).Nodup:=by
  unfold rowM;have h:∀ l:List Nat,l.Nodup->(l.filterMap fun i=>if (rv names.length x).testBit (names.length - 1 - i)=true then names[i]? else none).Nodup:=fun l=>by
   induction l with
   | nil=>intro _;exact List.nodup_nil
   | cons a l ih =>
    intro hn;obtain⟨h1,h2⟩:=hBu.mp hn;rw[hCq];split
    ·exact ih h2
    ·rename_i b e;refine hBu.mpr ⟨fun m=>?_,ih h2⟩;obtain⟨c,hc,ec⟩:=hCw.mp m;split at e
     ·split at ec
      ·have:=qGo nd e ec;subst this;exact h1 hc
      ·cases ec
     ·cases e
  exact h _ hCg
 exact this
theorem maskL_bit {names:List Str} (nd:names.Nodup) {row:List Str} (rn:row.Nodup) (sub:∀ n∈row,n∈names) (j:Nat):(maskL names row).testBit j=decide (∃ n∈row,ixF names n=j):=by
 unfold maskL;have e:(row.map fun n=>2^ixF names n)=(row.map (ixF names)).map fun l=>2^l:=by rw[hAo];rfl
 have nd2:(row.map (ixF names)).Nodup:=by
  rw[List.Nodup,hAz];refine hC0 (fun {a b} ha hb ne q=>ne ?_) rn;have h1:=(ixF_at (sub a ha)).1;have h2:=(ixF_at (sub b hb)).1;rw[q,h2]at h1;exact(hAu h1).symm
 rw[e,qDt _ nd2];refine decide_eq_decide.mpr ?_;rw[hA9]
theorem maskL_rv {names:List Str} (nd:names.Nodup) {row:List Str} (rn:row.Nodup) (sub:∀ n∈row,n∈names):maskL names row<2^names.length/\rv names.length (maskL names row)=qAt names row:=by
 refine⟨hBi _ fun i hi=>?_,hAn fun j=>?_⟩
 ·rw[maskL_bit nd rn sub];refine decide_eq_false ?_;rintro⟨n,hn,e⟩;have:=(ixF_at (sub n hn)).2.2;omega
 ·rw[qBj,qA0,maskL_bit nd rn sub];by_cases hj:j<names.length
  ·rw[decide_eq_true hj,hBm,hBm];refine decide_eq_decide.mpr ⟨fun ⟨n,hn,e⟩=>⟨n,by rw[<-e];exact(ixF_at (sub n hn)).1,hn⟩,fun ⟨n,h1,h2⟩=>⟨n,h2,ix_get nd h1⟩⟩
  ·rw[decide_eq_false hj];rfl
theorem qBt {m:Nat} {F:List Nat} (hF:∀ x∈F,x<2^m) {z:Nat} (hz:z<2^m):Spn (F.map (rv m)) (rv m z)↔Spn F z:=by
 rw[spn_rv hF,qCj hz];exact⟨fun h=>h.2,fun h=>⟨qGx _ _,h⟩⟩
structure TabOk (names:List Str) (rows:List (List Str)):Prop where
 rn:Rise names
 ok:SOk names
 ln:names.length<=12
 lr:rows.length<=16
 rw:∀ r∈rows,∃ x,r=rowL names x
section
variable {names:List Str} {rows:List (List Str)}
theorem TabOk.masks (h:TabOk names rows):(∀ x∈rows.map (maskL names),x<2^names.length)/\(rows.map (maskL names)).map (rv names.length)=rows.map (qAt names):=by
 have nd:=qEa h.rn;refine⟨fun x hx=>?_,?_⟩
 ·obtain⟨r,hr,rfl⟩:=hA9.mp hx;obtain⟨x,rfl⟩:=h.rw r hr;exact(maskL_rv nd (rowL_nd nd x) fun n hn=>by obtain⟨i,_,e,_⟩:=qBi.mp hn;exact hAd e).1
 ·rw[hAo];refine hBs fun r hr=>?_
  obtain⟨x,rfl⟩:=h.rw r hr;exact(maskL_rv nd (rowL_nd nd x) fun n hn=>by obtain⟨i,_,e,_⟩:=qBi.mp hn;exact hAd e).2
noncomputable abbrev numL (names:List Str) (rows:List (List Str)):List Nat:=redL (rows.map (maskL names))
theorem TabOk.num (h:TabOk names rows):Gm names.length (numL names rows)/\(numL names rows).map (rv names.length)=red (rows.map (qAt names)):=by
 obtain⟨a,b⟩:=h.masks;obtain⟨c,d⟩:=qC9 (m:=names.length) (rows.map (maskL names)) a;exact⟨c,by rw[d,b]⟩
end
end My
namespace L2
open PySem PySem.Spec PyProof.Rows
end L2
namespace My
open PySem L2
theorem bor_nat (a b:Nat):Builtin.bitOr (a:Int) (b:Int)=((a ||| b:Nat):Int):=by
 have x:∀ x:Int,Builtin.bitNot (Builtin.bitNot x)=x:=fun x=>by unfold Builtin.bitNot;omega
 unfold Builtin.bitOr;have na:¬(0:Int)<=Builtin.bitNot (a:Int):=by unfold Builtin.bitNot;omega
 have nb:¬(0:Int)<=Builtin.bitNot (b:Int):=by unfold Builtin.bitNot;omega
 have o:Builtin.bitAnd (Builtin.bitNot (a:Int)) (Builtin.bitNot (b:Int))=Builtin.bitNot ((a ||| b:Nat):Int):=by
  unfold Builtin.bitAnd;rw[decide_eq_false na,decide_eq_false nb];show Builtin.bitNot _=_;rw[x,x];simp
 rw[o,x]
theorem cut_to (xs:List V) (p:Nat):cutV xs none (some (p:Int))=xs.take p:=by
 unfold cutV;rw[HT.sIx_nat,HT.sIx_none,List.drop_zero,Nat.sub_zero];rcases Nat.le_total p xs.length with h | h
 ·rw[Nat.min_eq_left h]
 ·rw[Nat.min_eq_right h,hA6 (hA5 _),hA6 h]
def spLCop:Sp:=fun vs H Q _=>∃ (T:Addr) (names:List Str) (rows:List (List Str)),vs=[.ref T]/\qC5 H T names rows/\rows.length<=24/\∀ T' H',Ext H H'->H T'=none->qC5 H' T' names rows->Q (.ref T') H'
def rLst (K:PySem.W.Frag):List V->Hp->VK->Prop:=fun xs H Q=>∃ p ys,xs=[.ref p]/\(SqL K H p ys\/SqT K H p ys)/\∀ l,H l=none->Q (.ref l) (upd H l (.lst ys))
section
variable {P:Program} {w:World} {K:PySem.W.Frag} {mg:Str->Option Value} {base:Heap} {f f1 f2 f3 f4 f5:Addr} {fd fd1 fd2 fd3 fd4 fd5:FuncData}
theorem scLCop:FnScope ["_law_table_here"] ["_law_table_here"] (qAb sLCop):=⟨rfl,rfl,rfl,by decide +kernel,rfl,by decide +kernel,by decide +kernel⟩
theorem ok_lcop (F:Fun K "_law_copy" "_law_copy" sLCop f fd) (mL:mg "list" = none):FnOk P w K mg base CX0 1 f fd ["_law_table_here"] spLCop:=by
 refine F.ok scLCop (fun vs H Q E h=>?_) (fun cdv A outer s H vs Q E hr h=>?_)
 ·obtain⟨T,names,rows,rfl,_⟩:=h;rfl
 obtain⟨T,names,rows,rfl,ti,lr,q⟩:=h;refine⟨_,pss_one (ps_ret (qCe (pa_cons (qA6 qCg rfl mL qBu (pa_cons (qBv qGl (pv 0) qAc (fun _ _=>rfl)) pa_nil))
  (pa_cons (qBo (N:=["_law_table_here"]) (sc:=qAb sLCop) (N':=["_law_row_here"]) (sub:=[none]) rfl rfl (CmpOk.of (by decide +kernel)) rfl (qAn (qBv qGl (pv 0) qAc (fun _ _=>rfl)))
   (fun C s H fp=>⟨qAd (i:=0) (by show(["_law_row_here"]:List Str).Nodup;decide) rfl (Or.inl rfl),qAy,qA6 (show qB9 _ (.type "list") (rLst K) from qCg) rfl mL qBu (pa_cons (pv 0) pa_nil)⟩)) pa_nil)))),?_⟩
 try dsimp only[Cx.wish,qBy]
 obtain⟨tA,tB,hT,htA,⟨cs,htB,pcs⟩⟩:=id ti;have lcs:cs.length=rows.length:=pcs.length;refine⟨_,rfl,T,_,_,_,rfl,rfl,SqT.of hT,(by exact qB5 (j:=0) rfl),tA,_,rfl,.inl (SqL.of htA),fun l1 hl1=>?_⟩;have N0:=Ext.new hl1 (.lst (names.map V.str));refine⟨_,rfl,T,_,_,_,rfl,rfl,SqT.of (N0 _ _ hT),(by exact qB5 (j:=1) rfl),tB,rfl,⟨_,SqL.of (N0 _ _ htB)⟩,?_⟩;refine qAs (xs:=cs.map V.ref) (fun j ys Hd=>Ext (upd H l1 (.lst (names.map V.str))) Hd/\∃ ds,ys=ds.map V.ref/\Paired (LsS Hd) ds (rows.take j)) ⟨Ext.refl _,[],rfl,.nil⟩ (fun j ys Hd _ h=>SqL.of (h.1 _ _ (N0 _ _ htB))) ?_ ?_
 ·rintro j v ys Hd hx ⟨ed,ds,rfl,pd⟩;obtain⟨c,rfl,hc⟩:=qF8 hx;obtain⟨rw1,hrw,hc1⟩:=qB1 pcs hc;have hj:=at_lt hrw;have ld:ds.length=_:=pd.length;rw[hAi]at ld;refine⟨Sle.set _ (Sle.refl _) (fun u z=>by cases z),iteT (B:=False) ⟨_,rfl,c,_,rfl,.inl (SqL.of (ed _ _ (N0 _ _ hc1))),fun l hl=>⟨?_,nxt (at_lt hx) ⟨ed.trans (Ext.new hl _),ds++[l],by rw[hA3];rfl,?_⟩⟩⟩⟩
  ·rw[hA1];exact qAf (by omega)
  ·rw[qAm hrw];exact Paired.snoc (Paired.mapP pd fun a t z=>(Ext.new hl _) _ _ z) upd_same
 rintro ys Hd ⟨ed,ds,rfl,pd⟩ bb hbb;rw[hA1,lcs,hA6 (hA5 _)]at pd;have XB:=Ext.new hbb (.lst (ds.map V.ref));refine⟨(by show 2<=sizeLine;decide),fun TT hTT=>?_⟩;have XT:=Ext.new hTT (.tup [V.ref l1,V.ref bb]);have NE:=N0.trans (ed.trans (XB.trans XT));exact q TT _ NE (((N0.trans ed).trans XB).none hTT) ⟨l1,bb,upd_same,(ed.trans (XB.trans XT)) _ _ upd_same,⟨ds,XT _ _ upd_same,Paired.mapP pd fun a t z=>(XB.trans XT) _ _ z⟩⟩
end
end My
namespace L2
open PySem PySem.Spec PyProof.Rows PySem.SeqAt PySem.MeetsSeq
end L2
namespace L2
open PySem PySem.Spec PyProof.Rows
section
variable {X:Cx} {k:Nat} {f:Addr} {fd:FuncData} {ps:List Str} {sp:Sp} {E:XK}
theorem run_fn2 (F:FnOk X.prog X.w X.K X.mg X.base CX0 k f fd ps sp) (hr:Room (k+2) X.A) (hb:Binds X.K fd ps [])
  (I:Inv X pins σ H s) (r:qA9 vs us) (h:sp vs H Q E):wpAny (model X.prog X.w) X.A.in1.in1 (call (.ref f) us) (EP X pins σ Q) E' s:=by
 have hl:(us++[]).length=ps.length:=by rw[hBe,<-r.length];exact F.len _ _ _ _ h
 have hb':=hb s us I.kIn hl;rw[hBe]at hb';refine wpAny_call (codeAny_mono (F.run X.A.in1.in1 X.stack s H ⟨us,[]⟩ us vs Q E (Room.in1 (Room.in1 hr)) I.env0.in1.in1 hb' r h) fun r s' hq=>?_);cases r with
 | error e=>exact False.elim hq
 | ok fl =>
  cases fl with
  | ret u=>exact I.after hq
  | next=>exact False.elim hq
  | brk=>exact False.elim hq
  | cont=>exact False.elim hq
structure Aw (X:Cx) (pins:List (Addr×Obj)) (a:Addr):Prop where
 loc:a≠X.env.locals
 ab:X.s₀.heap.objs.size<=a
 cel:∀ x c,X.env.cells.lookup x=some c->c≠a
 pin:∀ p∈X.pn++pins,p.1≠a
 fs:a∉X.fs
theorem Inv.aw (I:Inv X pins σ H s) (h:s.heap.objs.size<=a):Aw X pins a:=by
 refine⟨hCn (hAl I.lt h),hAr I.sz h,fun x c e=>?_,fun p hp=>?_,I.nofs h⟩
 ·obtain⟨v,o,ho,_⟩:=I.cell x c e;exact hB0 (hAl (Heap.lt_size ho) h)
 ·exact hB0 (hAl (Heap.lt_size (I.pin p hp).1) h)
theorem Inv.adoptL (I:Inv X pins σ H s) (w:Aw X pins a) (hn:H a=none) (hv:qA9 ys its) (hz:ys.length<=sizeLine)
  (e:s.heap.get? a=some { cls:=.type "list",data:=.seq its.toArray n }):Inv X pins σ (upd H a (.lst ys)) s:=by
 refine⟨I.ok,I.os,I.bare,⟨I.base.keep,I.base.slot,fun b o q n' hx=>?_,I.base.there,fun b xs q=>?_,fun b o u q=>?_,fun b ps q=>?_⟩,I.loc,I.cell,?_,fun x c q=>?_,fun p hp=>?_,fun b u q=>?_,I.len⟩
 ·rw[upd_ne (hB0 (hAl (Heap.lt_size q) w.ab))];exact I.base.free b o q n' hx
 ·have:=I.base.tups b xs q;rw[upd_ne (qAe this hn)];exact this
 ·have:=I.base.frzs b o u q;rw[upd_ne (qAe this hn)];exact this
 ·obtain⟨m,this⟩:=I.base.tbls b ps q;exact⟨m,by rw[upd_ne (qAe this hn)];exact this⟩
 ·rw[upd_ne (Ne.symm w.loc)];exact I.free
 ·rw[upd_ne (w.cel x c q)];exact I.freeC x c q
 ·obtain⟨h1,h2,h3⟩:=I.pin p hp;exact⟨h1,by rw[upd_ne (w.pin p hp)];exact h2,h3⟩
 ·by_cases hb:b=a
  ·subst hb;rw[upd_same]at q;cases q;exact⟨hz,its,n,hv,e⟩
  ·rw[upd_ne hb]at q;exact(I.hok b u q).stay (fun c v _ r=>r) (fun c r=>by rw[upd_ne (qAe r hn)];exact r) fun c xs r=>by rw[upd_ne (qAe r hn)];exact r
theorem Inv.repinL (f:Array Value->Array Value) (I:Inv X pins σ H s) (w:Aw X pins a) (hn:H a=none) (e:s.heap.get? a=some (seqObj "list" its n)) :
  ∃ n',Inv X pins σ H { s with heap:=s.heap.update a (Obj.mapSeq f) }/\(s.heap.update a (Obj.mapSeq f)).get? a=some (seqObj "list" (f its) n'):=by
 obtain⟨c,hc⟩:∃ c,(s.heap.update a (Obj.mapSeq f)).get? a=some (seqObj "list" (f its) c):=⟨_,get?_update_seq e f⟩;refine⟨c,?_,hc⟩;exact I.turned (t':=s.toks) (it:=a) (fun b o hb q=>(Heap.get?_update_other s.heap _ (Ne.symm hb)).trans q) hn w.loc (.inr w.ab) w.cel w.pin
theorem Inv.pinL (I:Inv X pins σ H s) (w:Aw X pins a) (hn:H a=none) (e:s.heap.get? a=some (seqObj "list" its n)) :
  Inv X ((a,seqObj "list" its n) :: pins) σ H s:=I.pins_of fun p hp=>by
 rcases hAh.mp hp with rfl | hp
 ·exact⟨e,hn,w.loc,w.fs,fun v q=>by cases q⟩
 ·exact I.pin p (hA8 _ hp)
theorem Inv.unpin (I:Inv X (q :: pins) σ H s):Inv X pins σ H s:=I.pins_of fun p hp=>I.pin p (hA8 _ (hAc _ hp))
theorem Aw.cons {pins:List (Addr×Obj)} {a b:Addr} {o:Obj} (w:Aw X pins a) (h:b≠a):Aw X ((b,o) :: pins) a:=⟨w.loc,w.ab,w.cel,fun p hp=>by
 rcases hAb.mp hp with q | q
 ·exact w.pin p (hAg _ q)
 ·rcases hAh.mp q with rfl | q
  ·exact h
  ·exact w.pin p (hA8 _ q),w.fs⟩
theorem sk_end
  (I:Inv X ((kS,seqObj "list" keys.toArray en) :: (a,seqObj "list" #[] e1) :: pins) σ H s) (hk:kS≠a) (Hk:H kS=none) (Ha:H a=none) (wa:Aw X pins a) (wk:Aw X pins kS)
  (hz:IntsAre keys kz) (hv:IntsAre vs ns) (hg:kz=ns.map g) (h64:ns.length<64)
  (h:∀ (s':Shared) (ns':List Int),ns'.Perm ns->ns'.Pairwise (fun x y=>g x<=g y)->Inv X pins σ (upd H a (.lst (ns'.map V.int))) s'->P (.done (.ret .none)) s') :
  wpAny (model X.prog X.w) A (ksk_end a false vs.toArray e1 (.ref kS) keys.toArray) P E' s:=by
 have lv:=hv.length;have lk:=hz.length;have lg:kz.length=ns.length:=by rw[hg,hA1]
 have hsz:keys.toArray.size=vs.length:=by rw[hAa];omega
 have hzs:(keys.toArray.zip vs.toArray).size=vs.length:=by rw[Array.size_zip,hsz,hAa,Nat.min_self]
 have hz':IntsAre keys.toArray.toList kz:=by simpa using hz
 have ok:s.heap.get? kS=some (seqObj "list" keys.toArray en):=(I.pin (kS,_) (hA8 _ (.head _))).1;have fin:∀ st:SortSt,(arrOf st).Perm (keys.toArray.zip vs.toArray)->SortedTo (arrOf st) (arrOf st).size->failedOf st=none->wpAny (model X.prog X.w) A (ksk_tail a false e1 (.ref kS) st) P E' s:=by
  intro st hp hs hf;have hsz2:(arrOf st).size=vs.length:=by rw[hp.size_eq,hzs]
  obtain⟨ps,h1,h2,h3⟩:=ksk_out (b:=false) hz' hp hs;obtain⟨n1,I1,_⟩:=Inv.repinL (fun _=>(#[]:Array Value)) I.unpin (wk.cons (Ne.symm hk)) Hk ok;have oa1:(s.heap.update kS (Obj.mapSeq fun _=>(#[]:Array Value))).get? a=some (seqObj "list" #[] e1):=(I1.pin (a,_) (hA8 _ (.head _))).1;obtain⟨n2,I2,oa2⟩:=Inv.repinL (s:={ s with heap:=s.heap.update kS (Obj.mapSeq fun _=>(#[]:Array Value)) }) (fun _=>(arrOf st).map (·.2)) I1.unpin wa Ha oa1;unfold ksk_tail;try dsimp only
  refine wpAny_bind (listUpdate_at ok rfl ?_ (by rw[hsz,sizeLine_eq];omega) (hAp _));refine wpAny_bind (wpAny_letGo ?_);refine wpAny_bind (seqEpoch_at oa1 rfl ?_);refine wpAny_bind (listUpdate_at oa1 rfl ?_ (hAp _) (by simp only[hBv,if_false,Array.size_map];rw[hsz2,sizeLine_eq];omega));rw[hf];simp only[bne_self_eq_false,hBv,if_false];have hrel:∀ p,p∈kz.zip vs->p.1=g (numOf p.2)/\p.2∈vs:=by
   rw[hg,<-hv.nums,hAo,List.zip_map_left];intro p hp;obtain⟨⟨u,v⟩,hq,rfl⟩:=hA9.mp hp;have h1:u=v/\u∈vs:=mem_zip_self hq;refine⟨?_,?_⟩
   ·show g (numOf u)=g (numOf v);rw[h1.1]
   ·show v∈vs;rw[<-h1.1];exact h1.2
  have hI:IntsAre (ps.map Prod.snd) ((ps.map Prod.snd).map numOf):=intsAre_map _ fun v hv'=>by
   obtain⟨p,hp',rfl⟩:=hA9.mp hv';exact hv.all _ (hrel p (h1.mem_iff.mp hp')).2
  have hP:((ps.map Prod.snd).map numOf).Perm ns:=by
   have h1':=(h1.map Prod.snd).map numOf;rw[hCu (by omega),hv.nums]at h1';exact h1'
  have hO:((ps.map Prod.snd).map numOf).Pairwise (fun x y=>g x<=g y):=by
   rw[hAz,hAz];refine h3.imp_of_mem fun {p q} hp' hq' hr=>?_
   have hr':p.1<=q.1:=hr;rw[(hrel p (h1.mem_iff.mp hp')).1,(hrel q (h1.mem_iff.mp hq')).1]at hr';exact hr'
  rw[<-h2]at hI hP hO;simp only[hBv,if_false]at hI hP hO;refine wpAny_pure (h _ _ hP hO ?_);exact I2.adoptL (its:=((arrOf st).map (·.2)).toList) (n:=n2) wa Ha (qHb hI) (by rw[hA1,hP.length_eq,sizeLine_eq];omega) (by rw[Array.toArray_toList];exact oa2)
 unfold ksk_end;try dsimp only
 simp only[hBv,if_false];by_cases h2:vs.toArray.size<2
 ·rw[if_pos h2,if_pos h2];refine wpAny_bind (wpAny_pure ?_);rw[StateT.run_pure];refine wpAny_bind (wpAny_pure ?_);try dsimp only
  refine fin (SortSt.mk' general' (keys.toArray.zip vs.toArray) #[] 7 none) (Array.Perm.refl _) ?_ rfl;intro i j hij hj;have hj2:j<(keys.toArray.zip vs.toArray).size:=hj;rw[hzs]at hj2;rw[hAa]at h2;have:i=j:=by omega
  subst this;exact hD5 _
 ·rw[if_neg h2,if_neg h2];rw[hAa]at h2;rw[ksk_kind hz' (by rw[hsz];omega)];refine wpAny_bind (wpAny_pure ?_);refine wpAny_bind (wpAny_mono (wpS_sortRuns (a₀:=keys.toArray.zip vs.toArray) (st:=SortSt.mk' oneType' (keys.toArray.zip vs.toArray) #[] 7 none)
   (Q:=fun _ st'=>(arrOf st').Perm (keys.toArray.zip vs.toArray)/\failedOf st'=none/\SortedTo (arrOf st') (keys.toArray.zip vs.toArray).size)
   (ksk_intKeys hz') ⟨Array.Perm.refl _,rfl,rfl,rfl⟩ (by rw[hzs];omega) (by rw[hzs];omega) fun st' a1 a2 a3=>⟨a1,a2,a3⟩) ?_ fun _ _ e=>e)
  rintro⟨⟨⟩,st'⟩ s' ⟨rfl,hp,hf,hs⟩;try dsimp only
  exact fin _ hp (by rw[hp.size_eq];exact hs) hf
def tSortKey (K:PySem.W.Frag) (sp:Sp) (E:XK) (g:Int->Int) (t:TA):TE:=fun σ H Q=>t σ H fun vs H1=>∃ (p:Addr) (ns:List Int),vs=[.ref p]/\SqL K H1 p (ns.map V.int)/\ns.length<64 /\
 (∀ n∈ns,∀ H (Q:VK),Q (.int (g n)) H->sp [.int n] H Q E)/\∀ (r:Addr) (ns':List Int),H1 r=none->ns'.Perm ns->ns'.Pairwise (fun x y=>g x<=g y)->Q (.ref r) (upd H1 r (.lst (ns'.map V.int)))
theorem pe_sortKey (F:FnOk X.prog X.w X.K X.mg X.base CX0 k f fd ps sp) (hr:Room (k+2) X.A) (hb:Binds X.K fd ps []) (hg:Gl X "sorted") (hm:X.mg "sorted" = none) (hgx:Gl X x) (hmx:X.mg x=some (.ref f)) (ha:PA X [e] t)
  (hdb:(x == ("__debug__" : Str))=false:=by decide)
  (he:backTo pos (starEach [e] X.env)=(false,eval e X.env) :: backTo pos (starEach [] X.env):=by rfl)
  (hplain:(backTo pos (starEach [e] X.env)).any (·.1)=false:=by rfl):PE X (.Call (.Name "sorted" p) [e] [⟨some "key",.Name x cp,kp⟩] pos) (tSortKey X.K sp E g t):=by
 intro pins s σ H Q I h;refine wpAny_Call_Name_kw (qEm I hg hm (by decide +kernel:bootBuiltins "sorted" = some (.builtin "sorted")) ?_ (by decide) (by decide));refine PyProof.Rows.callWith_kw (thn (ha pos pins s σ H _ I h) fun us s1 ⟨vs,H1,I1,r1,q1⟩=>?_) he hplain;obtain⟨l,ns,rfl,hq,h64,hf,q⟩:=q1;obtain⟨u,rfl,rx⟩:=qCs r1;cases rx;refine hDs (ld_glob I1 hgx hmx (hDw ?_) hdb);show wpAny _ _ (call (.builtin "sorted") [.ref l] [(Str.ofString "key",.ref f)]) _ _ _;obtain⟨its,rv,pl,hz⟩:=I1.list hq;have hi:=qCy rv;have hl:=hi.length;refine call_function_entry_kw kind_sorted plain_sorted entry_sorted (ksk_s1 _ _) ?_;unfold Builtin.«sorted»;refine wpAny_bind (m:=checkCount "sorted" 1 1 _) (wpAny_pure ?_);refine wpAny_bind (collect_list pl.isList ?_ (by rw[sizeLine_eq];omega));refine wpAny_bind (wpAny_newList ?_ (by rw[sizeLine_eq];omega));have hsz:((s1.heap.push (seqObj "list" #[] 0)).update s1.heap.objs.size (Obj.mapSeq (·++its.toArray))).objs.size=s1.heap.objs.size+1:=by
  rw[Heap.size_update,size_push']
 have keep:∀ b o,s1.heap.get? b=some o->((s1.heap.push (seqObj "list" #[] 0)).update s1.heap.objs.size (Obj.mapSeq (·++its.toArray))).get? b=some o:=fun b o q=>by
  have hlt:b<s1.heap.objs.size:=Heap.lt_size q;rw[Heap.get?_update_ne _ _ _ _ (hB0 hlt),Heap.get?_push_ne _ _ _ (hB0 hlt)];exact q
 have hoL:(((s1.heap.push (seqObj "list" #[] 0)).update s1.heap.objs.size (Obj.mapSeq (·++its.toArray))).push (seqObj "list" its.toArray 0)).get? (s1.heap.objs.size+1)=some (seqObj "list" its.toArray 0):=by
  rw[<-hsz];exact Heap.get?_push_size _ rfl
 have I2:Inv X pins σ H1 { s1 with heap:=((s1.heap.push (seqObj "list" #[] 0)).update s1.heap.objs.size (Obj.mapSeq (·++its.toArray))).push (seqObj "list" its.toArray 0) } :=
  I1.kept (t':=s1.toks) fun b o q=>Heap.get?_push_of_some _ (keep b o q)
 show wpAny _ _ _ _ _ { s1 with heap:=((s1.heap.push (seqObj "list" #[] 0)).update s1.heap.objs.size (Obj.mapSeq (·++its.toArray))).push (seqObj "list" its.toArray 0) };rw[hsz];have nA:H1 (s1.heap.objs.size+1)=none:=I1.hok.fresh (hBl _);have wA:Aw X pins (s1.heap.objs.size+1):=I1.aw (hBl _);generalize s1.heap.objs.size+1=a at hoL nA wA;generalize hS:({ s1 with heap:=((s1.heap.push (seqObj "list" #[] 0)).update s1.heap.objs.size (Obj.mapSeq (·++its.toArray))).push (seqObj "list" its.toArray 0) }:Shared)=s2 at I2;have ho2:s2.heap.get? a=some (seqObj "list" its.toArray 0):=by rw[<-hS];exact hoL
 clear hoL hS;refine wpAny_bind (wpAny_holding (wpAny_call_entry_kw slot_list_sort ⟨_,ho2,rfl⟩ entry_list_sort ?body (ksk_l1 _ _)));show wpAny (model X.prog X.w) X.A.in1.in1 (Builtin.«list.sort» ⟨[.ref a],[(Str.ofString "key",.ref f)]⟩) _ _ _;rw[ksk_t1];unfold ksk_tree;have hi0:its.length<64:=by omega
 refine wpAny_bind (listItems_at ho2 rfl ?_);refine wpAny_bind (listUpdate_at ho2 rfl ?_ (by rw[hAa,sizeLine_eq];omega) (hAp _));obtain⟨e1,I3,ho3⟩:=I2.repinL (fun _=>#[]) wA nA ho2;refine wpAny_bind (seqEpoch_at ho3 rfl ?_);refine wpAny_bind (wpAny_newTuple ?_ (by show its.length<=_;rw[sizeLine_eq];omega));refine wpAny_bind (wpAny_newList ?_ (hAp _));refine wpAny_holding ?_;have I4:Inv X pins σ H1 { s2 with heap:=((s2.heap.update a (Obj.mapSeq fun _=>(#[]:Array Value))).push (seqObj "tuple" its.toArray 0)) }:=I3.kept (t':=s2.toks) fun b o q=>Heap.get?_push_of_some _ q
 have nK:=I4.fresh;have wK:=I4.aw (hA5 _);have ho4:((s2.heap.update a (Obj.mapSeq fun _=>(#[]:Array Value))).push (seqObj "tuple" its.toArray 0)).get? a=some (seqObj "list" #[] e1):=Heap.get?_push_of_some _ ho3;have nka:((s2.heap.update a (Obj.mapSeq fun _=>(#[]:Array Value))).push (seqObj "tuple" its.toArray 0)).objs.size≠a:=hCn (Heap.lt_size ho4);have I5:Inv X pins σ H1 { s2 with heap:=((s2.heap.update a (Obj.mapSeq fun _=>(#[]:Array Value))).push (seqObj "tuple" its.toArray 0)).push (seqObj "list" #[] 0) }:=I4.kept (t':=s2.toks) fun b o q=>Heap.get?_push_of_some _ q
 have ho5:(((s2.heap.update a (Obj.mapSeq fun _=>(#[]:Array Value))).push (seqObj "tuple" its.toArray 0)).push (seqObj "list" #[] 0)).get? a=some (seqObj "list" #[] e1):=Heap.get?_push_of_some _ ho4;have hk5:(((s2.heap.update a (Obj.mapSeq fun _=>(#[]:Array Value))).push (seqObj "tuple" its.toArray 0)).push (seqObj "list" #[] 0)).get? ((s2.heap.update a (Obj.mapSeq fun _=>(#[]:Array Value))).push (seqObj "tuple" its.toArray 0)).objs.size=some (seqObj "list" #[] 0):=Heap.get?_push_size _ rfl;show wpAny _ _ (ksk_rest a (.ref f) false its.toArray e1 (.ref ((s2.heap.update a (Obj.mapSeq fun _=>(#[]:Array Value))).push (seqObj "tuple" its.toArray 0)).objs.size)) _ _ { s2 with heap:=((s2.heap.update a (Obj.mapSeq fun _=>(#[]:Array Value))).push (seqObj "tuple" its.toArray 0)).push (seqObj "list" #[] 0) }
 change H1 ((s2.heap.update a (Obj.mapSeq fun _=>(#[]:Array Value))).push (seqObj "tuple" its.toArray 0)).objs.size=none at nK
 change Aw X pins ((s2.heap.update a (Obj.mapSeq fun _=>(#[]:Array Value))).push (seqObj "tuple" its.toArray 0)).objs.size at wK
 have I6:=(I5.pinL wA nA ho5).pinL (wK.cons (Ne.symm nka)) nK hk5;generalize ((s2.heap.update a (Obj.mapSeq fun _=>(#[]:Array Value))).push (seqObj "tuple" its.toArray 0)).objs.size=kS at nK wK nka I6 ⊢;generalize ({ s2 with heap:=((s2.heap.update a (Obj.mapSeq fun _=>(#[]:Array Value))).push (seqObj "tuple" its.toArray 0)).push (seqObj "list" #[] 0) }:Shared)=s6 at I6 ⊢;unfold ksk_rest;refine wpAny_bind (wpAny_rule ?_)
 first
  | rw[List.forIn_toArray]
  | (rw[<-Array.forIn_toList];simp only[List.toList_toArray])
  | rw[<-Array.forIn_toList]
 refine wpAny_bind (ksk_fold (fun i s'=>∃ (kA:List Value) (e:Nat),Inv X ((kS,seqObj "list" kA.toArray e) :: (a,seqObj "list" #[] e1) :: pins) σ H1 s'/\IntsAre kA ((ns.map g).take i)) its 0 s6 ⟨[],0,I6,by simpa using IntsAre.nil⟩ ?step ?done)
 case step =>
  rintro j x s' hx ⟨kA,e,I',hk⟩;simp only[Nat.zero_add]at hk ⊢;have hj:j<its.length:=(hAv.mp hx).1;have hjn:j<ns.length:=by omega
  obtain⟨t,ht⟩:=hi.get j ns[j] (hA2 hjn);rw[hx]at ht;cases ht;have hz:kA.length<=its.length:=by
   have h1:=hk.length;rw[hAi,hA1]at h1;omega
  refine wpAny_bind (wpAny_attempt (wpAny_mono (run_fn2 (E:=E) (vs:=[.int ns[j]]) (Q:=fun v H=>v = .int (g ns[j])/\H=H1) F hr hb I' (.cons ⟨t,rfl⟩ .nil) (hf ns[j] (hBp hjn) H1 _ ⟨rfl,rfl⟩)) (fun v s'' he=>?_) fun _ _ (hF:False)=>hF.elim));obtain⟨w,H',I8,rw',rfl,e8⟩:=he;rw[e8]at I8;obtain⟨t2,rfl⟩:=rw';try dsimp only
  have ok2:s''.heap.get? kS=some (seqObj "list" kA.toArray e):=(I8.pin (kS,_) (hA8 _ (.head _))).1;obtain⟨n3,I3,ok3⟩:=I8.unpin.repinL (·.push (.int (g ns[j]) t2)) (wK.cons (Ne.symm nka)) nK ok2;have ek:(ns.map g).take (j+1)=(ns.map g).take j++[g ns[j]]:=by rw[List.take_add_one,hAs,hA2 hjn];simp
  refine wpAny_bind (listUpdate_at ok2 rfl ?_ (by rw[hAa,sizeLine_eq];omega) (hAr (Nat.le_of_eq (Array.size_push ..)) (by rw[hAa,sizeLine_eq];omega)));have ea:kA.toArray.push (Value.int (g ns[j]) t2)=(kA++[Value.int (g ns[j]) t2]).toArray:=by simp
  rw[ea]at ok3;exact wpAny_pure ⟨rfl,kA++[.int (g ns[j]) t2],n3,I3.pinL (wK.cons (Ne.symm nka)) nK ok3,by rw[ek];exact ksk_snoc hk⟩
 case done =>
  rintro s' ⟨kA,e,I',hk⟩;have hk':IntsAre kA (ns.map g):=by
   have e3:(ns.map g).take (0+its.length)=ns.map g:=hA6 (by rw[hA1];omega);rw[e3]at hk;exact hk
  have ok2:s'.heap.get? kS=some (seqObj "list" kA.toArray e):=(I'.pin (kS,_) (hA8 _ (.head _))).1;try dsimp only
  refine wpAny_bind (listItems_at ok2 rfl ?_);refine sk_end (g:=g) I' nka nK nA wA wK hk' hi rfl h64 fun s7 ns' hp ho I7=>⟨_,rfl,?_⟩
  exact wpAny_pure ⟨_,rfl,⟨.ref a,_,I7,rfl,q a ns' nA hp ho⟩⟩
end
end L2
namespace L2
open PySem PySem.Spec PyProof.Rows
noncomputable def SetI (P:Program) (w:World) (a:Addr) (n:Nat):HO:=.ext fun h=>∃ S,h.SetOf (intKind P w) a S n
section
variable {X:Cx}
theorem call_setI (hc:X.calm=true):qB9 X (.type "set") (fun xs H Q=>∃ (p:Addr) (ns:List Int),xs=[.ref p]/\SqL X.K H p (ns.map V.int)/\ns.length<1000/\∀ (r:Addr) (n:Nat),H r=none->n<=ns.length->Q (.ref r) (upd H r (SetI X.prog X.w r n))):=by
 intro pins s σ H xs us Q I r h;obtain⟨p,ns,rfl,hq,hl,q⟩:=h;obtain⟨u,rfl,rx⟩:=qCs r;cases rx;obtain⟨its,rv,pl,hz⟩:=I.list hq;have hi:=qCy rv;have hlen:=hi.length;refine call_set_list (I.ok.hd hc) pl.isList (by simpa using hi) (by have:scanBound=4096:=rfl;simp;omega) fun h' tk hS hk=>?_
 have hle:=firstMet_length_le (fun i=>ns.getD i 0) its.toArray.size;have hle2:(firstMet (fun i=>ns.getD i 0) its.toArray.size).length<=ns.length:=by rw[hAa]at hle ⊢;omega
 refine⟨.ref s.heap.objs.size,_,I.laid (t':=tk) (a:=s.heap.objs.size) (o:=SetI X.prog X.w s.heap.objs.size _) (fun b o e=>hk b o (Heap.lt_size e) e) (hA5 _) ⟨⟨_,hS⟩,?_,fun h1 h2 z k=>?_⟩,rfl,q _ _ (I.hok.fresh (hA5 _)) hle2⟩
 ·obtain⟨o,es,ep,t,ho,_⟩:=hS;exact⟨_,ho⟩
 ·obtain⟨S,o,es,ep,t,ho,rest⟩:=z;exact⟨S,o,es,ep,t,k o ho,rest⟩
theorem call_lenSI:qB9 X (.builtin "len") (fun xs H Q=>∃ (p:Addr) (n:Nat),xs=[.ref p]/\H p=some (SetI X.prog X.w p n)/\n<1000/\Q (.int (n:Nat)) H):=by
 intro pins s σ H xs us Q I r h;obtain⟨p,n,rfl,hp,hn,q⟩:=h;obtain⟨u,rfl,rx⟩:=qCs r;cases rx;obtain⟨⟨S,hS⟩,_⟩:=I.hok p _ hp;obtain⟨o,ho,hso⟩:=hS.objOf;obtain⟨hex,es,ep,t,hd,_,_,hn',hf⟩:=hso;subst hn';exact call_len_set ho hex hd hf (by omega) ⟨.int _,H,I.tok _,⟨_,rfl⟩,q⟩
end
end L2
namespace My
open PySem L2
def spPurse (K:PySem.W.Frag):Sp:=fun vs H Q _=>∃ (a:Addr) (ns:List Int) (k:Int),vs=[.ref a,.int k]/\SqL K H a (ns.map V.int)/\0<=k/\k<=1000/\∀ v r,H r=none->Q (.ref r) (upd H r (.lst [.int v]))
def qDo:Sp:=fun vs H Q _=>∃ (d:Addr) (n m:Int),vs=[.ref d,.int m]/\H d=some (.lst [.int n])/\0<m/\m<1073741824/\∀ q r,0<=r->r<m->Q (.int r) (upd H d (.lst [.int q]))
section
variable {P:Program} {w:World} {K:PySem.W.Frag} {mg:Str->Option Value} {base:Heap} {f f1:Addr} {fd fd1:FuncData}
theorem scTake:FnScope ["_law_draw","_law_many","_law_digit"] ["_law_draw","_law_many"] (qAb sTake):=⟨rfl,rfl,rfl,by decide +kernel,rfl,by decide +kernel,by decide +kernel⟩
theorem ok_take (F:Fun K "_law_take" "_law_take" sTake f fd):FnOk P w K mg base CX0 1 f fd ["_law_draw","_law_many"] qDo:=by
 refine F.ok scTake (fun vs H Q E h=>?_) (fun cdv A outer s H vs Q E hr h=>?_)
 ·obtain⟨a,ns,k,rfl,_⟩:=h;rfl
 obtain⟨d,n,m,rfl,hd,h1,h2,q⟩:=h;refine⟨_,qAa (qAg (i:=2) scTake.nd rfl (Or.inl rfl) (qAh qDc (qBv qBe (pv 0) qAc (fun _ _=>rfl)) (pv 1)))
  (qAa (qEe (qAh op_fdiv (qBv qBe (pv 0) qAc (fun _ _=>rfl)) (pv 1)) (pg_sub (pv 0) qAc qFn)) (pss_one (ps_ret (pv 2)))),?_⟩
 try dsimp only[Cx.wish,qBy]
 refine⟨_,rfl,d,_,_,_,rfl,rfl,SqL.of hd,rfl,_,rfl,_,_,rfl,rfl,h1,?_⟩;refine⟨_,rfl,d,_,_,_,rfl,rfl,SqL.of hd,rfl,_,rfl,_,_,rfl,rfl,⟨h1,h2⟩,?_⟩;refine⟨_,rfl,d,_,_,_,rfl,rfl,hd,rfl,?_⟩;exact⟨_,rfl,q (n / m) (n % m) (Int.emod_nonneg _ (by omega)) (Int.emod_lt_of_pos _ h1)⟩
end
end My
namespace My
open PySem L2
section
variable {P:Program} {w:World} {K:PySem.W.Frag} {mg:Str->Option Value} {base:Heap} {f f1:Addr} {fd fd1:FuncData}
theorem qDu:FnScope ["_law_script","_law_at","_law_cell","_law_come","_law_k","_law_one","_law_mixed"] ["_law_script","_law_at"] (qAb qG2):=⟨rfl,rfl,rfl,by decide +kernel,rfl,by decide +kernel,by decide +kernel⟩
theorem ok_purse (F:Fun K "_law_purse" "_law_purse" qG2 f fd) (G:Cl P w K mg base CX0 1 f1 fd1 ["_law_script","_law_k"] (spCell K) "_law_cell_at") (mr:mg "range" = none) :
  FnOk P w K mg base CX0 2 f fd ["_law_script","_law_at"] (spPurse K):=by
 refine F.ok qDu (fun vs H Q E h=>?_) (fun cdv A outer s H vs Q E hr h=>?_)
 ·obtain⟨a,ns,k,rfl,_⟩:=h;rfl
 obtain⟨a,ns,k,rfl,hS,h0,h1,q⟩:=h;refine⟨_,qAa (qAg (i:=2) qDu.nd rfl (Or.inl rfl) (qAp G hr rfl .nil qAo (pa_cons (pv 0) (pa_cons (pv 1) pa_nil))))
  (qAa (qBf (qAk op_ge (pv 2) (qAh op_pow qAc qAc) (qAq _)) (pss_one (ps_ret (pe_lst (pa_cons (pv 2) pa_nil)))) qAu)
  (qAa (qAg (i:=3) qDu.nd rfl (Or.inl rfl) qAc)
  (qAa (qAz PassesOwn.never rfl (qAw rfl mr (pa_cons qAc pa_nil)) (qAd (i:=4) qDu.nd rfl (Or.inl rfl))
   (qAa (qAg (i:=5) qDu.nd rfl (Or.inl rfl) (qAh qBa (qAh qBa (qAh qBa (qAh qDc (qAp G hr rfl .nil qAo (pa_cons (pv 0) (pa_cons (qAh qBa (pv 1) (qAh qDc (pv 4) qAc)) pa_nil))) (qAh op_pow qAc qAc)) qAc)
     (qAh qC3 (qAh qC3 qAc (pv 4)) (pv 4))) (qAh qC3 qAc (pv 1))))
   (qAa (qAg (i:=6) qDu.nd rfl (Or.inl rfl) (qAh qDc (qAh qC3 (pv 5) qAc) qAc))
   (pss_one (qAg (i:=3) qDu.nd rfl (Or.inl rfl) (qAh qBa (qAh qC3 (pv 3) qAc) (qAh qDc (qAh qBa (qAh qDc (qAh qC3 (pv 6) (pv 6)) qAc) (qAh op_fdiv (pv 5) qAc)) qAc)))))))
  (pss_one (ps_ret (pe_lst (pa_cons (pv 3) pa_nil))))))),?_⟩
 try dsimp only[Cx.wish,qBy]
 refine⟨_,rfl,_,rfl,a,ns,k,rfl,hS,h0,fun v=>?_⟩;refine⟨_,rfl,_,_,rfl,rfl,⟨by decide,by decide,by decide⟩,_,_,rfl,rfl,_,rfl,?_⟩;refine qBw (fun c=>?_) (fun c=>?_)
 ·exact⟨_,rfl,(by show 1<=sizeLine;decide),fun r hr'=>q v r hr'⟩
 refine⟨60,rfl,by decide,by decide,qA7 (lo:=0) (n:=60) (fun i σ H'=>H'=H/\∃ (c:Int) (x y z:Option V),σ=[some (.ref a),some (.int k),some (.int v),some (.int c),x,y,z]) ⟨rfl,0,none,none,none,rfl⟩ ?_ ?_⟩
 ·rintro i σ H' hi ⟨rfl,c0,x,y,z,rfl⟩;refine⟨_,rfl,_,rfl,_,rfl,_,_,rfl,rfl,(by show(0:Int)<_;decide),_,_,rfl,rfl,a,ns,_,rfl,hS,?_,fun u=>?_⟩
  ·have:=Int.emod_nonneg ((0:Int)+(i:Int)) (show(9:Int)≠0 by decide);omega
  refine⟨_,_,rfl,rfl,⟨by decide,by decide,by decide⟩,_,_,rfl,rfl,(by show(0:Int)<_;decide),_,_,rfl,rfl,?_⟩;refine⟨_,rfl,_,_,rfl,rfl,.inl ⟨by decide,by decide⟩,_,rfl,_,_,rfl,rfl,.inr ⟨by omega,by omega⟩,_,_,rfl,rfl,?_⟩;refine⟨_,rfl,_,_,rfl,rfl,.inl ⟨by decide,by decide⟩,_,_,rfl,rfl,?_⟩;refine⟨_,rfl,_,_,rfl,rfl,.inr ⟨by decide,by decide⟩,_,_,rfl,rfl,(by show(0:Int)<_;decide),?_⟩;refine⟨_,rfl,_,_,rfl,rfl,.inr ⟨by decide,by decide⟩,_,rfl,_,rfl,_,_,rfl,rfl,?_,_,_,rfl,rfl,(by show(0:Int)<_;decide),_,rfl,_,_,rfl,rfl,⟨by decide,by decide⟩,_,_,rfl,rfl,_,_,rfl,rfl,(by show(0:Int)<_;decide),_,_,rfl,rfl,?_⟩
  ·refine .inl ⟨?_,?_⟩
   ·exact Int.lt_of_lt_of_le (by decide) (Int.emod_nonneg _ (by decide))
   ·exact Int.lt_of_lt_of_le (Int.emod_lt_of_pos _ (by decide)) (by decide)
  ·exact⟨rfl,_,_,_,_,rfl⟩
 ·rintro σ H' ⟨rfl,c0,x,y,z,rfl⟩;exact⟨_,rfl,(by show 1<=sizeLine;decide),fun r hr'=>q c0 r hr'⟩
end
end My
namespace My
open PySem L2
theorem foldl_rep {c:Nat}:∀ (n:Nat) (acc:Array Nat),((List.replicate n #[c]).foldl (·++·) acc).toList=acc.toList++List.replicate n c
 | 0,acc=>by simp
 | n+1,acc=>by
  rw[hDi,List.foldl_cons,foldl_rep n];simp[hDi]
theorem qFq {c:Nat} {n:Int} (h:0<=n):(Txt.mul ⟨#[c]⟩ n).cps.toList=List.replicate n.toNat c:=by
 unfold Txt.mul;by_cases h1:n<1
 ·rw[if_pos h1,show n.toNat=0 by omega];rfl
 ·rw[if_neg h1];by_cases h2:n=1
  ·subst h2;rfl
  ·have e:(n == 1 || (⟨#[c]⟩:Str).length == 0)=false:=by
    rw[Bool.or_eq_false_iff];exact⟨by simpa using h2,rfl⟩
   rw[if_neg (by rw[e];decide)];exact foldl_rep n.toNat #[]
theorem Sm.mul {c:Nat} {n:Int} (h:c<128) (hn:0<=n):Sm (Txt.mul ⟨#[c]⟩ n):=fun d hd=>by
 rw[qFq hn]at hd;rw[(List.mem_replicate.mp hd).2];exact h
theorem mul_len {c:Nat} {n:Int} (hn:0<=n):(Txt.mul ⟨#[c]⟩ n).length=n.toNat:=by
 have:=congrArg List.length (qFq (c:=c) hn);rw[hCd]at this;exact this
noncomputable def nmA (a b:Str) (first:Nat) (k:Nat):Str:=a++⟨#[sgC ((first+7*k) % 36)]⟩++b
theorem nmA_inj {a b:Str} {first i j:Nat} (hi:i<12) (hj:j<12) (e:nmA a b first i=nmA a b first j):i=j:=by
 have e1:=congrArg (fun x:Str=>x.cps.toList) e;simp only[nmA,Str.cps_append,hBt,hBj]at e1;have e2:=List.append_cancel_left e1;have e3:sgC ((first+7*i) % 36)=sgC ((first+7*j) % 36):=by
  have:=congrArg List.head? e2
  simpa using this
 have e4:=sgC_inj (Nat.mod_lt _ (by decide)) (Nat.mod_lt _ (by decide)) e3;omega
noncomputable def nmB (first:Nat) (k:Nat):Str:=if k<6 then Txt.mul ⟨#[sgC first]⟩ (1+(k:Int)) else Txt.mul ⟨#[sgC first]⟩ ((k:Int) - 6)++⟨#[sgC ((first+1) % 36)]⟩
theorem nmB_list {first k:Nat}:(nmB first k).cps.toList=if k<6 then List.replicate (1+k) (sgC first) else List.replicate (k - 6) (sgC first)++[sgC ((first+1) % 36)]:=by
 unfold nmB;split
 ·rw[qFq (by omega),show(1+(k:Int)).toNat=1+k by omega]
 ·rw[Str.cps_append,hBt,qFq (by omega),show((k:Int) - 6).toNat=k - 6 by omega]
theorem nmB_inj {first i j:Nat} (hf:first<36) (e:nmB first i=nmB first j):i=j:=by
 have e1:=congrArg (fun x:Str=>x.cps.toList) e;simp only[nmB_list]at e1;have ne:sgC first≠sgC ((first+1) % 36):=fun z=>by
  have:=sgC_inj hf (Nat.mod_lt _ (by decide)) z;omega
 by_cases hi:i<6
 ·by_cases hj:j<6
  ·rw[if_pos hi,if_pos hj]at e1;have:=congrArg List.length e1;rw[hCd,hCd]at this;omega
  ·rw[if_pos hi,if_neg hj]at e1;exfalso;have hm:sgC ((first+1) % 36)∈List.replicate (1+i) (sgC first):=by rw[e1];simp
   exact ne (List.mem_replicate.mp hm).2.symm
 ·by_cases hj:j<6
  ·rw[if_neg hi,if_pos hj]at e1;exfalso;have hm:sgC ((first+1) % 36)∈List.replicate (1+j) (sgC first):=by rw[<-e1];simp
   exact ne (List.mem_replicate.mp hm).2.symm
  ·rw[if_neg hi,if_neg hj]at e1;have:=congrArg List.length e1;rw[hA7,hA7,hCd,hCd]at this;simp at this;omega
theorem nodup_map {α:Type} {g:Nat->α} {n:Nat} (h:∀ i j,i<n->j<n->g i=g j->i=j):((List.range n).map g).Nodup:=by
 rw[List.Nodup,hAz];refine hC0 ?_ (hCg (n:=n));intro a b ha hb ne e;exact ne (h a b (hAt.mp ha) (hAt.mp hb) e)
theorem qEv {σ0:St} {g:TG} {te:TE} {Q:List V->Hp->Prop} {H1:Hp} {lo:Int} {n:Nat} (fv:Nat->V) (hz:n<=1000)
  (hs:∀ i,i<n->∀ C:V->Hp->Prop,C (fv i) H1->g (.int (lo+i)) σ0 H1 fun σ2 H2=>Sle σ0 σ2/\te σ2 H2 (fun v H4=>C v H4))
  (hd:Q ((List.range n).map fv) H1):qFd (Itr lo n) σ0 g tNoTest te Q H1:=by
 refine qBz (lo:=lo) (n:=n) (fun i ys H=>H=H1/\ys=(List.range i).map fv) ⟨rfl,rfl⟩ ?_ ?_
 ·rintro i ys H hi ⟨rfl,rfl⟩;exact hs i hi (fun v H4=>((List.range i).map fv).length<sizeLine/\Nxt n i (fun i ys H'=>H'=H/\ys=(List.range i).map fv) ((List.range i).map fv++[v]) H4)
   ⟨by rw[hA1,hAy];exact qAf (by omega),nxt hi ⟨rfl,by rw[hC9,hA3];rfl⟩⟩
 ·rintro ys H ⟨rfl,rfl⟩;exact hd
end My
namespace My
open PySem L2
def spNames:Sp:=fun vs H Q _=>∃ (d:Addr) (n m:Int),vs=[.ref d,.int m]/\H d=some (.lst [.int n])/\0<=m/\m<=12 /\
 ∀ (r:Addr) (ns:List Str) (q:Int) (H':Hp),Ext (upd H d (.lst [.int q])) H'->H r=none->LsS H' r ns->ns.length=m.toNat->ns.Nodup->PyProof.Rows.sortedS ns=true->SOk ns->Q (.ref r) H'
section
variable {P:Program} {w:World} {K:PySem.W.Frag} {mg:Str->Option Value} {base:Heap} {f f1:Addr} {fd fd1:FuncData}
theorem qB0:FnScope ["_law_draw","_law_many","_law_signs","_law_size","_law_spot","_law_word","_law_k","_law_first","_law_found","_law_one","_law_other"] ["_law_draw","_law_many"] (qAb qD8):=⟨rfl,rfl,rfl,by decide +kernel,rfl,by decide +kernel,by decide +kernel⟩
theorem ok_names (F:Fun K "_law_names" "_law_names" qD8 f fd) (G:Cl P w K mg base CX0 1 f1 fd1 ["_law_draw","_law_many"] qDo "_law_take") (mr:mg "range" = none) (mm:mg "min" = none) (ms:mg "sorted" = none) :
  FnOk P w K mg base CX0 2 f fd ["_law_draw","_law_many"] spNames:=by
 refine F.ok qB0 (fun vs H Q E h=>?_) (fun cdv A outer s H vs Q E hr h=>?_)
 ·obtain⟨a,ns,k,rfl,_⟩:=h;rfl
 obtain⟨d,n,m,rfl,hd,m0,m1,q⟩:=h;refine⟨_,qAa (qAg (i:=2) qB0.nd rfl (Or.inr rfl) pe_str)
  (qAa (qAg (i:=3) qB0.nd rfl (Or.inl rfl) (qAh qBa qAc (qAp G hr rfl .nil qAo (pa_cons (pv 0) (pa_cons qAc pa_nil)))))
  (qAa (qAg (i:=4) qB0.nd rfl (Or.inr rfl) (qAp G hr rfl .nil qAo (pa_cons (pv 0) (pa_cons (pv 3) pa_nil))))
  (qAa (qAg (i:=5) qB0.nd rfl (Or.inr rfl) pe_str)
  (qAa (qAz PassesOwn.never rfl (qAw rfl mr (pa_cons (pv 3) pa_nil)) (qAd (i:=6) qB0.nd rfl (Or.inl rfl))
   (pss_one (qAg (i:=5) qB0.nd rfl (Or.inr rfl) (qAh qDl (pv 5) (qBv ix_str (pv 2) (qAp G hr rfl .nil qAo (pa_cons (pv 0) (pa_cons qAc pa_nil))) (fun _ _=>rfl))))))
  (qAa (qAg (i:=7) qB0.nd rfl (Or.inr rfl) (qAp G hr rfl .nil qAo (pa_cons (pv 0) (pa_cons qAc pa_nil))))
  (qAa (qFi (i:=8) (N:=["_law_draw","_law_many","_law_signs","_law_size","_law_spot","_law_word","_law_k","_law_first","_law_found","_law_one","_law_other"]) (sc:=qAb qD8) (N':=["_law_k","_law_first","_law_signs","_law_spot","_law_word"]) (sub:=[none,some 7,some 2,some 4,some 5])
    rfl rfl (CmpOk.of (by decide +kernel)) rfl (qAw rfl mr (pa_cons (pv 1) pa_nil))
    (fun C s H fp=>⟨qAd (i:=0) (by show(["_law_k","_law_first","_law_signs","_law_spot","_law_word"]:List Str).Nodup;decide) rfl (Or.inl rfl),qAy,
     qAh qDl (qAh qDl (qEg sl_str (pv 4) qGd (qGc (pv 3))) (qBv ix_str (pv 2) (qAh qDc (qAh qBa (pv 1) (qAh qC3 qAc (pv 0))) qAc) (fun _ _=>rfl))) (qEg sl_str (pv 4) (qGc (qAh qBa (pv 3) qAc)) qGd)⟩)
    qB0.nd rfl (Or.inl rfl))
  (qAa (qBf (qAk qBl (qAp G hr rfl .nil qAo (pa_cons (pv 0) (pa_cons qAc pa_nil))) qAc (qAq _))
   (qAa (qAg (i:=9) qB0.nd rfl (Or.inr rfl) (qBv ix_str (pv 2) (pv 7) (fun _ _=>rfl)))
   (qAa (qAg (i:=10) qB0.nd rfl (Or.inr rfl) (qBv ix_str (pv 2) (qAh qDc (qAh qBa (pv 7) qAc) qAc) (fun _ _=>rfl)))
   (qAa (qFi (i:=8) (N:=["_law_draw","_law_many","_law_signs","_law_size","_law_spot","_law_word","_law_k","_law_first","_law_found","_law_one","_law_other"]) (sc:=qAb qD8) (N':=["_law_k","_law_one"]) (sub:=[none,some 9])
    rfl rfl (CmpOk.of (by decide +kernel)) rfl (qAw rfl mr (pa_cons (qAj (qCq rfl) rfl mm qCr (pa_cons (pv 1) (pa_cons qAc pa_nil))) pa_nil))
    (fun C s H fp=>⟨qAd (i:=0) (by show(["_law_k","_law_one"]:List Str).Nodup;decide) rfl (Or.inl rfl),qAy,qAh qHa (pv 1) (qAh qBa qAc (pv 0))⟩)
    qB0.nd rfl (Or.inl rfl))
   (pss_one (qAg (i:=8) qB0.nd rfl (Or.inl rfl) (qAh qCf (pv 8)
    (qBo (N:=["_law_draw","_law_many","_law_signs","_law_size","_law_spot","_law_word","_law_k","_law_first","_law_found","_law_one","_law_other"]) (sc:=qAb qD8) (N':=["_law_k","_law_one","_law_other"]) (sub:=[none,some 9,some 10])
     rfl rfl (CmpOk.of (by decide +kernel)) rfl (pi_range2 rfl mr (pa_cons qAc (pa_cons (pv 1) pa_nil)))
     (fun C s H fp=>⟨qAd (i:=0) (by show(["_law_k","_law_one","_law_other"]:List Str).Nodup;decide) rfl (Or.inl rfl),qAy,qAh qDl (qAh qHa (pv 1) (qAh qCp (pv 0) qAc)) (pv 2)⟩)))))))) qAu)
  (pss_one (ps_ret (qAj call_sortedS rfl ms qCh (pa_cons (pv 8) pa_nil))))))))))),?_⟩
 try dsimp only[Cx.wish,qBy]
 refine⟨_,rfl,d,n,6,rfl,hd,by decide,by decide,fun q1 z1 z1a z1b=>?_⟩;refine⟨_,_,rfl,rfl,?_⟩;refine⟨_,rfl,_,rfl,d,q1,1+z1,rfl,upd_same,by omega,by omega,fun q2 spot spa spb=>?_⟩;rw[qB3];refine⟨_,rfl,1+z1,rfl,by omega,by omega,qA7 (lo:=0) (n:=(1+z1).toNat) (fun i σ H'=>∃ (q:Int) (word:Str) (x:Option V),σ=[some (.ref d),some (.int m),some (.str sg),some (.int (1+z1)),some (.int spot),some (.str word),x,none,none,none,none]/\H'=upd H d (.lst [.int q])/\word.length<=i/\Sm word)
  ⟨q2,"",none,rfl,rfl,hA5 _,Sm.nil⟩ ?_ ?_⟩
 ·rintro i σ H' hi ⟨q3,word,x,rfl,rfl,hw,sm⟩;refine⟨_,rfl,_,rfl,_,rfl,d,q3,36,rfl,upd_same,by decide,by decide,fun q4 z4 z4a z4b=>?_⟩;rw[qB3];refine⟨sg,z4,sgC z4.toNat,rfl,rfl,by decide +kernel,sg_at z4a z4b,word,⟨#[sgC z4.toNat]⟩,rfl,rfl,?_,?_⟩
  ·show word.length+1<=sizeLine;exact hBd (qAf (by omega))
  ·refine⟨q4,_,_,rfl,rfl,?_,sm.app (Sm.one (qD7 (by omega)))⟩;rw[Str.length_append];show word.length+1<=i+1;omega
 ·rintro σ H' ⟨q3,word,x,rfl,rfl,hw,sm⟩;have hw':word.length<=100:=by omega
  refine⟨_,rfl,d,q3,36,rfl,upd_same,by decide,by decide,fun q4 first fa fb=>?_⟩;rw[qB3];refine⟨_,rfl,m,rfl,by omega,by omega,?_⟩;refine qEv (fun k=>.str (nmA (Txt.slice word none (some spot)) (Txt.slice word (some (spot+1)) none) first.toNat k)) (by omega) ?_ ?_
  ·intro k hk C hC;have wl:word.length<=sizeLine:=hBd (qAf (by omega));have l1:=Txt.slice_le word none (some spot);have l2:=Txt.slice_le word (some (spot+1)) none;have ei:(first+7*(0+(k:Int))) % 36=(((first.toNat+7*k) % 36:Nat):Int):=by omega
   refine⟨Sle.set _ (Sle.refl _) (fun u z=>by cases z),_,rfl,_,rfl,_,rfl,word,rfl,wl,_,rfl,_,rfl,_,rfl,_,_,rfl,rfl,.inl ⟨by decide,by decide⟩,_,_,rfl,rfl,_,_,rfl,rfl,(by show(0:Int)<_;decide),sg,_,sgC ((first.toNat+7*k) % 36),rfl,rfl,by decide +kernel,?_,_,_,rfl,rfl,?_,?_⟩
   ·rw[ei];exact sg_at (by omega) (by omega)
   ·show _+1<=sizeLine;exact hBd (qAf (by omega))
   refine⟨_,rfl,_,rfl,_,_,rfl,rfl,_,rfl,word,rfl,wl,_,_,rfl,rfl,?_,hC⟩;rw[Str.length_append];show _+1+_<=sizeLine;exact hBd (qAf (by omega))
  ·intro r1 hr1;have fn36:first.toNat<36:=by omega
   have fin:∀ (p:Addr) (nm:Nat->Str) (H2:Hp) (q0:Int),Ext (upd H d (.lst [.int q0])) H2->LsS H2 p ((List.range m.toNat).map nm)->(∀ i j,i<m.toNat->j<m.toNat->nm i=nm j->i=j)->(∀ i,i<m.toNat->Sm (nm i)) ->
     ∃ p' ss,[V.ref p]=[V.ref p']/\SqL K H2 p' (ss.map V.str)/\ss.length<64/\∀ r ss',H2 r=none->ss'.Perm ss->PyProof.Rows.sortedS ss'=true->Q (.ref r) (upd H2 r (.lst (ss'.map V.str))):=by
    intro p nm H2 q0 e2 hp inj sm2;refine⟨p,(List.range m.toNat).map nm,rfl,SqL.of hp,?_,fun r ss hr2 perm srt=>?_⟩
    ·rw[hA1,hAy];omega
    have hrH:H r=none:=by
     have z:=e2.none hr2;by_cases e:r=d
     ·rw[e,upd_same]at z;cases z
     ·rw[upd_ne e]at z;exact z
    refine q r ss q0 _ (e2.trans (Ext.new hr2 _)) hrH upd_same ?_ (perm.nodup_iff.mpr (nodup_map inj)) srt ?_
    ·rw[perm.length_eq,hA1,hAy]
    ·intro x hx;obtain⟨i,hi,rfl⟩:=hA9.mp (perm.mem_iff.mp hx);exact(sm2 i (hAt.mp hi)).ok
   have dr1:d≠r1:=fun e=>by rw[<-e,upd_same]at hr1;cases hr1
   have g1:∀ q0,Ext (upd H d (.lst [.int q0])) (upd (upd (upd H d (.lst [.int q4])) r1 (.lst ((List.range m.toNat).map fun k=>V.str (nmA (Txt.slice word none (some spot)) (Txt.slice word (some (spot+1)) none) first.toNat k)))) d (.lst [.int q0])):=fun q0 b o hb=>by
    by_cases e:b=d
    ·subst e;rw[upd_same]at hb ⊢;exact hb
    ·rw[upd_ne e]at hb ⊢;have nb:b≠r1:=fun z=>by
      rw[z]at hb;rw[upd_ne (Ne.symm dr1)]at hr1;rw[hr1]at hb;cases hb
     rw[upd_ne nb,upd_ne e];exact hb
   refine⟨_,rfl,d,q4,3,rfl,by rw[upd_ne dr1];exact upd_same,by decide,by decide,fun q5 z5 z5a z5b=>⟨rfl,_,rfl,?_⟩⟩;refine qBw (fun _=>?_) (fun _=>?_)
   ·refine⟨_,rfl,_,rfl,sg,first,sgC first.toNat,rfl,rfl,by decide +kernel,sg_at fa fb,?_⟩;have eo:(first+1) % 36=(((first.toNat+1) % 36:Nat):Int):=by omega
    refine⟨_,rfl,_,rfl,_,_,rfl,rfl,_,_,rfl,rfl,(by show(0:Int)<_;decide),sg,_,sgC ((first.toNat+1) % 36),rfl,rfl,by decide +kernel,(by rw[eo];exact sg_at (by omega) (by omega)),?_⟩;have c1:sgC first.toNat<128:=qD7 fn36
    have c2:sgC ((first.toNat+1) % 36)<128:=qD7 (Nat.mod_lt _ (by decide));have mn0:0<=(if (6:Int)<m then 6 else m):=by split <;> omega
    have mn6:(if (6:Int)<m then 6 else m)<=6:=by split <;> omega
    refine⟨_,rfl,m,6,rfl,_,rfl,by omega,by omega,?_⟩;refine qEv (fun k=>.str (nmB first.toNat k)) (by omega) ?_ ?_
    ·intro k hk C hC;have ek:nmB first.toNat k=Txt.mul ⟨#[sgC first.toNat]⟩ (1+(0+(k:Int))):=by
      unfold nmB;rw[if_pos (by omega),Int.zero_add]
     rw[ek]at hC;exact⟨Sle.set _ (Sle.refl _) (fun u z=>by cases z),_,rfl,_,rfl,_,_,rfl,rfl,_,_,rfl,rfl,(by show 1<=100;decide),by omega,by omega,hC⟩
    ·intro r2 hr2;refine⟨_,rfl,_,rfl,6,m,rfl,⟨by omega,by omega,by omega,by omega⟩,?_⟩;refine qEv (fun k=>.str (nmB first.toNat (6+k))) (by omega) ?_ ?_
     ·intro k hk C hC;have ek:nmB first.toNat (6+k)=Txt.mul ⟨#[sgC first.toNat]⟩ (6+(k:Int) - 6)++⟨#[sgC ((first.toNat+1) % 36)]⟩:=by
       unfold nmB;rw[if_neg (by omega),show(((6+k:Nat):Int))=6+(k:Int) by omega]
      rw[ek]at hC;refine⟨Sle.set _ (Sle.refl _) (fun u z=>by cases z),_,rfl,_,rfl,_,_,rfl,rfl,_,_,rfl,rfl,(by show 1<=100;decide),by omega,by omega,_,rfl,_,_,rfl,rfl,?_,hC⟩;rw[mul_len (by omega)];show _+1<=sizeLine;exact hBd (qAf (by omega))
     ·intro r3 hr3;have n23:r2≠r3:=fun e=>by rw[<-e,upd_same]at hr3;cases hr3
      refine⟨r2,r3,_,_,rfl,rfl,(by rw[upd_ne n23];exact upd_same),upd_same,?_,fun p hp=>?_⟩
      ·rw[hA1,hA1,hAy,hAy];exact hBd (qAf (by omega))
      refine⟨_,rfl,fin p (nmB first.toNat) _ q5 ?_ ?_ (fun i j _ _ e=>nmB_inj fn36 e) ?_⟩
      ·exact(g1 q5).trans ((Ext.new hr2 _).trans ((Ext.new hr3 _).trans (Ext.new hp _)))
      ·unfold LsS;rw[upd_same];have em:(List.range m.toNat).map (fun k=>V.str (nmB first.toNat k))=(List.range (if (6:Int)<m then 6 else m).toNat).map (fun k=>V.str (nmB first.toNat k))++(List.range (m - 6).toNat).map (fun k=>V.str (nmB first.toNat (6+k))):=by
        by_cases h6:(6:Int)<m
        ·rw[if_pos h6,show m.toNat=6+(m - 6).toNat by omega,List.range_add,hA3,hAo];rfl
        ·rw[if_neg h6,show(m - 6).toNat=0 by omega];simp
       rw[hAo,<-em];rfl
      ·intro i hi;unfold nmB;split
       ·exact Sm.mul c1 (by omega)
       ·exact(Sm.mul c1 (by omega)).app (Sm.one c2)
   ·refine⟨_,rfl,fin r1 (nmA (Txt.slice word none (some spot)) (Txt.slice word (some (spot+1)) none) first.toNat) _ q5 (g1 q5) ?_ (fun i j hi hj e=>nmA_inj (by omega) (by omega) e) ?_⟩
    ·unfold LsS;rw[upd_ne (Ne.symm dr1),upd_same,hAo];rfl
    ·intro i _;exact((sm.slice _ _).app (Sm.one (qD7 (Nat.mod_lt _ (by decide))))).app (sm.slice _ _)
end
end My
namespace My
open PySem L2
theorem tri:∀ a b:List Nat,a<b\/a=b\/b<a
 | [],[]=>.inr (.inl rfl)
 | [],_ :: _=>.inl (List.nil_lt_cons _ _)
 | _ :: _,[]=>.inr (.inr (List.nil_lt_cons _ _))
 | x :: a,y :: b=>by
  rcases Nat.lt_trichotomy x y with h | h | h
  ·exact .inl (hC3.mpr (.inl h))
  ·subst h;rcases tri a b with h | h | h
   ·exact .inl (hC3.mpr (.inr ⟨rfl,h⟩))
   ·exact .inr (.inl (by rw[h]))
   ·exact .inr (.inr (hC3.mpr (.inr ⟨rfl,h⟩)))
  ·exact .inr (.inr (hC3.mpr (.inl h)))
end My
namespace My
open PySem L2
theorem len_lt {l:List Nat} (nd:l.Nodup) {m:Nat} (h:∀ x∈l,x<m):l.length<=m:=by
 have p:l.Perm ((List.range m).filter fun x=>decide (x∈l)):=(List.perm_ext_iff_of_nodup nd (hCg.sublist hBb)).mpr fun a=>by
  rw[hAf,hAt,decide_eq_true_iff];exact⟨fun ha=>⟨h a ha,ha⟩,fun ha=>ha.2⟩
 rw[p.length_eq];exact hAr (hAm _ _) (by rw[hAy];exact hA5 _)
theorem redL_len {ms:List Nat} {m:Nat} (lt:∀ x∈ms,x<2^m):(redL ms).length<=m:=by
 obtain⟨g,e⟩:=qC9 _ lt;have rr:=qC1 (ms.map (rv m));rw[<-e]at rr;have l1:=ld_nd rr;have:=len_lt l1 (m:=m) fun x hx=>by
  obtain⟨s,hs,rfl⟩:=hA9.mp hx;obtain⟨u,hu,rfl⟩:=hA9.mp hs;exact(Nat.log2_lt (rv_ne (g u hu).1 (g u hu).2)).mpr (qGx _ _)
 rw[hA1,hA1]at this;exact this
theorem qDi:bootBuiltins "int" = some (.type "int"):=by decide +kernel
noncomputable def ldI (n:Int):Int:=Builtin.bitAnd n (-n)
theorem qE2 {s:Nat} (nz:s≠0):ldI (s:Int)=((2^lo s:Nat):Int):=low_bit nz
def spLd:Sp:=fun vs H Q _=>∃ n:Int,vs=[.int n]/\Q (.int (ldI n)) H
def spLSt:Sp:=fun vs H Q _=>∃ (p:Addr) (ms:List Nat) (m:Nat),vs=[.ref p]/\LsN H p ms/\ms.length<=5000/\m<=16/\(∀ x∈ms,x<2^m)/\∀ (r:Addr) (S:List Nat) (H':Hp),Ext H H'->H r=none->LsN H' r S->S.Perm (redL ms)->S.Pairwise (fun a b=>lo a<=lo b)->Q (.ref r) H'
section
variable {P:Program} {w:World} {K:PySem.W.Frag} {mg:Str->Option Value} {base:Heap} {f f1 f2:Addr} {fd fd1 fd2:FuncData}
theorem scLd:FnScope ["_law_mask"] ["_law_mask"] (qAb sLLd):=⟨rfl,rfl,rfl,by decide +kernel,rfl,by decide +kernel,by decide +kernel⟩
theorem ok_ld (F:Fun K "_law_lead" "_law_lead" sLLd f fd):FnOk P w K mg base CX0 1 f fd ["_law_mask"] spLd:=by
 refine F.ok scLd (fun vs H Q E h=>?_) (fun cdv A outer s H vs Q E hr h=>?_)
 ·obtain⟨n,rfl,_⟩:=h;rfl
 obtain⟨n,rfl,q⟩:=h;exact⟨_,pss_one (ps_ret (qAh qBg (pv 0) (pe_un un_neg (pv 0)))),_,rfl,_,rfl,_,rfl,_,_,rfl,rfl,q⟩
noncomputable abbrev stN:List Str:=["_law_masks","_law_found","_law_mask","_law_step","_law_lead_here"]
noncomputable abbrev stC:List Str:=["_law_step","_law_mask","_law_lead_here"]
theorem scLSt:FnScope stN ["_law_masks"] (qAb sLSt):=⟨rfl,rfl,rfl,by decide +kernel,rfl,by decide +kernel,by decide +kernel⟩
theorem ok_lst (F:Fun K "_law_steps" "_law_steps" sLSt f fd) (G:Cl P w K mg base CX0 1 f1 fd1 ["_law_mask"] spLd "_law_lead") (mi:mg "int" = none) (mso:mg "sorted" = none) :
  FnOk P w K mg base CX0 4 f fd ["_law_masks"] spLSt:=by
 refine F.ok scLSt (fun vs H Q E h=>?_) (fun cdv A outer s H vs Q E hr h=>?_)
 ·obtain⟨p,ms,m,rfl,_⟩:=h;rfl
 obtain⟨p,ms,m,rfl,hp,lm,m16,lt,q⟩:=h;have hr1:=hr.mono (j:=1) (by decide);refine⟨_,qAa (qAg (i:=1) scLSt.nd rfl (Or.inl rfl) (pe_lst pa_nil))
  (qAa (qAz PassesOwn.never rfl (qAn (pv 0)) (qAd (i:=2) scLSt.nd rfl (Or.inr rfl))
   (qAa (qAz PassesOwn.never rfl (qAn (pv 1)) (qAd (i:=3) scLSt.nd rfl (Or.inl rfl))
    (pss_one (qBf (qAk qDz (qAh qBg (pv 2) (qAp G hr1 rfl .nil qAo (pa_cons (pv 3) pa_nil))) qAc (qAq _)) (pss_one (qAg (i:=2) scLSt.nd rfl (Or.inr rfl) (qAh qC2 (pv 2) (pv 3)))) qAu)))
   (pss_one (qBf (qAk qDz (pv 2) qAc (qAq _))
    (qAa (qAg (i:=4) scLSt.nd rfl (Or.inr rfl) (qAp G hr1 rfl .nil qAo (pa_cons (pv 2) pa_nil)))
    (pss_one (qAg (i:=1) scLSt.nd rfl (Or.inl rfl) (qAh qCf (qBo (N:=stN) (sc:=qAb sLSt) (N':=stC) (sub:=[none,some 2,some 4]) rfl rfl (CmpOk.of (by decide +kernel)) rfl (qAn (pv 1))
     (fun C s H fp=>⟨qAd (i:=0) (by show stC.Nodup;decide) rfl (Or.inl rfl),qAy,qAh qC2 (pv 0) (qAh qC3 (pv 1) (qA6 qDh rfl mi qDi (pa_cons (qDa qDz (qAh qBg (pv 0) (pv 2)) qAc (qAq _)) pa_nil)))⟩)) (pe_lst (pa_cons (pv 2) pa_nil))))))
    qAu))))
  (pss_one (ps_ret (pe_sortKey (E:=E0) (g:=ldI) G.g hr G.b rfl mso rfl G.m (pa_cons (pv 1) pa_nil))))),?_⟩
 try dsimp only[Cx.wish,qBy]
 refine⟨hAp _,fun ro ro0=>?_⟩;have X0:=Ext.new ro0 (.lst []);refine⟨_,rfl,p,rfl,⟨_,SqL.of (X0 _ _ hp)⟩,?_⟩;refine qA2 (xs:=ms.map iV) (fun i σ H'=>∃ (ro:Addr) (x2 x3 x4:Option V),σ=[some (.ref p),some (.ref ro),x2,x3,x4]/\Ext H H'/\H ro=none/\LsN H' ro (redL (ms.take i))) ⟨ro,none,none,none,rfl,X0,ro0,upd_same⟩ (fun i σ H' _ h=>by obtain⟨_,_,_,_,_,e,_⟩:=h;exact SqL.of (e _ _ hp)) ?_ ?_
 ·rintro i v σ H' hx ⟨ro,x2,x3,x4,rfl,e,ro0,hk⟩;obtain⟨n,rfl,hn⟩:=qA1 hx;have hi:i<ms.length:=at_lt hn;have nl:=lt n (hAd hn);obtain⟨gm,_⟩:=qC9 (m:=m) (ms.take i) fun x hx=>lt x (hC7 hx)
  have lr:=redL_len (m:=m) (ms:=ms.take i) fun x hx=>lt x (hC7 hx)
  have sn:redL (ms.take (i+1))=redLS (redL (ms.take i)) n:=by rw[qAm hn,qGa]
  refine⟨_,rfl,ro,rfl,⟨_,SqL.of hk⟩,?_⟩;refine qA2 (xs:=(redL (ms.take i)).map iV) (fun j σ H2=>H2=H'/\∃ x3:Option V,σ=[some (.ref p),some (.ref ro),some (iV (redL1 ((redL (ms.take i)).take j) n)),x3,x4]) ⟨rfl,x3,rfl⟩ (fun j σ H2 _ h=>by rw[h.1];exact SqL.of hk) ?_ ?_
  ·rintro j v σ H2 hx2 ⟨rfl,x3,rfl⟩;obtain⟨s,rfl,hs⟩:=qA1 hx2;have snz:=(gm s (hAd hs)).2;have st:redL1 ((redL (ms.take i)).take (j+1)) n=rdL (redL1 ((redL (ms.take i)).take j) n) s:=by rw[qAm hs,redL1_snoc]
   refine⟨_,rfl,_,rfl,_,rfl,_,_,rfl,rfl,rfl,_,rfl,?_⟩;have ap:=qE5 (redL1 ((redL (ms.take i)).take j) n) (lo s);have key:((!decide (V.int (Builtin.bitAnd ((redL1 ((redL (ms.take i)).take j) n:Nat):Int) (ldI (s:Int)))=V.int 0))=true)↔(redL1 ((redL (ms.take i)).take j) n).testBit (lo s)=true:=by
    rw[qE2 snz,qBn,<-ap];simp
   refine qBw (fun c=>?_) (fun c=>?_)
   ·refine⟨_,rfl,_,rfl,_,_,rfl,rfl,rfl,some (iV s),?_⟩;rw[st,show rdL (redL1 ((redL (ms.take i)).take j) n) s=redL1 ((redL (ms.take i)).take j) n^^^s from if_pos (key.mp c),show iV (redL1 ((redL (ms.take i)).take j) n^^^s)=V.int (Builtin.bitXor ((redL1 ((redL (ms.take i)).take j) n:Nat):Int) (s:Int)) by rw[qBm]];rfl
   ·refine⟨rfl,some (iV s),?_⟩;rw[st,show rdL (redL1 ((redL (ms.take i)).take j) n) s=redL1 ((redL (ms.take i)).take j) n from if_neg fun z=>c (key.mpr z)];rfl
  ·rintro σ H2 ⟨rfl,x3,rfl⟩;rw[hA1,hA6 (hA5 _)];refine⟨_,rfl,rfl,_,rfl,?_⟩;refine qBw (fun c=>?_) (fun c=>?_)
   ·have nz:redL1 (redL (ms.take i)) n≠0:=fun z=>by rw[z]at c;simp at c
    have lb:=qE2 nz;have nlt:=(redL1_rv gm nl).1;have pw:2^m<=2^16:=hB9 (by decide) m16;refine⟨_,rfl,_,rfl,?_⟩;refine⟨_,rfl,ro,rfl,⟨_,SqL.of hk⟩,?_⟩;refine qAs (xs:=(redL (ms.take i)).map iV) (fun j ys H3=>H3=H2/\ys=(((redL (ms.take i)).take j).map fun s=>rdL s (redL1 (redL (ms.take i)) n)).map iV) ⟨rfl,rfl⟩ (fun j ys H3 _ h=>by rw[h.1];exact SqL.of hk) ?_ ?_
    ·rintro j v ys H3 hx3 ⟨rfl,rfl⟩;obtain⟨s,rfl,hs⟩:=qA1 hx3;have hj:=at_lt hs;have sz:((((redL (ms.take i)).take j).map fun s=>rdL s (redL1 (redL (ms.take i)) n)).map iV).length<sizeLine:=by
      rw[hA1,hA1,hAi];exact qAf (by omega)
     have ap:=qE5 s (lo (redL1 (redL (ms.take i)) n));have key:((!decide (V.int (Builtin.bitAnd (s:Int) (ldI ((redL1 (redL (ms.take i)) n:Nat):Int)))=V.int 0))=true)↔s.testBit (lo (redL1 (redL (ms.take i)) n))=true:=by
      rw[lb,qBn,<-ap];simp
     refine⟨Sle.set _ (Sle.refl _) (fun u z=>by cases z),iteT (B:=False) ?_⟩;refine⟨_,rfl,_,rfl,_,rfl,_,rfl,_,_,rfl,rfl,rfl,.inr ⟨_,rfl,_,_,rfl,rfl,.inl ⟨by omega,by omega⟩,_,_,rfl,rfl,sz,nxt (at_lt hx3) ⟨rfl,?_⟩⟩⟩;rw[qAm hs,hA3,hA3,List.map_singleton,List.map_singleton];congr 2;show V.int (Builtin.bitXor _ _)=V.int _;by_cases c3:s.testBit (lo (redL1 (redL (ms.take i)) n))=true
     ·rw[if_pos (key.mpr c3),Int.mul_one,qBm,show rdL s (redL1 (redL (ms.take i)) n)=s^^^redL1 (redL (ms.take i)) n from if_pos c3]
     ·rw[if_neg (fun z=>c3 (key.mp z)),Int.mul_zero,show rdL s (redL1 (redL (ms.take i)) n)=s from if_neg c3,show(0:Int)=((0:Nat):Int) from rfl,qBm,Nat.xor_zero]
    ·rintro ys H3 ⟨rfl,rfl⟩ l1 hl1;rw[hA1,hA6 (hA5 _)];have n1:=Ext.new hl1 (.lst (((redL (ms.take i)).map fun s=>rdL s (redL1 (redL (ms.take i)) n)).map iV));refine⟨_,rfl,(by show 1<=sizeLine;decide),fun l2 hl2=>?_⟩;have n2:=Ext.new hl2 (.lst [iV (redL1 (redL (ms.take i)) n)]);refine⟨l1,l2,_,_,rfl,rfl,n2 _ _ upd_same,upd_same,?_,fun l3 hl3=>?_⟩
     ·rw[hA1,hA1];show _+1<=sizeLine;exact hBd (qAf (by omega))
     ·refine⟨l3,_,_,_,rfl,((e.trans n1).trans n2).trans (Ext.new hl3 _),((e.trans n1).trans n2).none hl3,?_⟩;rw[sn];unfold redLS LsN;rw[if_neg nz,upd_same,hA3];rfl
   ·have z:redL1 (redL (ms.take i)) n=0:=by
     have:(redL1 (redL (ms.take i)) n:Int)=0:=by simpa using c
     omega
    refine⟨ro,_,_,_,rfl,e,ro0,?_⟩;rw[sn];unfold redLS;rw[if_pos z];exact hk
 ·rintro σ H' ⟨ro,x2,x3,x4,rfl,e,ro0,hk⟩;rw[hA1,hA6 (hA5 _)]at hk;have lr:=redL_len lt;obtain⟨gm,_⟩:=qC9 (m:=m) ms lt;refine⟨_,rfl,ro,(redL ms).map (fun n:Nat=>(n:Int)),rfl,by rw[<-qB4];exact SqL.of hk,by rw[hA1];omega,fun n hn H2 Q2 q2=>⟨n,rfl,q2⟩,fun r ns hr' pm od=>?_⟩;obtain⟨M,rfl⟩:∃ M:List Nat,ns=M.map (fun n:Nat=>(n:Int)):=by
   refine⟨ns.map Int.toNat,?_⟩;rw[hAo];refine(hDk _).symm.trans (hBs fun a ha=>?_);obtain⟨n,_,rfl⟩:=hA9.mp (pm.mem_iff.mp ha);simp
  have pm':M.Perm (redL ms):=by
   have:=pm.map Int.toNat;rw[hAo,hAo]at this;have idn:(Int.toNat∘fun n:Nat=>(n:Int))=id:=by funext n;simp
   rw[idn,hDk,hDk]at this;exact this
  refine q r M _ (e.trans (Ext.new hr' _)) (e.none hr') (by unfold LsN;rw[upd_same,qB4]) pm' ?_;rw[hAz]at od;refine hC0 (fun {a b} ha hb h=>?_) od;rw[qE2 (gm a (pm'.mem_iff.mp ha)).2,qE2 (gm b (pm'.mem_iff.mp hb)).2]at h;exact(Nat.pow_le_pow_iff_right (a:=2) (by decide)).mp (by exact_mod_cast h)
end
end My
namespace My
open PySem L2
def Stp (m:Nat) (S:List Nat):Prop:=∃ xs:List Nat,(∀ x∈xs,x<2^m)/\S.Perm (redL xs)/\S.Pairwise (fun a b=>lo a<=lo b)
section
variable {m:Nat} {S:List Nat}
theorem Stp.gm (h:Stp m S):Gm m S:=by
 obtain⟨xs,lt,p,_⟩:=h;obtain⟨g,_⟩:=qC9 (m:=m) xs lt;exact fun s hs=>g s (p.mem_iff.mp hs)
theorem Stp.rr (h:Stp m S):RR (S.map (rv m)):=by
 obtain⟨xs,lt,p,_⟩:=h;obtain⟨_,e⟩:=qC9 (m:=m) xs lt;have:=p.map (rv m);rw[e]at this;exact(qC1 _).perm this
theorem lo_nd (g:Gm m S) (h:RR (S.map (rv m))):(S.map lo).Nodup:=by
 have nd:=ld_nd h;rw[hAo]at nd;refine(hAz.mpr ?_);refine hC0 (fun {a b} ha hb hne e=>hne ?_) (hAz.mp nd);show(rv m a).log2=(rv m b).log2;rw[qC7 (g a ha).1 (g a ha).2,qC7 (g b hb).1 (g b hb).2,e]
theorem Stp.nd (h:Stp m S):(S.map lo).Nodup:=lo_nd h.gm h.rr
theorem Stp.lt (h:Stp m S):∀ s∈S,s<2^m:=fun s hs=>(h.gm s hs).1
end
theorem pows_lt {L:List Nat} {m:Nat} (nd:L.Nodup) (h:∀ l∈L,l<m):(L.map fun l=>2^l).sum<2^m:=hBi _ fun i hi=>by
 rw[qDt L nd,decide_eq_false fun z=>by have:=h i z;omega]
noncomputable def crLM (S:List Nat) (p:Nat):Nat:=2^p+((S.filter fun s:Nat=>s.testBit p).map fun s:Nat=>2^lo s).sum
noncomputable def crLA (S:List Nat) (m:Nat):List Nat:=((List.range m).filter fun p=>!decide (p∈S.map lo)).map (crLM S)
theorem crLM_sum (S:List Nat) (p:Nat):crLM S p=((p :: (S.filter fun s:Nat=>s.testBit p).map lo).map fun l=>2^l).sum:=by
 unfold crLM;rw[hBf,List.sum_cons,hAo];rfl
theorem crL_nd {S:List Nat} {p:Nat} (nd:(S.map lo).Nodup) (np:p∉S.map lo):(p :: (S.filter fun s:Nat=>s.testBit p).map lo).Nodup:=by
 have sub:((S.filter fun s:Nat=>s.testBit p).map lo).Sublist (S.map lo):=(hBb).map lo;exact hBu.mpr ⟨fun z=>np (sub.subset z),nd.sublist sub⟩
theorem crLM_lt {S:List Nat} {m p:Nat} (g:Gm m S) (nd:(S.map lo).Nodup) (np:p∉S.map lo) (hp:p<m):crLM S p<2^m:=by
 rw[crLM_sum];refine pows_lt (crL_nd nd np) fun l hl=>?_
 rcases hAh.mp hl with rfl | hl
 ·exact hp
 ·obtain⟨s,hs,rfl⟩:=hA9.mp hl;have:=g s (hAf.mp hs).1;exact lo_lt this.1 this.2
theorem crLA_lt {S:List Nat} {m:Nat} (g:Gm m S) (nd:(S.map lo).Nodup):∀ x∈crLA S m,x<2^m:=fun x hx=>by
 obtain⟨p,hp,rfl⟩:=hA9.mp hx;obtain⟨h1,h2⟩:=hAf.mp hp;exact crLM_lt g nd (by simpa using h2) (hAt.mp h1)
theorem crLA_len (S:List Nat) (m:Nat):(crLA S m).length<=m:=by
 unfold crLA;rw[hA1];have:=hAm (fun p=>!decide (p∈S.map lo)) (List.range m);rw[hAy]at this;exact this
def spLCr:Sp:=fun vs H Q _=>∃ (p:Addr) (S:List Nat) (m:Nat),vs=[.ref p,iV m]/\LsN H p S/\S.length<=24/\m<=12/\Gm m S/\(S.map lo).Nodup/\∀ (r:Addr) (R:List Nat) (H':Hp),Ext H H'->H r=none->LsN H' r R->R.Perm (redL (crLA S m))->R.Pairwise (fun a b=>lo a<=lo b)->Q (.ref r) H'
def spBou:Sp:=fun vs H Q _=>∃ (p:Addr) (ms:List Nat) (m:Nat),vs=[.ref p,iV m]/\LsN H p ms/\ms.length<=30/\m<=12/\(∀ x∈ms,x<2^m)/\∀ (r:Addr) (R:List Nat) (H':Hp),Ext H H'->H r=none->LsN H' r R->R.length<=8->(∀ x∈R,x<2^m)->Q (.ref r) H'
theorem inV_iv (x:Nat):∀ l:List Nat,inV (iV x) (l.map iV)=decide (x∈l)
 | []=>rfl
 | y :: l=>by
  have ih:=inV_iv x l;unfold inV at ih ⊢;rw[hBf,hCx,ih];by_cases e:x=y
  ·subst e;simp[eqV]
  ·have:¬((y:Int)=(x:Int)):=fun z=>e (by omega)
   simp[eqV,e,this]
theorem flat_iv:∀ l:List Nat,(l.map iV).all qGy=true
 | []=>rfl
 | _ :: l=>by rw[hBf,List.all_cons,flat_iv l];rfl
section
variable {P:Program} {w:World} {K:PySem.W.Frag} {mg:Str->Option Value} {base:Heap} {f f1 f2:Addr} {fd fd1 fd2:FuncData}
noncomputable abbrev crsN:List Str:=["_law_base","_law_many","_law_tops","_law_found","_law_k","_law_mask","_law_step"]
theorem scLCr:FnScope crsN ["_law_base","_law_many"] (qAb sLCr):=⟨rfl,rfl,rfl,by decide +kernel,rfl,by decide +kernel,by decide +kernel⟩
theorem ok_lcr (F:Fun K "_law_crossed" "_law_crossed" sLCr f fd) (G:Cl P w K mg base CX0 1 f1 fd1 ["_law_mask"] spLd "_law_lead")
  (G2:Cl P w K mg base CX0 4 f2 fd2 ["_law_masks"] spLSt "_law_steps") (mr:mg "range" = none) :
  FnOk P w K mg base CX0 5 f fd ["_law_base","_law_many"] spLCr:=by
 refine F.ok scLCr (fun vs H Q E h=>?_) (fun cdv A outer s H vs Q E hr h=>?_)
 ·obtain⟨p,S,m,rfl,_⟩:=h;rfl
 obtain⟨p,S,m,rfl,hp,lS,m12,gm,nd,q⟩:=h;have hr1:=hr.mono (j:=1) (by decide);refine⟨_,qAa (qFi (i:=2) (N:=crsN) (sc:=qAb sLCr) (N':=["_law_step"]) (sub:=[none]) rfl rfl (CmpOk.of (by decide +kernel)) rfl (qAn (pv 0))
   (fun C s H fp=>⟨qAd (i:=0) (by show(["_law_step"]:List Str).Nodup;decide) rfl (Or.inl rfl),qAy,qAp G hr1 rfl .nil qAo (pa_cons (pv 0) pa_nil)⟩) scLCr.nd rfl (Or.inl rfl))
  (qAa (qAg (i:=3) scLCr.nd rfl (Or.inl rfl) (pe_lst pa_nil))
  (qAa (qAz PassesOwn.never rfl (qAw rfl mr (pa_cons (pv 1) pa_nil)) (qAd (i:=4) scLCr.nd rfl (Or.inl rfl))
   (pss_one (qBf (qAk qDb (qAh qBx qAc (pv 4)) (pv 2) (by with_unfolding_all rfl))
    (qAa (qAg (i:=5) scLCr.nd rfl (Or.inl rfl) (qAh qBx qAc (pv 4)))
    (qAa (qAz PassesOwn.never rfl (qAn (pv 0)) (qAd (i:=6) scLCr.nd rfl (Or.inl rfl))
     (pss_one (qBf (qAk qBl (qAh qBg (qAh qFa (pv 6) (pv 4)) qAc) qAc (qAq _))
      (pss_one (qAg (i:=5) scLCr.nd rfl (Or.inl rfl) (qAh qBa (pv 5) (qAp G hr1 rfl .nil qAo (pa_cons (pv 6) pa_nil))))) qAu)))
    (pss_one (ps_expr (pe_bm hAq hB5 hB6 mt_append (pv 3) (pa_cons (pv 5) pa_nil))))))
    qAu)))
  (pss_one (ps_ret (qAp G2 hr rfl .nil qAo (pa_cons (pv 3) pa_nil)))))),?_⟩
 try dsimp only[Cx.wish,qBy]
 refine⟨_,rfl,p,rfl,⟨_,SqL.of hp⟩,?_⟩;refine qBs (fun _=>true) (fun z=>2^lo z) hp (by omega) (fun z hz C B c b=>⟨Sle.set _ (Sle.refl _) (fun u z=>by cases z),?_⟩) ?_
 ·refine iteT (B:=B H) ⟨_,rfl,_,rfl,?_⟩;have:=c rfl;rw[show iV (2^lo z)=V.int (ldI (z:Int)) by rw[qE2 (gm z hz).2]]at this;exact this
 intro l1 hl1;have hfl:((S.filter fun _=>true).map fun z=>2^lo z)=S.map fun z=>2^lo z:=by rw[List.filter_eq_self.mpr (fun _ _=>rfl)]
 rw[hfl];have n1:=Ext.new hl1 (.lst ((S.map fun z=>2^lo z).map iV));refine⟨hAp _,fun fo fo1=>?_⟩;have fo0:=n1.none fo1;have n2:=n1.trans (Ext.new fo1 (.lst []));have h1:LsN (upd H l1 (.lst ((S.map fun z=>2^lo z).map iV))) l1 (S.map fun z=>2^lo z):=upd_same;have h2:=(Ext.new fo1 (.lst [])) _ _ h1;have lfo:l1≠fo:=qAe h1 fo1;have hfo2:LsN (upd (upd H l1 (.lst ((S.map fun z=>2^lo z).map iV))) fo (.lst [])) fo []:=upd_same;revert n2 h2 hfo2;generalize upd (upd H l1 (.lst ((S.map fun z=>2^lo z).map iV))) fo (.lst [])=H2;intro n2 h2 hfo2;refine⟨_,rfl,(m:Int),rfl,by omega,by omega,?_⟩;refine qA7 (lo:=0) (n:=((m:Int)).toNat) (fun i σ H'=>∃ (x4 x5 x6:Option V),σ=[some (.ref p),some (iV m),some (.ref l1),some (.ref fo),x4,x5,x6]/\Ext H H'/\LsN H' l1 (S.map fun z=>2^lo z)/\LsN H' fo (crLA S i)) ⟨none,none,none,rfl,n2,h2,hfo2⟩ ?_ ?_
 ·rintro i σ H' hi ⟨x4,x5,x6,rfl,e,ht,hf⟩;have hi':i<m:=by omega
  have ci:(0+(i:Int))=((i:Nat):Int):=by omega
  have sn:crLA S (i+1)=crLA S i++(if i∈S.map lo then [] else [crLM S i]):=by
   unfold crLA;rw[hC9,hBc,hA3];congr 1;by_cases c:i∈S.map lo
   ·rw[List.filter_cons_of_neg (by rw[decide_eq_true c];decide),if_pos c];rfl
   ·rw[List.filter_cons_of_pos (by rw[decide_eq_false c];rfl),if_neg c];rfl
  rw[ci];refine⟨_,rfl,_,_,rfl,rfl,⟨by omega,by omega,by decide⟩,_,rfl,l1,_,rfl,.inl (SqL.of ht),rfl,flat_iv _,_,rfl,?_⟩;have key:inV (V.int (1*2^((i:Nat):Int).toNat)) ((S.map fun z=>2^lo z).map iV)=decide (i∈S.map lo):=by
   rw[qA8,inV_iv];refine decide_eq_decide.mpr ⟨fun z=>?_,fun z=>?_⟩
   ·obtain⟨s,hs,e⟩:=hA9.mp z;exact hA9.mpr ⟨s,hs,(Nat.pow_right_inj (a:=2) (by decide)).mp e⟩
   ·obtain⟨s,hs,e⟩:=hA9.mp z;exact hA9.mpr ⟨s,hs,by rw[e]⟩
  rw[if_pos rfl];show if (!inV (V.int (1*2^((i:Nat):Int).toNat)) ((S.map fun z=>2^lo z).map iV))=true then _ else _
  rw[key];refine qBw (fun c=>?_) (fun c=>?_)
  ·have c':i∉S.map lo:=by simpa using c
   refine⟨_,rfl,_,_,rfl,rfl,⟨by omega,by omega,by decide⟩,?_⟩;refine⟨_,rfl,p,rfl,⟨_,SqL.of (e _ _ hp)⟩,?_⟩;refine qA2 (xs:=S.map iV) (fun j σ H3=>H3=H'/\∃ x6:Option V,σ=[some (.ref p),some (iV m),some (.ref l1),some (.ref fo),some (iV i),some (iV (crLM (S.take j) i)),x6]) ⟨rfl,x6,?_⟩ (fun j σ H3 _ h=>by rw[h.1];exact SqL.of (e _ _ hp)) ?_ ?_
   ·rw[show crLM (S.take 0) i=2^i by simp[crLM],show iV (2^i)=V.int (1*2^((i:Nat):Int).toNat) by rw[qA8]];rfl
   ·rintro j v σ H3 hx2 ⟨rfl,x6,rfl⟩;obtain⟨s,rfl,hs⟩:=qA1 hx2;have st:crLM (S.take (j+1)) i=crLM (S.take j) i+(if s.testBit i=true then 2^lo s else 0):=by
     unfold crLM;rw[qAm hs,hBc,hA3,List.sum_append];by_cases c:s.testBit i=true
     ·simp[c,Nat.add_assoc]
     ·simp[c]
    refine⟨_,rfl,_,rfl,_,_,rfl,rfl,(by show(0:Int)<=_;omega),_,_,rfl,rfl,rfl,_,rfl,?_⟩;have key2:(decide (V.int (Builtin.bitAnd ((s:Int) / 2^((i:Nat):Int).toNat) 1)=V.int 1)=true)↔s.testBit i=true:=by
     rw[decide_eq_true_iff,V.int.injEq,hB4,qC6];by_cases b:s.testBit i=true
     ·simp[b]
     ·simp[b]
    refine qBw (fun c2=>?_) (fun c2=>?_)
    ·refine⟨_,rfl,_,rfl,_,rfl,_,_,rfl,rfl,rfl,some (iV s),?_⟩;rw[st,if_pos (key2.mp c2),show iV (crLM (S.take j) i+2^lo s)=V.int (((crLM (S.take j) i:Nat):Int)+ldI (s:Int)) by rw[qE2 (gm s (hAd hs)).2,<-hDt]];rfl
    ·refine⟨rfl,some (iV s),?_⟩;rw[st,if_neg fun z=>c2 (key2.mpr z),Nat.add_zero];rfl
   ·rintro σ H3 ⟨rfl,x6,rfl⟩;rw[hA1,hA6 (hA5 _)];have:=crLA_len S i;refine⟨_,rfl,.inl ⟨rfl,_,SqL.of hf⟩,_,rfl,fo,_,_,rfl,rfl,hf,by rw[hA1];exact qAf (by omega),?_⟩;refine⟨_,_,_,rfl,e.over fo0 _,?_,?_⟩
    ·unfold LsN;rw[upd_ne lfo];exact ht
    ·unfold LsN;rw[upd_same,sn,if_neg c',hA3];rfl
  ·have c':i∈S.map lo:=by simpa using c
   refine⟨_,_,_,rfl,e,ht,?_⟩;rw[sn,if_pos c',hBe];exact hf
 ·rintro σ H' ⟨x4,x5,x6,rfl,e,ht,hf⟩;rw[hB4]at hf;have:=crLA_len S m;exact⟨_,rfl,fo,crLA S m,m,rfl,hf,by omega,by omega,crLA_lt gm nd,fun r R H3 e3 r0 hR pR oR=>q r R H3 (e.trans e3) (e.none r0) hR pR oR⟩
noncomputable abbrev bouN:List Str:=["_law_masks","_law_many","_law_base","_law_k"]
theorem scBou:FnScope bouN ["_law_masks","_law_many"] (qAb sBou):=⟨rfl,rfl,rfl,by decide +kernel,rfl,by decide +kernel,by decide +kernel⟩
theorem ok_bou (F:Fun K "_law_bounded" "_law_bounded" sBou f fd)
  (G2:Cl P w K mg base CX0 4 f2 fd2 ["_law_masks"] spLSt "_law_steps") (mr:mg "range" = none) (ml:mg "len" = none) :
  FnOk P w K mg base CX0 5 f fd ["_law_masks","_law_many"] spBou:=by
 refine F.ok scBou (fun vs H Q E h=>?_) (fun cdv A outer s H vs Q E hr h=>?_)
 ·obtain⟨p,S,m,rfl,_⟩:=h;rfl
 obtain⟨p,ms,m,rfl,hp,lS,m12,lt,q⟩:=h;refine⟨_,qAa (qAg (i:=2) scBou.nd rfl (Or.inl rfl) (qEg sl_list (qAp G2 hr rfl .nil qAo (pa_cons (pv 0) pa_nil)) qGd (qGc qAc)))
  (qAa (qAz PassesOwn.never rfl (qAw rfl mr (pa_cons (pv 1) pa_nil)) (qAd (i:=3) scBou.nd rfl (Or.inl rfl))
   (pss_one (qBf (qAk op_gt (qAh qCp (pv 1) (qAj qAi rfl ml hAw (pa_cons (pv 2) pa_nil))) qAc (qAq _))
    (pss_one (qAg (i:=2) scBou.nd rfl (Or.inl rfl) (qAp G2 hr rfl .nil qAo (pa_cons (qAh qCf (pv 2) (pe_lst (pa_cons (qAh qBx qAc (pv 3)) pa_nil))) pa_nil)))) qAu)))
  (pss_one (ps_ret (pv 2)))),?_⟩
 try dsimp only[Cx.wish,qBy]
 refine⟨_,rfl,p,ms,m,rfl,hp,by omega,by omega,lt,fun r S H1 e1 r0 hS pS oS=>?_⟩;have st:Stp m S:=⟨ms,lt,pS,oS⟩;refine⟨_,rfl,r,_,rfl,SqL.of hS,fun l hl=>?_⟩;rw[show cutV (S.map iV) none (some 8)=(S.take 8).map iV by rw[show(8:Int)=((8:Nat):Int) from rfl,cut_to,List.map_take]];refine⟨_,rfl,(m:Int),rfl,by omega,by omega,?_⟩;refine qA7 (lo:=0) (n:=((m:Int)).toNat) (fun i σ H'=>∃ (x3:Option V) (b:Addr) (B:List Nat),σ=[some (.ref p),some (iV m),some (.ref b),x3]/\Ext H H'/\H b=none/\LsN H' b B/\B.length<=8/\∀ x∈B,x<2^m) ⟨none,l,S.take 8,rfl,e1.trans (Ext.new hl _),e1.none hl,upd_same,by rw[hAi];omega,fun x hx=>st.lt x (hC7 hx)⟩ ?_ ?_
 ·rintro i σ H' hi ⟨x3,b,B,rfl,e,b0,hB,lB,ltB⟩;have hi':i<m:=by omega
  rw[show(0+(i:Int))=((i:Nat):Int) by omega];refine⟨_,rfl,_,rfl,b,_,rfl,.inl (SqL.of hB),_,_,rfl,rfl,_,_,rfl,rfl,_,rfl,?_⟩;rw[hA1];refine qBw (fun c=>?_) (fun c=>?_)
  ·have c':(8:Int)<(m:Int) - (B.length:Nat):=of_decide_eq_true c;refine⟨_,rfl,_,rfl,_,_,rfl,rfl,⟨by omega,by omega,by decide⟩,(by show 1<=sizeLine;decide),fun l2 hl2=>?_⟩;have n2:=Ext.new hl2 (.lst [V.int (1*2^((i:Nat):Int).toNat)]);refine⟨b,l2,_,_,rfl,rfl,n2 _ _ hB,upd_same,?_,fun l3 hl3=>?_⟩
   ·rw[hA1];show _+1<=sizeLine;exact hBd (qAf (by omega))
   have ev:B.map iV++[V.int (1*2^((i:Nat):Int).toNat)]=(B++[2^i]).map iV:=by rw[qA8,hA3];rfl
   rw[ev];have E3:=(e.trans n2).trans (Ext.new hl3 (.lst ((B++[2^i]).map iV)));have lt3:∀ x∈B++[2^i],x<2^m:=fun x hx=>by
    rcases hAb.mp hx with h | h
    ·exact ltB x h
    ·rw[hA4.mp h];exact hD7 (by decide) hi'
   refine⟨l3,B++[2^i],m,rfl,upd_same,by rw[hA7];show _+1<=5000;omega,by omega,lt3,fun r2 R H4 e4 r20 hR pR oR=>?_⟩;have lR:R.length<=8:=by
    rw[pR.length_eq];refine hAr (redL_le _) ?_;rw[hA7];show _+1<=8;omega
   have sR:Stp m R:=⟨_,lt3,pR,oR⟩;exact⟨_,r2,R,rfl,E3.trans e4,E3.none r20,hR,lR,sR.lt⟩
  ·exact⟨_,b,B,rfl,e,b0,hB,lB,ltB⟩
 ·rintro σ H' ⟨x3,b,B,rfl,e,b0,hB,lB,ltB⟩;exact⟨_,rfl,q b B H' e b0 hB lB ltB⟩
end
end My
namespace My
open PySem L2
def tCutE (t:TS):TS:=fun D σ H=>∃ Pm:St->Hp->Prop,t { D with nx:=Pm } σ H/\∀ σ' H',Pm σ' H'->D.nx σ' H'
theorem qBd {X:Cx} {st:Stmt} {t:TS} (h:PS X st t):PS X st (tCutE t):=by
 intro pins s σ H D I hw;obtain⟨Pm,h1,h2⟩:=hw;refine thn (h pins s σ H { D with nx:=Pm } I h1) fun fl s' q=>?_
 cases fl with
 | next=>obtain⟨σ',H',I',q⟩:=q;exact⟨σ',H',I',h2 σ' H' q⟩
 | brk=>exact q
 | cont=>exact q
 | ret _=>exact q
theorem boot_set7:bootBuiltins "set" = some (.type "set"):=by decide +kernel
theorem qEr:bootBuiltins "max" = some (.builtin "max"):=by decide +kernel
def Dr (d:Addr) (H H':Hp):Prop:=(∃ q:Int,H' d=some (.lst [.int q]))/\∀ b o,b≠d->H b=some o->H' b=some o
section
variable {d:Addr} {H H1 H2:Hp}
theorem Dr.refl {n:Int} (h:H d=some (.lst [.int n])):Dr d H H:=⟨⟨n,h⟩,fun _ _ _ q=>q⟩
theorem Dr.ext (h:Dr d H H1) (e:Ext H1 H2):Dr d H H2:=⟨let ⟨q,z⟩:=h.1;⟨q,e _ _ z⟩,fun b o n q=>e _ _ (h.2 b o n q)⟩
theorem Dr.trans (h:Dr d H H1) (e:Dr d H1 H2):Dr d H H2:=⟨e.1,fun b o n q=>e.2 b o n (h.2 b o n q)⟩
theorem Dr.take (h:Dr d H H1) (q:Int):Dr d H (upd H1 d (.lst [.int q])):=⟨⟨q,upd_same⟩,fun b o n z=>by rw[upd_ne n];exact h.2 b o n z⟩
theorem Dr.of_upd {q:Int} (e:Ext (upd H d (.lst [.int q])) H1):Dr d H H1:=⟨⟨q,e _ _ upd_same⟩,fun b o n z=>e _ _ (by rw[upd_ne n];exact z)⟩
theorem Dr.ne (h:Dr d H H1) {r:Addr} (hr:H1 r=Option.none):r≠d:=fun e=>by
 obtain⟨q,z⟩:=h.1;rw[e,z]at hr;cases hr
theorem Dr.none (h:Dr d H H1) {r:Addr} (hr:H1 r=Option.none):H r=Option.none:=by
 cases q:H r with
 | none=>rfl
 | some o=>rw[h.2 r o (h.ne hr) q]at hr;cases hr
theorem Dr.over (h:Dr d H H1) {r:Addr} (hr:H r=Option.none) (n:r≠d) (o:HO):Dr d H (upd H1 r o):=⟨let ⟨q,z⟩:=h.1;⟨q,by rw[upd_ne (Ne.symm n)];exact z⟩,fun b u nb z=>by rw[upd_ne (qAe z hr)];exact h.2 b u nb z⟩
theorem Dr.new (h:Dr d H H1) {r:Addr} (hr:H1 r=Option.none) (o:HO):Dr d H (upd H1 r o):=h.over (h.none hr) (h.ne hr) o
end
theorem qDk {d r:Addr} {H:Hp} {n:Int} (hd:H d=some (.lst [.int n])) (hr:H r=none):r≠d:=fun e=>by rw[e,hd]at hr;cases hr
theorem kept_upd {H:Hp} {p r:Addr} {ts:List (Nat×Nat)} {o:HO} {xs:List V} (hr:H r=none\/H r=some (.lst xs)) (np:p≠r) (h:qGu H p ts):qGu (upd H r o) p ts:=by
 obtain⟨as,h1,h2⟩:=h;refine⟨as,by rw[upd_ne np];exact h1,Paired.mapP h2 fun a t z=>?_⟩;rw[upd_ne]
 ·exact z
 ·intro x;rcases hr with q | q <;> rw[x,q]at z <;> cases z
def spTi:Sp:=fun vs H Q _=>∃ (d:Addr) (n:Int) (m:Nat),vs=[.ref d,iV m]/\H d=some (.lst [.int n])/\m<=12/\∀ (r:Addr) (ts:List (Nat×Nat)) (H':Hp),Dr d H H'->H r=none->qGu H' r ts->ts.length<=m->Q (.ref r) H'
structure TiS (d:Addr) (H H':Hp) (r h:Addr) (hs:List Nat) (ts:List (Nat×Nat)):Prop where
 dr:Dr d H H'
 r0:H r=none
 h0:H h=none
 rd:r≠d
 hd:h≠d
 rh:r≠h
 hh:LsN H' h hs
 kt:qGu H' r ts
theorem TiS.ext {d:Addr} {H H' H2:Hp} {r h:Addr} {hs:List Nat} {ts:List (Nat×Nat)} (x:TiS d H H' r h hs ts) (e:Ext H' H2):TiS d H H2 r h hs ts:=by
 obtain⟨as,h1,h2⟩:=x.kt;exact⟨x.dr.ext e,x.r0,x.h0,x.rd,x.hd,x.rh,e _ _ x.hh,as,e _ _ h1,Paired.mapP h2 fun a t z=>e _ _ z⟩
theorem TiS.take {d:Addr} {H H':Hp} {r h:Addr} {hs:List Nat} {ts:List (Nat×Nat)} (x:TiS d H H' r h hs ts) (q:Int):TiS d H (upd H' d (.lst [.int q])) r h hs ts:=by
 obtain⟨q0,z⟩:=x.dr.1;exact⟨x.dr.take q,x.r0,x.h0,x.rd,x.hd,x.rh,by unfold LsN;rw[upd_ne x.hd];exact x.hh,kept_upd (.inr z) x.rd x.kt⟩
theorem TiS.heaps {d:Addr} {H H':Hp} {r h:Addr} {hs hs':List Nat} {ts:List (Nat×Nat)} (x:TiS d H H' r h hs ts):TiS d H (upd H' h (.lst (hs'.map iV))) r h hs' ts :=
 ⟨x.dr.over x.h0 x.hd _,x.r0,x.h0,x.rd,x.hd,x.rh,upd_same,kept_upd (.inr x.hh) x.rh x.kt⟩
theorem qFk {ms:List Nat} {i:Nat} (h:i<ms.length):atI (ms.map iV) ((i:Nat):Int)=some (iV ms[i]):=qB5 (by rw[hAs,hA2 h];rfl)
section
variable {P:Program} {w:World} {K:PySem.W.Frag} {mg:Str->Option Value} {base:Heap} {f f1 f2:Addr} {fd fd1 fd2:FuncData}
noncomputable abbrev tiN:List Str:=["_law_draw","_law_many","_law_ties_here","_law_heaps_here","_law_step","_law_way","_law_one","_law_other","_law_deep","_law_joins","_law_low","_law_high"]
theorem scTi:FnScope tiN ["_law_draw","_law_many"] (qAb sTies):=⟨rfl,rfl,rfl,by decide +kernel,rfl,by decide +kernel,by decide +kernel⟩
theorem or_if {tA tB':TT} {t u:TS} {D:Ends} {σ:St} {H:Hp} (hA:∀ Q:Bool->Hp->Prop,(∀ c,Q c H)->tA σ H Q) (hB:∀ Q:Bool->Hp->Prop,(∀ c,Q c H)->tB' σ H Q) (ht:t D σ H) (hu:u D σ H):tIfS (tOr tA tB') t u D σ H :=
 hA _ fun c=>by
  cases c
  ·exact iteF (hB _ fun c=>qBw (fun _=>ht) (fun _=>hu))
  ·exact iteT (iteT ht)
theorem ok_ti (F:Fun K "_law_ties" "_law_ties" sTies f fd) (G:Cl P w K mg base CX0 1 f1 fd1 ["_law_draw","_law_many"] qDo "_law_take")
  (mr:mg "range" = none) (ml:mg "len" = none) (mst:mg "set" = none) (mmi:mg "min" = none) (mma:mg "max" = none) (mi:mg "int" = none) :
  FnOk P w K mg base CX0 2 f fd ["_law_draw","_law_many"] spTi:=by
 refine F.ok scTi (fun vs H Q E h=>?_) (fun cdv A outer s H vs Q E hr h=>?_)
 ·obtain⟨p,S,m,rfl,_⟩:=h;rfl
 obtain⟨d,n,m,rfl,hd,m12,q⟩:=h;refine⟨_,qAa (qAg (i:=2) scTi.nd rfl (Or.inl rfl) (pe_lst pa_nil))
  (qAa (qAg (i:=3) scTi.nd rfl (Or.inl rfl) (pe_lst (pa_cons qAc pa_nil)))
  (qAa (qAz PassesOwn.never rfl (qAw rfl mr (pa_cons (pv 1) pa_nil)) (qAd (i:=4) scTi.nd rfl (Or.inl rfl))
   (qAa (qAg (i:=5) scTi.nd rfl (Or.inl rfl) (qAp G hr rfl .nil qAo (pa_cons (pv 0) (pa_cons qAc pa_nil))))
   (qAa (qAg (i:=6) scTi.nd rfl (Or.inl rfl) (qAp G hr rfl .nil qAo (pa_cons (pv 0) (pa_cons (qAj qAi rfl ml hAw (pa_cons (pv 3) pa_nil)) pa_nil))))
   (qAa (qAg (i:=7) scTi.nd rfl (Or.inl rfl) (qAp G hr rfl .nil qAo (pa_cons (pv 0) (pa_cons (qAj qAi rfl ml hAw (pa_cons (pv 3) pa_nil)) pa_nil))))
   (qAa (qBd (qAg (i:=8) scTi.nd rfl (Or.inl rfl) (qAh qCp (qAj qAi rfl ml hAw (pa_cons (pv 3) pa_nil)) (qAj call_lenSI rfl ml hAw (pa_cons (qA6 (call_setI rfl) rfl mst boot_set7 (pa_cons (pv 3) pa_nil)) pa_nil)))))
   (qAa (qBd (qBf (PW.pt (pw_or (qAk qBl (pv 5) qAc (qAq _)) (pw_or1 (PW.pt (qDq (qAk qBl (pv 5) qAc (qAq _)) (qCl (qAk op_lt (pv 8) qAc (qAq _))))))))
    (qAa (ps_expr (pe_bm hAq hB5 hB6 mt_append (pv 3) (pa_cons (qAj qAi rfl ml hAw (pa_cons (pv 3) pa_nil)) pa_nil)))
    (pss_one (qAg (i:=7) scTi.nd rfl (Or.inl rfl) (qAh qCp (qAj qAi rfl ml hAw (pa_cons (pv 3) pa_nil)) qAc)))) qAu))
   (qAa (qBd (qBf (qAk qBl (pv 5) qAc (qAq _)) (pss_one (qAg (i:=6) scTi.nd rfl (Or.inl rfl) (qAp G hr rfl .nil qAo (pa_cons (pv 0) (pa_cons (qAj qAi rfl ml hAw (pa_cons (pv 3) pa_nil)) pa_nil))))) qAu))
   (qAa (qAg (i:=9) scTi.nd rfl (Or.inl rfl) (qDa qDz (qBv qBe (pv 3) (pv 6) (fun _ _=>rfl)) (qBv qBe (pv 3) (pv 7) (fun _ _=>rfl)) (qAq _)))
   (pss_one (qBf (PW.pt (pw_or (PW.pt (qDq (qE9 (pv 9)) (qCl (qAk op_lt (pv 8) qAc (qAq _))))) (pw_or1 (PW.pt (qDq (qG6 (qE9 (pv 9))) (qCl (qAk op_lt (qAh qCp (qAj qAi rfl ml hAw (pa_cons (pv 2) pa_nil)) (pv 8)) qAc (qAq _))))))))
    (qAa (ps_expr (pe_bm hAq hB5 hB6 mt_append (pv 2) (pa_cons (qCe (pa_cons (qAj (qCq rfl) rfl mmi qCr (pa_cons (pv 6) (pa_cons (pv 7) pa_nil))) (pa_cons (qAj (qGq rfl) rfl mma qEr (pa_cons (pv 6) (pa_cons (pv 7) pa_nil))) pa_nil))) pa_nil)))
    (qAa (qAg (i:=10) scTi.nd rfl (Or.inr rfl) (qAj (qCq rfl) rfl mmi qCr (pa_cons (qBv qBe (pv 3) (pv 6) (fun _ _=>rfl)) (pa_cons (qBv qBe (pv 3) (pv 7) (fun _ _=>rfl)) pa_nil))))
    (qAa (qAg (i:=11) scTi.nd rfl (Or.inr rfl) (qAj (qGq rfl) rfl mma qEr (pa_cons (qBv qBe (pv 3) (pv 6) (fun _ _=>rfl)) (pa_cons (qBv qBe (pv 3) (pv 7) (fun _ _=>rfl)) pa_nil))))
    (pss_one (qFi (i:=3) (N:=tiN) (sc:=qAb sTies) (N':=["_law_heap","_law_low","_law_high"]) (sub:=[none,some 10,some 11]) rfl rfl (CmpOk.of (by decide +kernel)) rfl (qAn (pv 3))
     (fun C s H fp=>⟨qAd (i:=0) (by show(["_law_heap","_law_low","_law_high"]:List Str).Nodup;decide) rfl (Or.inl rfl),qAy,qBv (show IxR _ (rIxL K) from qBe) (pe_lst (pa_cons (pv 0) (pa_cons (pv 1) pa_nil))) (qA6 qDh rfl mi qDi (pa_cons (qDa qBl (pv 0) (pv 2) (qAq _)) pa_nil)) (fun _ _=>rfl)⟩) scTi.nd rfl (Or.inl rfl))))))
    qAu))))))))))
  (pss_one (ps_ret (pv 2))))),?_⟩
 try dsimp only[Cx.wish,qBy]
 refine⟨hAp _,fun r r0=>?_⟩;refine⟨(by show 1<=sizeLine;decide),fun h h1=>?_⟩;have d1:=(Dr.refl hd).new r0 (.lst []);have d2:=d1.new h1 (.lst [.int 0]);have rh:r≠h:=fun e=>by rw[<-e,upd_same]at h1;cases h1
 have T0:TiS d H (upd (upd H r (.lst [])) h (.lst [.int 0])) r h [0] []:=⟨d2,r0,d1.none h1,qDk hd r0,d1.ne h1,rh,upd_same,[],by rw[upd_ne rh];exact upd_same,.nil⟩;refine⟨_,rfl,(m:Int),rfl,by omega,by omega,?_⟩;refine qA7 (lo:=0) (n:=((m:Int)).toNat) (fun i σ H'=>∃ (h:Addr) (hs:List Nat) (ts:List (Nat×Nat)) (x4 x5 x6 x7 x8 x9 x10 x11:Option V),σ=[some (.ref d),some (iV m),some (.ref r),some (.ref h),x4,x5,x6,x7,x8,x9,x10,x11]/\TiS d H H' r h hs ts/\0<hs.length/\hs.length<=i+1/\ts.length<=i) ⟨h,[0],[],none,none,none,none,none,none,none,none,rfl,T0,by decide,by decide,by decide⟩ ?_ ?_
 ·rintro i σ H' hi ⟨h,hs,ts,x4,x5,x6,x7,x8,x9,x10,x11,rfl,T,l0,lh,lt⟩;rw[show(0+(i:Int))=((i:Nat):Int) by omega];obtain⟨q0,z0⟩:=T.dr.1;refine⟨_,rfl,d,q0,4,rfl,z0,by decide,by decide,fun q1 way wa wb=>?_⟩;have T1:=T.take q1;refine⟨_,rfl,_,rfl,h,_,rfl,.inl (SqL.of T1.hh),d,q1,_,rfl,upd_same,by rw[hA1];omega,by rw[hA1];omega,fun q2 one oa ob=>?_⟩;rw[qB3];rw[hA1]at ob;have T2:=T.take q2;refine⟨_,rfl,_,rfl,h,_,rfl,.inl (SqL.of T2.hh),d,q2,_,rfl,upd_same,by rw[hA1];omega,by rw[hA1];omega,fun q3 oth ta tb=>?_⟩;rw[qB3];rw[hA1]at tb;have T3:=T.take q3;obtain⟨one,rfl⟩:=hB8 oa;obtain⟨oth,rfl⟩:=hB8 ta;refine⟨fun σ' H2=>∃ deep:Int,σ'=[some (.ref d),some (iV m),some (.ref r),some (.ref h),some (iV i),some (.int way),some (iV one),some (iV oth),some (.int deep),x9,x10,x11]/\TiS d H H2 r h hs ts,?_,?_⟩
  ·refine⟨_,rfl,h,_,rfl,.inl (SqL.of T3.hh),?_⟩;refine⟨_,rfl,h,hs.map fun n:Nat=>(n:Int),rfl,by rw[<-qB4];exact SqL.of T3.hh,by rw[hA1];omega,fun a k a0 hk=>?_⟩;rw[hA1]at hk;exact⟨a,k,rfl,upd_same,by omega,_,_,rfl,rfl,_,rfl,T3.ext (Ext.new a0 _)⟩
  rintro _ H2 ⟨deep,rfl,U⟩;clear T1 T2 T3 T;refine⟨fun σ' H3=>∃ (hs2:List Nat) (oth2:Nat),σ'=[some (.ref d),some (iV m),some (.ref r),some (.ref h),some (iV i),some (.int way),some (iV one),some (iV oth2),some (.int deep),x9,x10,x11]/\TiS d H H3 r h hs2 ts/\0<hs2.length/\hs2.length<=i+2/\one<hs2.length/\oth2<hs2.length,?_,?_⟩
  ·have sz:(hs.map iV).length<sizeLine:=by rw[hA1];exact qAf (by omega)
   have Un:=U.heaps (hs':=hs++[hs.length]);have e2:(((hs++[hs.length]).map iV).length:Int) - 1=((hs.length:Nat):Int):=by rw[hA1,hA7];show((hs.length+1:Nat):Int) - 1=_;omega
   have e1:hs.map iV++[V.int ((hs.map iV).length:Nat)]=(hs++[hs.length]).map iV:=by rw[hA3,hA1];rfl
   refine⟨_,rfl,rfl,_,rfl,qBw (fun c1=>?_) (fun c1=>⟨_,rfl,rfl,_,rfl,qBw (fun c2=>⟨_,rfl,_,_,rfl,rfl,_,rfl,?_⟩) (fun c2=>?_)⟩)⟩
   ·exact iteT (by
    refine⟨_,rfl,.inl ⟨rfl,_,SqL.of U.hh⟩,_,rfl,h,_,rfl,.inl (SqL.of U.hh),h,_,_,rfl,rfl,U.hh,sz,?_⟩;rw[e1];refine⟨_,rfl,h,_,rfl,.inl (SqL.of Un.hh),_,_,rfl,rfl,hs++[hs.length],hs.length,?_,Un,by rw[hA7];exact hE4 _,by rw[hA7];show _+1<=_;omega,by rw[hA7];show _<_+1;omega,by rw[hA7];show _<_+1;omega⟩;rw[show iV hs.length=V.int ((((hs++[hs.length]).map iV).length:Int) - 1) by rw[e2]];rfl)
   ·refine qBw (fun c3=>?_) (fun c3=>⟨hs,oth,rfl,U,l0,by omega,by omega,by omega⟩);exact(by
    refine⟨_,rfl,.inl ⟨rfl,_,SqL.of U.hh⟩,_,rfl,h,_,rfl,.inl (SqL.of U.hh),h,_,_,rfl,rfl,U.hh,sz,?_⟩;rw[e1];refine⟨_,rfl,h,_,rfl,.inl (SqL.of Un.hh),_,_,rfl,rfl,hs++[hs.length],hs.length,?_,Un,by rw[hA7];exact hE4 _,by rw[hA7];show _+1<=_;omega,by rw[hA7];show _<_+1;omega,by rw[hA7];show _<_+1;omega⟩;rw[show iV hs.length=V.int ((((hs++[hs.length]).map iV).length:Int) - 1) by rw[e2]];rfl)
   ·exact iteF ⟨hs,oth,rfl,U,l0,by omega,by omega,by omega⟩
  rintro _ H3 ⟨hs2,oth2,rfl,U3,l20,l2,o1,o2⟩;refine⟨fun σ' H4=>∃ one2:Nat,σ'=[some (.ref d),some (iV m),some (.ref r),some (.ref h),some (iV i),some (.int way),some (iV one2),some (iV oth2),some (.int deep),x9,x10,x11]/\TiS d H H4 r h hs2 ts/\one2<hs2.length,?_,?_⟩
  ·refine⟨_,rfl,rfl,_,rfl,qBw (fun c1=>?_) (fun c1=>⟨one,rfl,U3,o1⟩)⟩;obtain⟨q5,z5⟩:=U3.dr.1;refine⟨_,rfl,_,rfl,h,_,rfl,.inl (SqL.of U3.hh),d,q5,_,rfl,z5,by rw[hA1];omega,by rw[hA1];omega,fun q6 one2 oa2 ob2=>?_⟩;rw[hA1]at ob2;obtain⟨one2,rfl⟩:=hB8 oa2;exact⟨one2,rfl,U3.take q6,by omega⟩
  rintro _ H4 ⟨one2,rfl,U4,o12⟩;refine⟨_,rfl,_,rfl,h,_,_,_,rfl,rfl,SqL.of U4.hh,qFk o12,_,rfl,_,rfl,h,_,_,_,rfl,rfl,SqL.of U4.hh,qFk o2,rfl,?_⟩;generalize (!decide (iV hs2[one2]=iV hs2[oth2]))=jb;have pairN:∀ a b:Nat,(∃ c:Nat,(if (b:Int)<(a:Int) then (b:Int) else (a:Int))=(c:Int))/\∃ c:Nat,(if (b:Int) > (a:Int) then (b:Int) else (a:Int))=(c:Int):=fun a b=>⟨by split <;> exact⟨_,rfl⟩,by split <;> exact⟨_,rfl⟩⟩
  obtain⟨⟨lo1,elo1⟩,hi1,ehi1⟩:=pairN one2 oth2;obtain⟨⟨lo2,elo2⟩,hi2,ehi2⟩:=pairN hs2[one2] hs2[oth2];have lts:ts.length<1000:=by omega
  obtain⟨as,hr1,pr⟩:=U4.kt;have las:=pr.length;dsimp only[gName];refine or_if (fun Q hQ=>?_) (fun Q hQ=>?_) ?_ ?_
  ·refine⟨_,rfl,jb,rfl,?_⟩;cases jb
   ·exact iteF (hQ _)
   ·exact iteT ⟨_,rfl,_,_,rfl,rfl,_,rfl,hQ _⟩
  ·refine⟨_,rfl,jb,rfl,?_⟩;cases jb
   ·exact iteT (B:=Q false H4) ⟨_,rfl,r,_,rfl,.inl (SqL.of hr1),_,rfl,_,_,rfl,rfl,_,_,rfl,rfl,_,rfl,hQ _⟩
   ·exact iteF (hQ _)
  ·refine⟨_,rfl,.inl ⟨rfl,_,SqL.of hr1⟩,_,rfl,_,rfl,_,_,rfl,_,rfl,_,rfl,_,_,rfl,(by show 2<=sizeLine;decide),fun p p0=>?_⟩;rw[elo1,ehi1];have V1:=U4.ext (Ext.new p0 (.tup [iV lo1,iV hi1]));have rp:r≠p:=qAe hr1 p0;have hr2:upd H4 p (.tup [iV lo1,iV hi1]) r=some (.lst (as.map V.ref)):=by rw[upd_ne rp];exact hr1
   refine⟨r,_,_,rfl,rfl,hr2,by rw[hA1,las];exact qAf (by omega),?_⟩;have V2:TiS d H (upd (upd H4 p (.tup [iV lo1,iV hi1])) r (.lst (as.map V.ref++[V.ref p]))) r h hs2 (ts++[(lo1,hi1)]):=by
    refine⟨V1.dr.over V1.r0 V1.rd _,V1.r0,V1.h0,V1.rd,V1.hd,V1.rh,by unfold LsN;rw[upd_ne (Ne.symm V1.rh)];exact V1.hh,as++[p],by rw[upd_same,hA3];rfl,Paired.snoc (Paired.mapP pr fun a t z=>?_) ?_⟩
    ·have ar:a≠r:=fun e=>by rw[e,hr1]at z;cases z
     rw[upd_ne ar,upd_ne (qAe z p0)];exact z
    ·rw[upd_ne (Ne.symm rp),upd_same]
   refine⟨_,rfl,_,rfl,h,_,_,_,rfl,rfl,SqL.of V2.hh,qFk o12,_,rfl,_,rfl,h,_,_,_,rfl,rfl,SqL.of V2.hh,qFk o2,_,_,rfl,?_⟩;refine⟨_,rfl,_,rfl,h,_,_,_,rfl,rfl,SqL.of V2.hh,qFk o12,_,rfl,_,rfl,h,_,_,_,rfl,rfl,SqL.of V2.hh,qFk o2,_,_,rfl,?_⟩;rw[elo2,ehi2];refine⟨_,rfl,h,rfl,⟨_,SqL.of V2.hh⟩,?_⟩;refine qAs (xs:=hs2.map iV) (fun j ys H5=>Ext (upd (upd H4 p (.tup [iV lo1,iV hi1])) r (.lst (as.map V.ref++[V.ref p]))) H5/\∃ ns:List Nat,ys=ns.map iV/\ns.length=j) ⟨Ext.refl _,[],rfl,rfl⟩ (fun j ys H5 _ z=>SqL.of (z.1 _ _ V2.hh)) ?_ ?_
   ·rintro j v ys H5 hx ⟨e5,ns,rfl,ln⟩;obtain⟨x,rfl,hx'⟩:=qA1 hx;have hj:=at_lt hx';have sz:(ns.map iV).length<sizeLine:=by rw[hA1];exact qAf (by omega)
    refine⟨Sle.set _ (Sle.refl _) (fun u z=>by cases z),iteT (B:=False) ⟨_,rfl,_,rfl,(by show 2<=sizeLine;decide),fun l hl=>?_⟩⟩;have n5:=Ext.new hl (.lst [iV x,iV lo2]);refine⟨_,rfl,_,rfl,rfl,.inr ⟨_,rfl,?_⟩⟩;by_cases c:iV x=iV hi2
    ·rw[decide_eq_true c,if_pos rfl];exact⟨l,_,_,iV lo2,rfl,rfl,SqL.of upd_same,rfl,sz,nxt (at_lt hx) ⟨e5.trans n5,ns++[lo2],by rw[hA3];rfl,by rw[hA7,ln];rfl⟩⟩
    ·rw[decide_eq_false c,if_neg (by decide)];exact⟨l,_,_,iV x,rfl,rfl,SqL.of upd_same,rfl,sz,nxt (at_lt hx) ⟨e5.trans n5,ns++[x],by rw[hA3];rfl,by rw[hA7,ln];rfl⟩⟩
   ·rintro ys H5 ⟨e5,ns,rfl,ln⟩ l hl;rw[hA1]at ln;have V5:=V2.ext e5;have V6:=V5.ext (Ext.new hl (.lst (ns.map iV)));have rl:r≠l:=fun e=>by
     obtain⟨as5,h5,_⟩:=V5.kt;rw[<-e,h5]at hl;cases hl
    exact⟨l,ns,_,_,_,_,_,_,_,_,_,rfl,⟨V6.dr,V6.r0,V5.dr.none hl,V6.rd,V5.dr.ne hl,rl,upd_same,V6.kt⟩,by omega,by omega,by rw[hA7];show _+1<=_;omega⟩
  ·exact⟨h,hs2,ts,_,_,_,_,_,_,_,_,rfl,U4,l20,by omega,by omega⟩
 ·rintro σ H' ⟨h,hs,ts,x4,x5,x6,x7,x8,x9,x10,x11,rfl,T,l0,lh,lt⟩;exact⟨_,rfl,q r ts H' T.dr T.r0 T.kt (by omega)⟩
end
end My
namespace My
open PySem L2
def DMk (m:Nat) (kvs:List (Key×V)):Prop:=∀ p∈kvs,(∃ i:Int,p.1=Sum.inl i)/\∃ x:Nat,x<2^m/\p.2=iV x
theorem DMk.nil (m:Nat):DMk m []:=fun p hp=>by cases hp
theorem valV_mem {kvs:List (Key×V)} {k:Key} {v:V} (h:valV kvs k=some v):(k,v)∈kvs:=by
 unfold valV at h;cases e:kvs.find? (fun kv=>decide (kv.1=k)) with
 | none=>rw[e]at h;cases h
 | some p =>
  rw[e]at h;have h1:=List.mem_of_find?_eq_some e;have h2:p.1=k:=of_decide_eq_true (List.find?_some (p:=fun kv:Key×V=>decide (kv.1=k)) e);have h3:p.2=v:=hAu h;rw[<-h2,<-h3];exact h1
theorem DMk.getD {m:Nat} {kvs:List (Key×V)} (h:DMk m kvs) (k:Key):∃ x:Nat,x<2^m/\(valV kvs k).getD (.int 0) = .int ((x:Nat):Int):=by
 cases e:valV kvs k with
 | none=>exact⟨0,hDj (by decide),rfl⟩
 | some v =>
  obtain⟨_,x,hx,ev⟩:=h _ (valV_mem e);exact⟨x,hx,ev⟩
theorem DMk.val {m:Nat} {kvs:List (Key×V)} (h:DMk m kvs) {p:Key×V} (hp:p∈kvs):∃ x:Nat,x<2^m/\valV kvs p.1=some (iV x):=by
 cases e:valV kvs p.1 with
 | none =>
  exfalso;unfold valV at e;rw[Option.map_eq_none_iff,List.find?_eq_none]at e;exact e p hp (decide_eq_true rfl)
 | some v =>
  obtain⟨_,x,hx,ev⟩:=h _ (valV_mem e);exact⟨x,hx,by rw[show v=iV x from ev]⟩
theorem DMk.put {m:Nat} {kvs:List (Key×V)} (h:DMk m kvs) (i:Int) {x:Nat} (hx:x<2^m):DMk m (putK kvs (Sum.inl i) (iV x)):=by
 intro p hp;unfold putK at hp;split at hp
 ·obtain⟨q,hq,rfl⟩:=hA9.mp hp;split
  ·exact⟨(h q hq).1,x,hx,rfl⟩
  ·exact h q hq
 ·rcases hAb.mp hp with z | z
  ·exact h p z
  ·rw[hA4.mp z];exact⟨⟨i,rfl⟩,x,hx,rfl⟩
theorem put_len (kvs:List (Key×V)) (k:Key) (v:V):(putK kvs k v).length<=kvs.length+1:=by
 unfold putK;split
 ·rw[hA1];omega
 ·rw[hA7];exact hA5 _
def spStM:Sp:=fun vs H Q _=>∃ (p:Addr) (ts:List (Nat×Nat)),vs=[.ref p]/\qGu H p ts/\ts.length<=12/\∀ (r:Addr) (ms:List Nat) (H':Hp),Ext H H'->H r=none->LsN H' r ms->ms.length<=2*ts.length->(∀ x∈ms,x<2^ts.length)->Q (.ref r) H'
theorem xor_lt2 {m x k:Nat} (hx:x<2^m) (hk:k<m):x^^^2^k<2^m:=hCf hx (hD7 (by decide) hk)
section
variable {P:Program} {w:World} {K:PySem.W.Frag} {mg:Str->Option Value} {base:Heap} {f f1 f2 f3:Addr} {fd fd1 fd2 fd3:FuncData}
noncomputable abbrev smN:List Str:=["_law_ties_here","_law_around","_law_k","_law_one","_law_other"]
theorem scStM:FnScope smN ["_law_ties_here"] (qAb sStM):=⟨rfl,rfl,rfl,by decide +kernel,rfl,by decide +kernel,by decide +kernel⟩
theorem ok_stM (F:Fun K "_law_star_masks" "_law_star_masks" sStM f fd) (me:mg "enumerate" = none):FnOk P w K mg base CX0 1 f fd ["_law_ties_here"] spStM:=by
 refine F.ok scStM (fun vs H Q E h=>?_) (fun cdv A outer s H vs Q E hr h=>?_)
 ·obtain⟨p,ts,rfl,_⟩:=h;rfl
 obtain⟨p,ts,rfl,⟨as,hp,pr⟩,lt,q⟩:=h;have las:=pr.length;refine⟨_,qAa (qAg (i:=1) scStM.nd rfl (Or.inr rfl) pe_dnewK)
  (qAa (qAz PassesOwn.never rfl (pi_enum rfl me (pa_cons (pv 0) pa_nil)) (qEf rfl (qA4 (qAd (i:=2) scStM.nd rfl (Or.inl rfl)) (qA4 (qEf rfl (qA4 (qAd (i:=3) scStM.nd rfl (Or.inl rfl)) (qA4 (qAd (i:=4) scStM.nd rfl (Or.inl rfl)) qCx))) qCx)))
   (pss_one (qBf (qAk qDz (pv 3) (pv 4) (qAq _))
    (qAa (ps_dput (hu_of hr) (pv 1) (pv 3) (qAh qC2 (pe_dget2 (hu_of hr) (pv 1) (pv 3) qAc ⟨rfl,rfl,rfl,rfl⟩) (qAh qBx qAc (pv 2))) rfl)
    (pss_one (ps_dput (hu_of hr) (pv 1) (pv 4) (qAh qC2 (pe_dget2 (hu_of hr) (pv 1) (pv 4) qAc ⟨rfl,rfl,rfl,rfl⟩) (qAh qBx qAc (pv 2))) rfl)))
    qAu)))
  (pss_one (ps_ret (qBo (N:=smN) (sc:=qAb sStM) (N':=["_law_point","_law_around"]) (sub:=[none,some 1]) rfl rfl (CmpOk.of (by decide +kernel)) rfl (pi_keys (pv 1))
   (fun C s H fp=>⟨qAd (i:=0) (by show(["_law_point","_law_around"]:List Str).Nodup;decide) rfl (Or.inl rfl),qAy,pe_dget (hu_of hr) (pv 1) (pv 0) (fun _ _=>rfl)⟩))))),?_⟩
 try dsimp only[Cx.wish,qBy]
 intro d hd;have n0:=Ext.new hd (.dK []);refine⟨_,rfl,p,_,rfl,SqL.of (n0 _ _ hp),?_⟩;rw[hA1];refine for_pairs (fun i σ H'=>∃ (x2 x3 x4:Option V) (kvs:List (Key×V)),σ=[some (.ref p),some (.ref d),x2,x3,x4]/\Ext H H'/\H' d=some (.dK kvs)/\DMk ts.length kvs/\kvs.length<=2*i) ⟨none,none,none,[],rfl,n0,upd_same,DMk.nil _,by decide⟩ (fun i σ H' _ z=>by obtain⟨_,_,_,_,_,e,_⟩:=z;exact SqL.of (e _ _ hp)) ?_ ?_
 ·rintro i σ H' T hi ⟨x2,x3,x4,kvs,rfl,e,hD,dm,lk⟩ hT;have hi':i<ts.length:=by omega
  obtain⟨t,ht,hat⟩:=qB1 pr (hA2 hi);have gd:(as.map V.ref).getD i .non = .ref as[i]:=by rw[hAk,hAs,hA2 hi];rfl
  have nT:=Ext.new hT (.tup [V.int (i:Nat),(as.map V.ref).getD i .non]);have e2:=e.trans nT;refine⟨T,_,rfl,SqT.of upd_same,rfl,_,_,rfl,_,_,rfl,as[i],_,gd,SqT.of (e2 _ _ hat),rfl,_,_,rfl,_,_,rfl,rfl,rfl,?_⟩;have hD2:=nT _ _ hD;revert e2 hD2;generalize upd H' T (.tup [V.int (i:Nat),(as.map V.ref).getD i .non])=H2;intro e2 hD2;refine⟨_,rfl,_,rfl,rfl,_,rfl,?_⟩;refine qBw (fun c=>?_) (fun c=>?_)
  ·obtain⟨x,hx,ex⟩:=dm.getD (Sum.inl ((t.1:Nat):Int));have b1:=xor_lt2 hx hi';have dm1:=dm.put ((t.1:Nat):Int) b1;have l1:=put_len kvs (Sum.inl ((t.1:Nat):Int)) (iV (x^^^2^i));have ev:∀ x:Nat,(fun i j:Int=>V.int (Builtin.bitXor i j)) ((x:Nat):Int) (1*2^((i:Nat):Int).toNat)=iV (x^^^2^i):=fun x=>by
    show V.int (Builtin.bitXor _ _)=V.int _;rw[qA8,qBm]
   refine⟨_,rfl,d,rfl,.inl ⟨kvs,.inl hD2⟩,_,rfl,_,DGet.k (k:=Sum.inl ((t.1:Nat):Int)) hD2,_,rfl,_,_,rfl,rfl,⟨by omega,by omega,by decide⟩,_,_,ex,rfl,_,rfl,_,rfl,d,_,rfl,DPut.k (k:=Sum.inl ((t.1:Nat):Int)) hD2 (qAf (by omega)),?_⟩;rw[ev];have hD3:upd H2 d (.dK (putK kvs (Sum.inl ((t.1:Nat):Int)) (iV (x^^^2^i)))) d=some (.dK (putK kvs (Sum.inl ((t.1:Nat):Int)) (iV (x^^^2^i)))):=upd_same;have e3:=e2.over hd (.dK (putK kvs (Sum.inl ((t.1:Nat):Int)) (iV (x^^^2^i))));revert hD3 e3 dm1 l1;generalize putK kvs (Sum.inl ((t.1:Nat):Int)) (iV (x^^^2^i))=kv1;intro dm1 l1 hD3 e3;revert hD3 e3;generalize upd H2 d (.dK kv1)=H3;intro hD3 e3;obtain⟨y,hy,ey⟩:=dm1.getD (Sum.inl ((t.2:Nat):Int));have b2:=xor_lt2 hy hi';have dm2:=dm1.put ((t.2:Nat):Int) b2;have l2:=put_len kv1 (Sum.inl ((t.2:Nat):Int)) (iV (y^^^2^i));refine⟨_,rfl,d,rfl,.inl ⟨kv1,.inl hD3⟩,_,rfl,_,DGet.k (k:=Sum.inl ((t.2:Nat):Int)) hD3,_,rfl,_,_,rfl,rfl,⟨by omega,by omega,by decide⟩,_,_,ey,rfl,_,rfl,_,rfl,d,_,rfl,DPut.k (k:=Sum.inl ((t.2:Nat):Int)) hD3 (qAf (by omega)),?_⟩;rw[ev];exact⟨_,_,_,_,rfl,e3.over hd _,upd_same,dm2,by omega⟩
  ·exact⟨_,_,_,kvs,rfl,e2,hD2,dm,by omega⟩
 ·rintro σ H' ⟨x2,x3,x4,kvs,rfl,e,hD,dm,lk⟩;rw[las]at lk;refine⟨_,rfl,d,kvs,rfl,hD,fun o=>?_⟩;have nd:upd H' d (.frz o (.dK kvs)) d=some (.frz o (.dK kvs)):=upd_same;have e9:=e.over hd (.frz o (.dK kvs));revert nd e9;generalize upd H' d (.frz o (.dK kvs))=H9;intro nd e9;refine turns_keys (fun i ys H2=>H2=H9/\∃ ms:List Nat,ys=ms.map iV/\ms.length=i/\∀ x∈ms,x<2^ts.length) ⟨rfl,[],rfl,rfl,fun x hx=>by cases hx⟩ (fun i ys H2 _ h=>by rw[h.1];exact nd) ?_ ?_
  ·rintro i pr' ys H2 hpr ⟨rfl,ms,rfl,lm,ltm⟩;have hi:i<kvs.length:=at_lt hpr;obtain⟨x,hx,hv⟩:=dm.val (hAd hpr);refine⟨Sle.set _ (Sle.refl _) (fun u z=>by cases z),iteT (B:=False) ⟨_,rfl,_,rfl,d,_,rfl,.inl ⟨kvs,pr'.1,.inr ⟨o,nd⟩,rfl,hv.symm⟩,by rw[hA1];exact qAf (by omega),nxt hi ⟨rfl,ms++[x],by rw[hA3];rfl,by rw[hA7,lm];rfl,fun y hy=>?_⟩⟩⟩;rcases hAb.mp hy with z | z
   ·exact ltm y z
   ·rw[hA4.mp z];exact hx
  ·rintro ys H2 ⟨rfl,ms,rfl,lm,ltm⟩ l hl;exact q l ms _ (e9.trans (Ext.new hl _)) (e9.none hl) upd_same (by omega) ltm
end
end My
namespace My
open PySem L2
theorem Stp.len {m:Nat} {S:List Nat} (h:Stp m S):S.length<=m:=by
 have:=List.Nodup.length_le_of_subset (l₂:=List.range m) h.nd fun l hl=>by
  obtain⟨s,hs,rfl⟩:=hA9.mp hl;exact hAt.mpr (lo_lt (h.gm s hs).1 (h.gm s hs).2)
 rw[hA1,hAy]at this;exact this
noncomputable def intD (ms:List Nat):PyData:=.list (ms.map fun n:Nat=>.int (n:Int))
theorem drs_iv {K:PySem.W.Frag} {H:Hp}:∀ ms:List Nat,DRs K H (ms.map iV) (ms.map fun n:Nat=>.int (n:Int))
 | []=>.nil
 | n :: ms=>.cons (.int _) (drs_iv ms)
theorem dr_iv {K:PySem.W.Frag} {H:Hp} {p:Addr} {ms:List Nat} (h:LsN H p ms):DR K H (.ref p) (intD ms):=.lst (SqL.of h) (drs_iv ms)
theorem lay_iv:∀ ms:List Nat,PyData.canLayAll0 (ms.map fun n:Nat=>.int (n:Int))=true/\PyData.depthAll (ms.map fun n:Nat=>.int (n:Int))=0
 | []=>⟨rfl,rfl⟩
 | n :: ms=>by
  obtain⟨h1,h2⟩:=lay_iv ms;refine⟨?_,?_⟩
  ·show(true && PyData.canLayAll0 (ms.map fun n:Nat=>.int (n:Int)))=true;rw[h1];rfl
  ·show max 0 (PyData.depthAll (ms.map fun n:Nat=>.int (n:Int)))=0;rw[h2];rfl
theorem qB2 (ms:List Nat):SeqAt.shaped (intD ms)=true:=by
 obtain⟨h1,h2⟩:=lay_iv ms;show(PyData.canLayAll0 (ms.map fun n:Nat=>.int (n:Int)) && decide (PyData.depthAll (ms.map fun n:Nat=>.int (n:Int))+1<=64))=true;rw[h1,h2];rfl
theorem eqv_nil (ms:List Nat):PyData.eqv (intD ms) (intD [])=decide (ms=[]):=by
 cases ms with
 | nil=>rfl
 | cons a l=>rfl
def spMor:Sp:=fun vs H Q _=>∃ (d:Addr) (n:Int) (m:Nat) (p:Addr) (S:List Nat),vs=[.ref d,iV m,.ref p]/\H d=some (.lst [.int n])/\p≠d/\LsN H p S/\S.length<=20/\m<=11/\(∀ x∈S,x<2^m) /\
 ∀ (T r:Addr) (R:List Nat) (H':Hp),Dr d H H'->H T=none->H' T=some (.tup [iV (m+1),.ref r])->H r=none->LsN H' r R->Stp (m+1) R->Q (.ref T) H'
def spMix:Sp:=fun vs H Q _=>∃ (d:Addr) (n:Int) (m:Nat) (p:Addr) (S:List Nat),vs=[.ref d,iV m,.ref p]/\H d=some (.lst [.int n])/\p≠d/\LsN H p S/\S.length<=8/\m<=12 /\
 ∀ (r:Addr) (R:List Nat) (H':Hp),Dr d H H'->H r=none->LsN H' r R->Stp m R->R.length<=8->Q (.ref r) H'
structure MoS (d:Addr) (H H':Hp) (b:Addr) (B:List Nat) (m l:Nat):Prop where
 dr:Dr d H H'
 bd:b≠d
 hb:LsN H' b B
 len:B.length<=l
 lt:∀ x∈B,x<2^m
theorem MoS.snoc {d:Addr} {H H1:Hp} {b l2 l3:Addr} {B:List Nat} {m l y:Nat} {v:V} (x:MoS d H H1 b B m l) (hl2:H1 l2=none) (hl3:upd H1 l2 (.lst [v]) l3=none) (ev:v=iV y) (hy:y<2^m) :
  MoS d H (upd (upd H1 l2 (.lst [v])) l3 (.lst (B.map iV++[v]))) l3 (B++[y]) m (l+1):=by
 subst ev;have d1:=x.dr.new hl2 (.lst [iV y]);refine⟨d1.new hl3 _,d1.ne hl3,by unfold LsN;rw[upd_same,hA3];rfl,by rw[hA7];exact hCt x.len,fun z hz=>?_⟩;rcases hAb.mp hz with h | h
 ·exact x.lt z h
 ·rw[hA4.mp h];exact hy
theorem MoS.more {d:Addr} {H H1:Hp} {b:Addr} {B:List Nat} {m l:Nat} (x:MoS d H H1 b B m l):MoS d H H1 b B m (l+1):=⟨x.dr,x.bd,x.hb,Nat.le_succ_of_le x.len,x.lt⟩
theorem MoS.take {d:Addr} {H H1:Hp} {b:Addr} {B:List Nat} {m l:Nat} (x:MoS d H H1 b B m l) (q:Int):MoS d H (upd H1 d (.lst [.int q])) b B m l:=⟨x.dr.take q,x.bd,by unfold LsN;rw[upd_ne x.bd];exact x.hb,x.len,x.lt⟩
noncomputable def mxM (os:List Nat) (s j:Nat):Nat:=((((List.range j).filter fun k=>s.testBit k).map fun k=>os.getD k 0).map fun l=>2^l).sum
theorem mxM_on {os:List Nat} {s j:Nat} (h:s.testBit j=true) (hj:j<os.length):mxM os s (j+1)=mxM os s j+2^os[j]:=by
 unfold mxM;rw[hC9,hBc,hA3,hA3,List.sum_append,List.filter_cons_of_pos (by exact h)];simp[hAk,hA2 hj]
theorem mxM_off {os:List Nat} {s j:Nat} (h:¬s.testBit j=true):mxM os s (j+1)=mxM os s j:=by
 unfold mxM;rw[hC9,hBc,List.filter_cons_of_neg (by exact h)];simp
theorem mxM_lt {os:List Nat} {m:Nat} (hl:os.length=m) (nd:os.Nodup) (lt:∀ x∈os,x<m) (s:Nat):mxM os s m<2^m:=by
 have e:(List.range m).map (fun k=>os.getD k 0)=os:=by
  refine List.ext_getElem (by rw[hA1,hAy,hl]) fun i h1 h2=>?_
  simp[hAk,hA2 h2]
 have sub:(((List.range m).filter fun k=>s.testBit k).map fun k=>os.getD k 0).Sublist os:=by
  conv=>rhs;rw[<-e]
  exact(hBb).map _
 exact pows_lt (nd.sublist sub) fun l hl=>lt l (sub.subset hl)
theorem qD1 {α:Type}:∀ (l:List α) (i:Nat) (x:α),l[i]?=some x->([x]++l.eraseIdx i).Perm l
 | [],i,x,h=>by simp at h
 | a :: l,0,x,h=>by
  have:a=x:=by simpa using h
  subst this;exact hCo _
 | a :: l,i+1,x,h=>by
  have ih:=qD1 l i x (by simpa using h);show(x :: a :: l.eraseIdx i).Perm (a :: l);exact(List.Perm.swap _ _ _).trans (List.Perm.cons _ ih)
section
variable {P:Program} {w:World} {K:PySem.W.Frag} {mg:Str->Option Value} {base:Heap} {f f1 f2 f3:Addr} {fd fd1 fd2 fd3:FuncData}
noncomputable abbrev moN:List Str:=["_law_draw","_law_many","_law_base","_law_way","_law_old","_law_new"]
noncomputable abbrev moC:List Str:=["_law_step","_law_new","_law_old"]
theorem scMor:FnScope moN ["_law_draw","_law_many","_law_base"] (qAb sMor):=⟨rfl,rfl,rfl,by decide +kernel,rfl,by decide +kernel,by decide +kernel⟩
theorem ok_mor (F:Fun K "_law_more" "_law_more" sMor f fd) (G:Cl P w K mg base CX0 1 f1 fd1 ["_law_draw","_law_many"] qDo "_law_take")
  (G2:Cl P w K mg base CX0 4 f2 fd2 ["_law_masks"] spLSt "_law_steps") (mma:mg "max" = none) (mi:mg "int" = none) :
  FnOk P w K mg base CX0 5 f fd ["_law_draw","_law_many","_law_base"] spMor:=by
 refine F.ok scMor (fun vs H Q E h=>?_) (fun cdv A outer s H vs Q E hr h=>?_)
 ·obtain⟨d,n,m,p,S,rfl,_⟩:=h;rfl
 obtain⟨d,n,m,p,S,rfl,hd,pd,hp,lS,m11,lt,q⟩:=h;have hr1:=hr.mono (j:=1) (by decide);refine⟨_,qAa (qAg (i:=3) scMor.nd rfl (Or.inl rfl) (qAp G hr1 rfl .nil qAo (pa_cons (pv 0) (pa_cons qAc pa_nil))))
  (qAa (qBd (qAg (i:=4) scMor.nd rfl (Or.inr rfl) (qAh qBx qAc (qAh qDc (qAp G hr1 rfl .nil qAo (pa_cons (pv 0) (pa_cons (qAh qBa (pv 1) qAc) pa_nil))) (qAj (qGq rfl) rfl mma qEr (pa_cons qAc (pa_cons (pv 1) pa_nil)))))))
  (qAa (qBd (qAg (i:=5) scMor.nd rfl (Or.inr rfl) (qAh qBx qAc (pv 1))))
  (qAa (qBd (qBf (PW.pt (qDq (qAk qBl (pv 3) qAc (qAq _)) (qCl (qAk op_gt (pv 1) qAc (qAq _))))) (pss_one (qAg (i:=2) scMor.nd rfl (Or.inl rfl) (qAh qCf (pv 2) (pe_lst (pa_cons (qAh qBa (pv 4) (pv 5)) pa_nil))))) qAu))
  (qAa (qBd (qBf (qAk qBl (pv 3) qAc (qAq _)) (pss_one (qFi (i:=2) (N:=moN) (sc:=qAb sMor) (N':=moC) (sub:=[none,some 5,some 4]) rfl rfl (CmpOk.of (by decide +kernel)) rfl (qAn (pv 2))
   (fun C s H fp=>⟨qAd (i:=0) (by show moC.Nodup;decide) rfl (Or.inl rfl),qAy,qAh qBa (pv 0) (qAh qC3 (pv 1) (qA6 qDh rfl mi qDi (pa_cons (qDa qDz (qAh qBg (pv 0) (pv 2)) qAc (qAq _)) pa_nil)))⟩) scMor.nd rfl (Or.inl rfl))) qAu))
  (qAa (qBd (qBf (qAk qBl (pv 3) qAc (qAq _)) (pss_one (qAg (i:=2) scMor.nd rfl (Or.inl rfl) (qAh qCf (pv 2) (pe_lst (pa_cons (pv 5) pa_nil))))) qAu))
  (qAa (qBd (qBf (PW.pt (qDq (qAk qBl (pv 3) qAc (qAq _)) (qCl (qAk op_gt (pv 1) qAc (qAq _))))) (pss_one (qAg (i:=2) scMor.nd rfl (Or.inl rfl) (qAh qCf (pv 2) (pe_lst (pa_cons (qAh qBa (qAp G hr1 rfl .nil qAo (pa_cons (pv 0) (pa_cons (qAh qBx qAc (pv 1)) pa_nil))) (pv 5)) pa_nil))))) qAu))
  (pss_one (ps_ret (qCe (pa_cons (qAh qBa (pv 1) qAc) (pa_cons (qAp G2 hr rfl .nil qAo (pa_cons (pv 2) pa_nil)) pa_nil))))))))))),?_⟩
 try dsimp only[Cx.wish,qBy]
 refine⟨_,rfl,d,n,5,rfl,hd,by decide,by decide,fun q1 way wa wb=>?_⟩;refine⟨fun σ' H'=>∃ (o:Nat) (q2:Int),σ'=[some (.ref d),some (iV m),some (.ref p),some (.int way),some (iV (2^o)),none]/\H'=upd H d (.lst [.int q2])/\(0<m->o<m),?_,?_⟩
 ·refine⟨_,rfl,_,rfl,_,_,rfl,rfl,d,q1,_,rfl,upd_same,by omega,by omega,fun q2 z za zb=>?_⟩;rw[qB3];have mx:(0:Int)<(if (m:Int) > 1 then (m:Int) else 1):=by split <;> omega
  have z0:=Int.emod_nonneg z (Int.ne_of_gt mx);have z1:=Int.emod_lt_of_pos z mx;obtain⟨o,eo⟩:=hB8 z0;refine⟨_,rfl,_,_,rfl,_,_,rfl,rfl,mx,_,_,rfl,rfl,⟨z0,?_,by decide⟩,o,q2,?_,rfl,fun m0=>?_⟩
  ·refine hDh (Int.lt_of_lt_of_le z1 ?_);split <;> omega
  ·refine congrArg (fun v=>[some (V.ref d),some (iV m),some (V.ref p),some (V.int way),some v,none]) ?_;show V.int (1*2^(z % (if (m:Int) > 1 then (m:Int) else 1)).toNat)=_;rw[eo,qA8]
  ·rw[eo]at z1;split at z1 <;> omega
 rintro _ _ ⟨o,q2,rfl,rfl,om⟩;refine⟨fun σ' H'=>σ'=[some (.ref d),some (iV m),some (.ref p),some (.int way),some (iV (2^o)),some (iV (2^m))]/\H'=upd H d (.lst [.int q2]),?_,?_⟩
 ·refine⟨_,rfl,_,_,rfl,rfl,⟨by omega,by omega,by decide⟩,?_,rfl⟩;refine congrArg (fun v=>[some (V.ref d),some (iV m),some (V.ref p),some (V.int way),some (iV (2^o)),some v]) ?_;show V.int (1*2^((m:Nat):Int).toNat)=_;rw[qA8]
 rintro _ _ ⟨rfl,rfl⟩;have pm:2^m<=2^11:=hB9 (by decide) m11;have pp:2^(m+1)=2^m+2^m:=by rw[Nat.pow_succ];omega
 have p0:0<2^m:=hDj (by decide);have M0:MoS d H (upd H d (.lst [.int q2])) p S (m+1) 20:=⟨(Dr.refl hd).take q2,pd,by unfold LsN;rw[upd_ne pd];exact hp,lS,fun x hx=>by have:=lt x hx;omega⟩;refine⟨fun σ' H'=>∃ b B,σ'=[some (.ref d),some (iV m),some (.ref b),some (.int way),some (iV (2^o)),some (iV (2^m))]/\MoS d H H' b B (m+1) 21/\(way=0\/∀ x∈B,x<2^m),?_,?_⟩
 ·refine⟨_,rfl,rfl,_,rfl,qBw (fun c1=>⟨_,rfl,_,_,rfl,rfl,_,rfl,?_⟩) (fun c1=>iteF ⟨p,S,rfl,M0.more,.inr lt⟩)⟩;have w0:way=0:=by simpa using c1
  refine qBw (fun c2=>?_) (fun c2=>⟨p,S,rfl,M0.more,.inr lt⟩);have m0:0<m:=by have:(0:Int)<(m:Int):=of_decide_eq_true c2;omega
  have ol:2^o<2^m:=hD7 (by decide) (om m0);refine⟨_,rfl,_,rfl,_,rfl,_,_,rfl,rfl,(by show 1<=sizeLine;decide),fun l2 hl2=>?_⟩;have nb:p≠l2:=qAe M0.hb hl2;refine⟨p,l2,_,_,rfl,rfl,by rw[upd_ne nb];exact M0.hb,upd_same,?_,fun l3 hl3=>?_⟩
  ·rw[hA1];show _+1<=sizeLine;exact hBd (qAf (by omega))
  exact⟨l3,S++[2^o+2^m],rfl,M0.snoc hl2 hl3 (by show V.int _=V.int _;rw[hDt]) (by omega),.inl w0⟩
 rintro _ H1 ⟨b,B,rfl,M1,w1⟩;refine⟨fun σ' H'=>∃ b B,σ'=[some (.ref d),some (iV m),some (.ref b),some (.int way),some (iV (2^o)),some (iV (2^m))]/\MoS d H H' b B (m+1) 22,?_,?_⟩
 ·refine⟨_,rfl,rfl,_,rfl,qBw (fun c1=>?_) (fun c1=>⟨b,B,rfl,M1.more⟩)⟩;have w1':way=1:=by simpa using c1
  have ltB:∀ x∈B,x<2^m:=by
   rcases w1 with h | h
   ·omega
   ·exact h
  have lB:=M1.len;refine⟨_,rfl,b,rfl,⟨_,SqL.of M1.hb⟩,?_⟩;refine qAs (xs:=B.map iV) (fun j ys H2=>H2=H1/\∃ ns:List Nat,ys=ns.map iV/\ns.length=j/\∀ x∈ns,x<2^(m+1)) ⟨rfl,[],rfl,rfl,fun x hx=>by cases hx⟩ (fun j ys H2 _ z=>by rw[z.1];exact SqL.of M1.hb) ?_ ?_
  ·rintro j v ys H2 hx ⟨rfl,ns,rfl,ln,ltn⟩;obtain⟨x,rfl,hx'⟩:=qA1 hx;have xl:=ltB x (hAd hx');have hj:=at_lt hx';refine⟨Sle.set _ (Sle.refl _) (fun u z=>by cases z),iteT (B:=False) ?_⟩;refine⟨_,rfl,_,rfl,_,rfl,_,rfl,_,_,rfl,rfl,rfl,.inr ⟨_,rfl,_,_,rfl,rfl,.inl ⟨by omega,by omega⟩,_,_,rfl,rfl,by rw[hA1];exact qAf (by omega),nxt (at_lt hx) ⟨rfl,?_⟩⟩⟩;generalize (!decide (V.int (Builtin.bitAnd (x:Int) ((2^o:Nat):Int))=V.int 0))=c;cases c
   ·refine⟨ns++[x],?_,by rw[hA7,ln];rfl,fun y hy=>?_⟩
    ·rw[hA3];refine congrArg (fun v=>ns.map iV++[v]) ?_;show V.int ((x:Int)+((2^m:Nat):Int)*0)=V.int _;rw[Int.mul_zero,Int.add_zero]
    ·rcases hAb.mp hy with h | h
     ·exact ltn y h
     ·rw[hA4.mp h];omega
   ·refine⟨ns++[x+2^m],?_,by rw[hA7,ln];rfl,fun y hy=>?_⟩
    ·rw[hA3];refine congrArg (fun v=>ns.map iV++[v]) ?_;show V.int ((x:Int)+((2^m:Nat):Int)*1)=V.int _;rw[Int.mul_one,hDt]
    ·rcases hAb.mp hy with h | h
     ·exact ltn y h
     ·rw[hA4.mp h];omega
  ·rintro ys H2 ⟨rfl,ns,rfl,ln,ltn⟩ l hl;rw[hA1]at ln;exact⟨l,ns,rfl,⟨M1.dr.new hl _,M1.dr.ne hl,upd_same,by omega,ltn⟩⟩
 rintro _ H2 ⟨b,B,rfl,M2⟩;refine⟨fun σ' H'=>∃ b B,σ'=[some (.ref d),some (iV m),some (.ref b),some (.int way),some (iV (2^o)),some (iV (2^m))]/\MoS d H H' b B (m+1) 23,?_,?_⟩
 ·refine⟨_,rfl,rfl,_,rfl,qBw (fun c1=>?_) (fun c1=>⟨b,B,rfl,M2.more⟩)⟩;have lB:=M2.len;refine⟨_,rfl,_,rfl,(by show 1<=sizeLine;decide),fun l2 hl2=>?_⟩;have nb:b≠l2:=qAe M2.hb hl2;refine⟨b,l2,_,_,rfl,rfl,by rw[upd_ne nb];exact M2.hb,upd_same,?_,fun l3 hl3=>?_⟩
  ·rw[hA1];show _+1<=sizeLine;exact hBd (qAf (by omega))
  exact⟨l3,B++[2^m],rfl,M2.snoc hl2 hl3 rfl (by omega)⟩
 rintro _ H3 ⟨b,B,rfl,M3⟩;refine⟨fun σ' H'=>∃ b B,σ'=[some (.ref d),some (iV m),some (.ref b),some (.int way),some (iV (2^o)),some (iV (2^m))]/\MoS d H H' b B (m+1) 24,?_,?_⟩
 ·refine⟨_,rfl,rfl,_,rfl,qBw (fun c1=>⟨_,rfl,_,_,rfl,rfl,_,rfl,?_⟩) (fun c1=>iteF ⟨b,B,rfl,M3.more⟩)⟩;refine qBw (fun c2=>?_) (fun c2=>⟨b,B,rfl,M3.more⟩);have lB:=M3.len;obtain⟨q5,z5⟩:=M3.dr.1;refine⟨_,rfl,_,rfl,_,rfl,_,_,rfl,rfl,⟨by omega,by omega,by decide⟩,d,q5,_,rfl,z5,?_,?_,fun q6 z za zb=>?_⟩
  ·show(0:Int)<1*2^((m:Nat):Int).toNat;rw[qA8];omega
  ·show 1*2^((m:Nat):Int).toNat<(1073741824:Int);rw[qA8];omega
  have zb':z<((2^m:Nat):Int):=by
   have:=zb
   change z<1*2^((m:Nat):Int).toNat at this
   rw[qA8]at this;exact this
  obtain⟨z,rfl⟩:=hB8 za;have M4:=M3.take q6;refine⟨_,rfl,_,_,rfl,rfl,(by show 1<=sizeLine;decide),fun l2 hl2=>?_⟩;have nb:b≠l2:=qAe M4.hb hl2;refine⟨b,l2,_,_,rfl,rfl,by rw[upd_ne nb];exact M4.hb,upd_same,?_,fun l3 hl3=>?_⟩
  ·rw[hA1];show _+1<=sizeLine;exact hBd (qAf (by omega))
  exact⟨l3,B++[z+2^m],rfl,M4.snoc hl2 hl3 (by show V.int _=V.int _;rw[hDt]) (by omega)⟩
 rintro _ H4 ⟨b,B,rfl,M4⟩;have lB:=M4.len;refine⟨_,rfl,_,_,rfl,rfl,_,rfl,b,B,m+1,rfl,M4.hb,by omega,by omega,M4.lt,fun r R H5 e5 r0 hR pR oR=>?_⟩;refine⟨(by show 2<=sizeLine;decide),fun T hT=>?_⟩;have d5:=M4.dr.ext e5;have nT:=Ext.new hT (.tup [V.int ((m:Int)+1),.ref r]);exact q T r R _ (d5.new hT _) (d5.none hT) upd_same (M4.dr.none r0) (nT _ _ hR) ⟨B,M4.lt,pR,oR⟩
noncomputable abbrev mxN:List Str:=["_law_draw","_law_many","_law_base","_law_order","_law_still","_law_found","_law_step","_law_mask","_law_k"]
theorem scMix:FnScope mxN ["_law_draw","_law_many","_law_base"] (qAb sMix):=⟨rfl,rfl,rfl,by decide +kernel,rfl,by decide +kernel,by decide +kernel⟩
theorem ok_mix (F:Fun K "_law_mixed_names" "_law_mixed_names" sMix f fd) (G:Cl P w K mg base CX0 1 f1 fd1 ["_law_draw","_law_many"] qDo "_law_take")
  (G2:Cl P w K mg base CX0 4 f2 fd2 ["_law_masks"] spLSt "_law_steps") (mr:mg "range" = none) (mL:mg "list" = none) (ml:mg "len" = none) :
  FnOk P w K mg base CX0 5 f fd ["_law_draw","_law_many","_law_base"] spMix:=by
 refine F.ok scMix (fun vs H Q E h=>?_) (fun cdv A outer s H vs Q E hr h=>?_)
 ·obtain⟨d,n,m,p,S,rfl,_⟩:=h;rfl
 obtain⟨d,n,m,p,S,rfl,hd,pd,hp,lS,m12,q⟩:=h;have hr1:=hr.mono (j:=1) (by decide);refine⟨_,qAa (qAg (i:=3) scMix.nd rfl (Or.inl rfl) (pe_lst pa_nil))
  (qAa (qAg (i:=4) scMix.nd rfl (Or.inl rfl) (qA6 (qEp rfl) rfl mL qBu (pa_cons (qA6 qFc rfl mr qGr (pa_cons (pv 1) pa_nil)) pa_nil)))
  (qAa (ps_while PassesOwn.never (qAk (qG9 (qF7 hr)) (pv 4) (pe_lst pa_nil) (qAq _))
   (pss_one (ps_expr (pe_bm hAq hB5 hB6 mt_append (pv 3) (pa_cons (pe_bm hAq PySem.F.slot_list_pop PySem.F.type_list_pop mt_popAt (pv 4) (pa_cons (qAp G hr1 rfl .nil qAo (pa_cons (pv 0) (pa_cons (qAj qAi rfl ml hAw (pa_cons (pv 4) pa_nil)) pa_nil))) pa_nil)) pa_nil)))))
  (qAa (qAg (i:=5) scMix.nd rfl (Or.inl rfl) (pe_lst pa_nil))
  (qAa (qAz PassesOwn.never rfl (qAn (pv 2)) (qAd (i:=6) scMix.nd rfl (Or.inl rfl))
   (qAa (qAg (i:=7) scMix.nd rfl (Or.inl rfl) qAc)
   (qAa (qAz PassesOwn.never rfl (qAw rfl mr (pa_cons (pv 1) pa_nil)) (qAd (i:=8) scMix.nd rfl (Or.inl rfl))
    (pss_one (qBf (qAk qBl (qAh qBg (qAh qFa (pv 6) (pv 8)) qAc) qAc (qAq _))
     (pss_one (qAg (i:=7) scMix.nd rfl (Or.inl rfl) (qAh qBa (pv 7) (qAh qBx qAc (qBv qBe (pv 3) (pv 8) (fun _ _=>rfl)))))) qAu)))
   (pss_one (ps_expr (pe_bm hAq hB5 hB6 mt_append (pv 5) (pa_cons (pv 7) pa_nil)))))))
  (pss_one (ps_ret (qAp G2 hr rfl .nil qAo (pa_cons (pv 5) pa_nil)))))))),?_⟩
 try dsimp only[Cx.wish,qBy]
 refine⟨hAp _,fun o o0=>?_⟩;have n1:=Ext.new o0 (.lst []);refine⟨_,rfl,(m:Int),rfl,by omega,by omega,fun g g1=>?_⟩;have n2:=n1.trans (Ext.new g1 (.rng 0 (m:Int)));refine⟨g,(m:Int),rfl,upd_same,by omega,by omega,fun st st2=>?_⟩;have st0:=n2.none st2;have n3:=n2.trans (Ext.new st2 (.lst ((List.range ((m:Int)).toNat).map fun (i:Nat)=>V.int (i:Int))));have ho3:LsN (upd (upd (upd H o (.lst [])) g (.rng 0 (m:Int))) st (.lst ((List.range ((m:Int)).toNat).map fun (i:Nat)=>V.int (i:Int)))) o []:=((Ext.new g1 _).trans (Ext.new st2 _)) _ _ upd_same;have hs3:LsN (upd (upd (upd H o (.lst [])) g (.rng 0 (m:Int))) st (.lst ((List.range ((m:Int)).toNat).map fun (i:Nat)=>V.int (i:Int)))) st (List.range m):=by unfold LsN;rw[upd_same,hB4]
 have os:o≠st:=qAe ((Ext.new g1 (.rng 0 (m:Int))) _ _ (upd_same (H:=H) (a:=o) (o:=.lst []))) st2;have dr3:=(Dr.refl hd).ext n3;have od:=qDk hd o0;have sd:=qDk hd st0;refine⟨fun k σ H'=>∃ (oo ss:List Nat),k=ss.length/\σ=[some (.ref d),some (iV m),some (.ref p),some (.ref o),some (.ref st),none,none,none,none]/\Dr d H H'/\LsN H' o oo/\LsN H' st ss/\(oo++ss).Perm (List.range m),⟨_,[],List.range m,rfl,rfl,dr3,ho3,hs3,hCo _⟩,?_⟩;rintro k σ H' ⟨oo,ss,rfl,rfl,dr,hO,hS,pm⟩;have lpm:=pm.length_eq;rw[hA7,hAy]at lpm;refine⟨_,rfl,hAp _,fun e0 he0=>?_⟩;have ne:=Ext.new he0 (.lst []);have drE:=dr.ext ne;have hO':=ne _ _ hO;have hS':=ne _ _ hS;have hE':LsN (upd H' e0 (.lst [])) e0 []:=upd_same;revert drE hO' hS' hE';generalize upd H' e0 (.lst [])=H1;intro drE hO' hS' hE';refine⟨intD ss,intD [],dr_iv hS',dr_iv hE',qB2 _,qB2 _,_,rfl,?_⟩;rw[if_pos rfl,eqv_nil];refine qBw (fun c=>?_) (fun c=>?_)
 ·have s0:0<ss.length:=by
   cases ss with
   | nil=>exact absurd c (by decide)
   | cons a r=>exact hE4 _
  refine⟨fun σ' H2=>∃ k',k'<ss.length/\∃ (oo ss:List Nat),k'=ss.length/\σ'=[some (.ref d),some (iV m),some (.ref p),some (.ref o),some (.ref st),none,none,none,none]/\Dr d H H2/\LsN H2 o oo/\LsN H2 st ss/\(oo++ss).Perm (List.range m),fun σ' H2 z=>z,?_⟩;obtain⟨q0,z0⟩:=drE.1;refine⟨_,rfl,.inl ⟨rfl,_,SqL.of hO'⟩,_,rfl,.inl ⟨rfl,_,SqL.of hS'⟩,_,rfl,_,rfl,st,_,rfl,.inl (SqL.of hS'),d,q0,_,rfl,z0,by rw[hA1];omega,by rw[hA1];omega,fun q1 j ja jb=>?_⟩;rw[hA1]at jb;obtain⟨j,rfl⟩:=hB8 ja;have jl:j<ss.length:=by omega
  have hx:=hA2 jl;have sq:seqIndex? (j:Int) (ss.map iV).length=some j:=by
   have:=PySem.StrLaws.seqIndex_nonneg (i:=(j:Int)) (n:=(ss.map iV).length) (by omega) (by rw[hA1];omega);rw[hB4]at this;exact this
  have drT:=drE.take q1;refine⟨st,ss.map iV,(j:Int),j,iV ss[j],rfl,rfl,by rw[upd_ne sd];exact hS',by omega,by omega,sq,by rw[hAs,hx];rfl,?_⟩;refine⟨o,oo.map iV,iV ss[j],rfl,rfl,by rw[upd_ne os,upd_ne od];exact hO',by rw[hA1];exact qAf (by omega),?_⟩;have le:(ss.eraseIdx j).length=ss.length - 1:=List.length_eraseIdx_of_lt jl;refine⟨_,by omega,oo++[ss[j]],ss.eraseIdx j,rfl,rfl,(drT.over st0 sd _).over o0 od _,?_,?_,?_⟩
  ·unfold LsN;rw[upd_same,hA3];rfl
  ·unfold LsN;rw[upd_ne (Ne.symm os),upd_same,hCh,hCh,hA3,List.map_take,List.map_drop]
  ·refine List.Perm.trans ?_ pm;rw[hBj];refine hCz oo ?_;exact qD1 ss j _ hx
 ·have sn:ss=[]:=by
   cases ss with
   | nil=>rfl
   | cons a r=>exact absurd rfl c
  subst sn;rw[hBe]at pm;have ndo:oo.Nodup:=pm.nodup_iff.mpr hCg;have lto:∀ x∈oo,x<m:=fun x hx=>hAt.mp (pm.mem_iff.mp hx)
  have lo':oo.length=m:=by rw[pm.length_eq,hAy]
  have hp1:LsN H1 p S:=drE.2 _ _ pd hp;refine⟨hAp _,fun fo fo1=>?_⟩;have fo0:=drE.none fo1;have fod:=drE.ne fo1;have n4:=Ext.new fo1 (.lst []);have dr4:=drE.ext n4;refine⟨_,rfl,p,rfl,⟨_,SqL.of (n4 _ _ hp1)⟩,?_⟩;refine qA2 (xs:=S.map iV) (fun i σ H2=>∃ (x6 x7 x8:Option V) (fs:List Nat),σ=[some (.ref d),some (iV m),some (.ref p),some (.ref o),some (.ref st),some (.ref fo),x6,x7,x8]/\Dr d H H2/\LsN H2 o oo/\LsN H2 fo fs/\fs.length=i/\∀ x∈fs,x<2^m) ⟨none,none,none,[],rfl,dr4,n4 _ _ hO',upd_same,rfl,fun x hx=>by cases hx⟩ (fun i σ H2 _ z=>by obtain⟨_,_,_,_,_,e,_⟩:=z;exact SqL.of (e.2 _ _ pd hp)) ?_ ?_
  ·rintro i v σ H2 hx ⟨x6,x7,x8,fs,rfl,dr2,hO2,hF2,lf,ltf⟩;obtain⟨s,rfl,hs⟩:=qA1 hx;have hi:=at_lt hs;have ofo:o≠fo:=qAe hO' fo1;refine⟨_,rfl,(m:Int),rfl,by omega,by omega,?_⟩;refine qA7 (lo:=0) (n:=((m:Int)).toNat) (fun j σ H3=>H3=H2/\∃ x8:Option V,σ=[some (.ref d),some (iV m),some (.ref p),some (.ref o),some (.ref st),some (.ref fo),some (iV s),some (iV (mxM oo s j)),x8]) ⟨rfl,x8,rfl⟩ ?_ ?_
   ·rintro j σ H3 hj ⟨rfl,x8,rfl⟩;have hj':j<oo.length:=by omega
    rw[show(0+(j:Int))=((j:Nat):Int) by omega];refine⟨_,rfl,_,rfl,_,_,rfl,rfl,(by show(0:Int)<=_;omega),_,_,rfl,rfl,rfl,_,rfl,?_⟩;have key2:(decide (V.int (Builtin.bitAnd ((s:Int) / 2^((j:Nat):Int).toNat) 1)=V.int 1)=true)↔s.testBit j=true:=by
     rw[decide_eq_true_iff,V.int.injEq,hB4,qC6];by_cases b:s.testBit j=true
     ·simp[b]
     ·simp[b]
    refine qBw (fun c2=>?_) (fun c2=>?_)
    ·have ol:=lto _ (hBp hj');refine⟨_,rfl,_,rfl,_,rfl,o,_,_,_,rfl,rfl,SqL.of hO2,qFk hj',_,_,rfl,rfl,⟨by omega,by omega,by decide⟩,_,_,rfl,rfl,rfl,some (iV j),?_⟩;refine congrArg (fun v=>[some (V.ref d),some (iV m),some (V.ref p),some (V.ref o),some (V.ref st),some (V.ref fo),some (iV s),some v,some (iV j)]) ?_;show V.int (((mxM oo s j:Nat):Int)+1*2^((oo[j]:Nat):Int).toNat)=V.int _;rw[mxM_on (key2.mp c2) hj',qA8,hDt]
    ·refine⟨rfl,some (iV j),?_⟩;rw[mxM_off fun z=>c2 (key2.mpr z)];rfl
   ·rintro σ H3 ⟨rfl,x8,rfl⟩;rw[hB4];refine⟨_,rfl,.inl ⟨rfl,_,SqL.of hF2⟩,_,rfl,fo,_,_,rfl,rfl,hF2,by rw[hA1];exact qAf (by omega),?_⟩;refine⟨_,_,_,fs++[mxM oo s m],rfl,dr2.over fo0 fod _,by unfold LsN;rw[upd_ne ofo];exact hO2,by unfold LsN;rw[upd_same,hA3];rfl,by rw[hA7,lf];rfl,fun x hx=>?_⟩;rcases hAb.mp hx with h | h
    ·exact ltf x h
    ·rw[hA4.mp h];exact mxM_lt lo' ndo lto s
  ·rintro σ H2 ⟨x6,x7,x8,fs,rfl,dr2,hO2,hF2,lf,ltf⟩;rw[hA1]at lf;refine⟨_,rfl,fo,fs,m,rfl,hF2,by omega,by omega,ltf,fun r R H3 e3 r0 hR pR oR=>?_⟩;refine q r R H3 (dr2.ext e3) (dr2.none r0) hR ⟨fs,ltf,pR,oR⟩ ?_;rw[pR.length_eq];exact hAr (redL_le _) (by omega)
end
end My
namespace My
open PySem L2
def spSma:Sp:=fun vs H Q _=>∃ (d:Addr) (n:Int),vs=[.ref d]/\H d=some (.lst [.int n]) /\
 ∀ (T r:Addr) (m:Nat) (R:List Nat) (H':Hp),Dr d H H'->H T=none->H' T=some (.tup [iV m,.ref r])->H r=none->LsN H' r R->Stp m R->7<=m->m<=10->Q (.ref T) H'
theorem ixN_nat {n j:Nat} (h:j<n):ixN n ((j:Nat):Int)=some j:=by
 unfold ixN;rw[if_pos (by omega),if_pos (by omega)];simp
noncomputable def esT:List Expr:=match (qAl sSma).getD 2 (.Pass ⟨0,0,0,0⟩) with
 | .Assign _ (.List es _) _=>es
 | _=>[]
theorem st2f:∃ p pos pos',(qAl sSma).getD 2 (.Pass ⟨0,0,0,0⟩) = .Assign [.Name "_law_ties_here" pos'] (.List esT p) pos:=⟨_,_,_,rfl⟩
theorem swaps_list {es:List Expr} {p:Pos} {tg:Option Expr} {l:Nat} {env:Env}:swapsWith (.List es p) tg l env=pure false:=rfl
abbrev t2c (a b:Int):TE:=tTup (qCb (tC (.int a)) (qCb (tC (.int b)) tNil))
def T10:TA:=(qCb (t2c 0 1) (qCb (t2c 0 2) (qCb (t2c 0 3) (qCb (t2c 0 4) (qCb (t2c 1 2) (qCb (t2c 1 3) (qCb (t2c 1 4) (qCb (t2c 2 3) (qCb (t2c 2 4) (qCb (t2c 3 4) (tNil)))))))))))
theorem qCm {X:Cx} {a b:Int} {i j c:Nat} {p1 p2 p3:Pos} {es:List Expr} {t:TA} (h:PA X es t):PA X (.Tuple [.Constant (.int a) i p1,.Constant (.int b) j p2] c p3 :: es) (qCb (t2c a b) t) :=
 pa_cons (qCe (pa_cons qAc (pa_cons qAc pa_nil))) h rfl
theorem pa_es {X:Cx}:PA X esT T10:=by
 unfold esT T10;refine qCm (a:=0) (b:=1) ?_;refine qCm (a:=0) (b:=2) ?_;refine qCm (a:=0) (b:=3) ?_;refine qCm (a:=0) (b:=4) ?_;refine qCm (a:=1) (b:=2) ?_;refine qCm (a:=1) (b:=3) ?_;refine qCm (a:=1) (b:=4) ?_;refine qCm (a:=2) (b:=3) ?_;refine qCm (a:=2) (b:=4) ?_;refine qCm (a:=3) (b:=4) ?_;exact pa_nil
section
variable {P:Program} {w:World} {K:PySem.W.Frag} {mg:Str->Option Value} {base:Heap} {f f1 f2 f3 f4:Addr} {fd fd1 fd2 fd3 fd4:FuncData}
noncomputable abbrev smaN:List Str:=["_law_draw","_law_kind","_law_bits","_law_k","_law_j","_law_ties_here"]
theorem scSma:FnScope smaN ["_law_draw"] (qAb sSma):=⟨rfl,rfl,rfl,by decide +kernel,rfl,by decide +kernel,by decide +kernel⟩
theorem ok_sma (F:Fun K "_law_small" "_law_small" sSma f fd) (G:Cl P w K mg base CX0 1 f1 fd1 ["_law_draw","_law_many"] qDo "_law_take")
  (G2:Cl P w K mg base CX0 4 f2 fd2 ["_law_masks"] spLSt "_law_steps")
  (G3:Cl P w K mg base CX0 5 f3 fd3 ["_law_base","_law_many"] spLCr "_law_crossed")
  (G4:Cl P w K mg base CX0 1 f4 fd4 ["_law_ties_here"] spStM "_law_star_masks")
  (mr:mg "range" = none) (ml:mg "len" = none) :
  FnOk P w K mg base CX0 6 f fd ["_law_draw"] spSma:=by
 refine F.ok scSma (fun vs H Q E h=>?_) (fun cdv A outer s H vs Q E hr h=>?_)
 ·obtain⟨d,n,rfl,_⟩:=h;rfl
 obtain⟨d,n,rfl,hd,q⟩:=h;have hr1:=hr.mono (j:=1) (by decide);have hr4:=hr.mono (j:=4) (by decide);obtain⟨s2,hs2⟩:∃ s:Stmt,s=(qAl sSma).getD 2 (.Pass ⟨0,0,0,0⟩):=⟨_,rfl⟩;have H2:PS (qBy CX0 P w K mg base smaN "_law_small" (qAb sSma) f cdv A outer s H E).nox s2 (tCutE (tAsg (tLst T10) (gName 5))):=by
  obtain⟨p,po,po',e⟩:=st2f;rw[hs2,e];have hp:=@pa_es (qBy CX0 P w K mg base smaN "_law_small" (qAb sSma) f cdv A outer s H E).nox;generalize esT=es at hp ⊢;generalize T10=T at hp ⊢;exact qBd (qAg (i:=5) scSma.nd rfl (Or.inl rfl) (pe_lst hp) swaps_list)
 have hb:qAl sSma=[(qAl sSma).getD 0 (.Pass ⟨0,0,0,0⟩),(qAl sSma).getD 1 (.Pass ⟨0,0,0,0⟩),s2,(qAl sSma).getD 3 (.Pass ⟨0,0,0,0⟩),(qAl sSma).getD 4 (.Pass ⟨0,0,0,0⟩)]:=by rw[hs2];rfl
 rw[hb];refine⟨_,qAa (qAg (i:=1) scSma.nd rfl (Or.inl rfl) (qAp G hr1 rfl .nil qAo (pa_cons (pv 0) (pa_cons qAc pa_nil))))
  (qAa (qBf (qAk op_lt (pv 1) qAc (qAq _))
   (qAa (qAg (i:=2) scSma.nd rfl (Or.inl rfl) (pe_lst (pa_cons qAc (pa_cons qAc (pa_cons qAc pa_nil)))))
   (qAa (qAz PassesOwn.never rfl (qAw rfl mr (pa_cons qAc pa_nil)) (qAd (i:=3) scSma.nd rfl (Or.inl rfl))
    (pss_one (qAz PassesOwn.never rfl (qAw rfl mr (pa_cons qAc pa_nil)) (qAd (i:=4) scSma.nd rfl (Or.inl rfl))
     (pss_one (qEe (qAh qBa (qBv qBe (pv 2) (pv 4) (fun _ _=>rfl)) (qAh qBx (qAh qBg (qAh qFa (qAh qBa (pv 3) qAc) (pv 4)) qAc) (pv 3))) (pg_sub (pv 2) (pv 4) qFn))))))
   (qAa (qBf (qAk qBl (pv 1) qAc (qAq _)) (pss_one (ps_ret (qCe (pa_cons qAc (pa_cons (qAp G3 hr rfl .nil qAo (pa_cons (qAp G2 hr4 rfl .nil qAo (pa_cons (pv 2) pa_nil)) (pa_cons qAc pa_nil))) pa_nil))))) qAu)
   (pss_one (ps_ret (qCe (pa_cons qAc (pa_cons (qAp G2 hr4 rfl .nil qAo (pa_cons (pv 2) pa_nil)) pa_nil)))))))) qAu)
  (qAa H2
  (qAa (qBd (qBf (qAk qBl (pv 1) qAc (qAq _)) (pss_one (qFi (i:=5) (N:=smaN) (sc:=qAb sSma) (N':=["_law_k"]) (sub:=[none]) rfl rfl (CmpOk.of (by decide +kernel)) rfl (qAw rfl mr (pa_cons qAc pa_nil))
   (fun C s H fp=>⟨qAd (i:=0) (by show(["_law_k"]:List Str).Nodup;decide) rfl (Or.inl rfl),qAy,qCe (pa_cons (qAh op_fdiv (pv 0) qAc) (pa_cons (qAh qBa qAc (qAh qDc (pv 0) qAc)) pa_nil))⟩) scSma.nd rfl (Or.inl rfl))) qAu))
  (pss_one (ps_ret (qCe (pa_cons (qAj qAi rfl ml hAw (pa_cons (pv 5) pa_nil)) (pa_cons (qAp G2 hr4 rfl .nil qAo (pa_cons (qAp G4 hr1 rfl .nil qAo (pa_cons (pv 5) pa_nil)) pa_nil)) pa_nil)))))))),?_⟩
 try dsimp only[Cx.wish,qBy]
 refine⟨_,rfl,d,n,4,rfl,hd,by decide,by decide,fun q1 kind ka kb=>?_⟩;have d1:Dr d H (upd H d (.lst [.int q1])):=(Dr.refl hd).take q1;have e1:H d=some (.lst [.int n]):=hd;generalize upd H d (.lst [.int q1])=H1 at d1 ⊢;refine⟨_,rfl,_,_,rfl,rfl,_,rfl,qBw (fun c1=>?_) (fun c1=>?_)⟩
 ·refine⟨(by show 3<=sizeLine;decide),fun b hb=>?_⟩;have d2:=d1.new hb (.lst [.int 0,.int 0,.int 0]);have b0:=d1.none hb;have bd:=d1.ne hb;refine⟨7,rfl,by decide,by decide,?_⟩;refine qA7 (lo:=0) (n:=(7:Int).toNat) (fun i σ H'=>∃ (x3 x4:Option V) (u v w:Nat),σ=[some (.ref d),some (.int kind),some (.ref b),x3,x4,none]/\Dr d H H'/\LsN H' b [u,v,w]/\u<2^i/\v<2^i/\w<2^i) ⟨none,none,0,0,0,rfl,d2,upd_same,by decide,by decide,by decide⟩ ?_ ?_
  ·rintro i σ H' hi ⟨x3,x4,u,v,w,rfl,dr,hb',lu,lv,lw⟩;have hi':i<7:=hi;have pp:2^(i+1)=2^i+2^i:=by rw[Nat.pow_succ];omega
   rw[show(0+(i:Int))=((i:Nat):Int) by omega];refine⟨3,rfl,by decide,by decide,?_⟩;refine qA7 (lo:=0) (n:=(3:Int).toNat) (fun j σ H'=>∃ (x4:Option V) (ns:List Nat),σ=[some (.ref d),some (.int kind),some (.ref b),some (iV i),x4,none]/\Dr d H H'/\LsN H' b ns/\ns.length=3/\(∀ y∈ns,y<2^(i+1))/\∀ (k:Nat) (y:Nat),j<=k->ns[k]?=some y->y<2^i) ⟨x4,[u,v,w],rfl,dr,hb',rfl,fun y hy=>?_,fun k y _ hy=>?_⟩ ?_ ?_
   ·simp only[hAh,hDn,or_false]at hy;rcases hy with rfl | rfl | rfl <;> omega
   ·have:=hAd hy;simp only[hAh,hDn,or_false]at this;rcases this with rfl | rfl | rfl <;> assumption
   ·rintro j σ H2 hj ⟨x4,ns,rfl,dr2,hb2,ln,ly,lk⟩;have hj':j<3:=hj;rw[show(0+(j:Int))=((j:Nat):Int) by omega];have jl:j<ns.length:=by omega
    have vj:=lk j _ (hA5 _) (hA2 jl);have so:Builtin.bitAnd ((((i:Nat):Int)+1) / 2^((j:Nat):Int).toNat) 1=((if (i+1).testBit j=true then 1 else 0:Nat):Int):=by
     have:=qC6 (i+1) j;rw[hB4,show((i:Nat):Int)+1=((i+1:Nat):Int) by omega,this];split <;> rfl
    refine⟨_,rfl,_,rfl,b,_,_,_,rfl,rfl,SqL.of hb2,qFk jl,_,rfl,_,_,rfl,rfl,_,rfl,_,_,rfl,rfl,(by show(0:Int)<=_;omega),_,_,rfl,rfl,_,rfl,_,_,rfl,rfl,?_,_,_,rfl,rfl,?_⟩
    ·refine⟨by omega,by omega,?_⟩;show(Builtin.bitAnd ((((i:Nat):Int)+1) / 2^((j:Nat):Int).toNat) 1).natAbs<2^64;rw[so,Int.natAbs_natCast];split <;> decide
    have ev:(fun i j:Int=>V.int (i+j)) ((ns[j]:Nat):Int) (Builtin.bitAnd ((((i:Nat):Int)+1) / 2^((j:Nat):Int).toNat) 1*2^((i:Nat):Int).toNat)=iV (ns[j] + (if (i+1).testBit j=true then 1 else 0)*2^i):=by
     show V.int _=V.int _;rw[so,hB4,hDt,Int.natCast_mul,Int.natCast_pow];rfl
    have bl:(if (i+1).testBit j=true then 1 else 0)*2^i<=2^i:=by split <;> omega
    refine⟨_,rfl,_,rfl,b,ns.map iV,_,j,rfl,rfl,hb2,ixN_nat (by rw[hA1];exact jl),?_⟩;refine⟨_,ns.set j (ns[j] + (if (i+1).testBit j=true then 1 else 0)*2^i),rfl,dr2.over b0 bd _,?_,by rw[hDa];exact ln,fun y hy=>?_,fun k y hk hy=>?_⟩
    ·unfold LsN;rw[upd_same,List.map_set];exact congrArg (fun v=>some (HO.lst ((ns.map iV).set j v))) ev
    ·rcases hD6 hy with h | h
     ·exact ly y h
     ·rw[h];omega
    ·rw[hDv (by omega)]at hy;exact lk k y (by omega) hy
   ·rintro σ H2 ⟨x4,ns,rfl,dr2,hb2,ln,ly,lk⟩
    match ns,ln with
    | [u',v',w'],_=>exact⟨_,_,u',v',w',rfl,dr2,hb2,ly _ (by simp),ly _ (by simp),ly _ (by simp)⟩
  ·rintro σ H' ⟨x3,x4,u,v,w,rfl,dr,hb',lu,lv,lw⟩;have lt7:∀ x∈[u,v,w],x<2^7:=fun x hx=>by
    simp only[hAh,hDn,or_false]at hx;rcases hx with rfl | rfl | rfl <;> assumption
   refine⟨_,rfl,rfl,_,rfl,qBw (fun c2=>?_) (fun c2=>?_)⟩
   ·refine⟨_,rfl,b,[u,v,w],7,rfl,hb',(by show 3<=5000;decide),by decide,lt7,fun r S H2 e2 r0 hS pS oS=>?_⟩;have sS:Stp 7 S:=⟨_,lt7,pS,oS⟩;have lS:=sS.len;refine⟨r,S,7,rfl,hS,by omega,by decide,sS.gm,sS.nd,fun r2 R H3 e3 r20 hR pR oR=>?_⟩;have d3:=(dr.ext e2).ext e3;refine⟨(by show 2<=sizeLine;decide),fun T hT=>?_⟩;exact q T r2 7 R _ (d3.new hT _) (d3.none hT) upd_same ((dr.ext e2).none r20) ((Ext.new hT _) _ _ hR) ⟨_,crLA_lt sS.gm sS.nd,pR,oR⟩ (by decide) (by decide)
   ·refine⟨_,rfl,b,[u,v,w],7,rfl,hb',(by show 3<=5000;decide),by decide,lt7,fun r S H2 e2 r0 hS pS oS=>?_⟩;have d3:=dr.ext e2;refine⟨(by show 2<=sizeLine;decide),fun T hT=>?_⟩;exact q T r 7 S _ (d3.new hT _) (d3.none hT) upd_same (dr.none r0) ((Ext.new hT _) _ _ hS) ⟨_,lt7,pS,oS⟩ (by decide) (by decide)
 refine⟨fun σ' H'=>∃ (t:Addr) (ts:List (Nat×Nat)),σ'=[some (.ref d),some (.int kind),none,none,none,some (.ref t)]/\Dr d H H'/\H t=none/\qGu H' t ts/\9<=ts.length/\ts.length<=10,?_,?_⟩
 ·unfold T10;refine⟨(by show 2<=sizeLine;decide),fun p0 h0=>?_⟩;have e0:=Ext.new h0 (.tup [V.int 0,V.int 1]);refine⟨(by show 2<=sizeLine;decide),fun p1 h1=>?_⟩;have e1:=Ext.new h1 (.tup [V.int 0,V.int 2]);refine⟨(by show 2<=sizeLine;decide),fun p2 h2=>?_⟩;have e2:=Ext.new h2 (.tup [V.int 0,V.int 3]);refine⟨(by show 2<=sizeLine;decide),fun p3 h3=>?_⟩;have e3:=Ext.new h3 (.tup [V.int 0,V.int 4]);refine⟨(by show 2<=sizeLine;decide),fun p4 h4=>?_⟩;have e4:=Ext.new h4 (.tup [V.int 1,V.int 2]);refine⟨(by show 2<=sizeLine;decide),fun p5 h5=>?_⟩;have e5:=Ext.new h5 (.tup [V.int 1,V.int 3]);refine⟨(by show 2<=sizeLine;decide),fun p6 h6=>?_⟩;have e6:=Ext.new h6 (.tup [V.int 1,V.int 4]);refine⟨(by show 2<=sizeLine;decide),fun p7 h7=>?_⟩;have e7:=Ext.new h7 (.tup [V.int 2,V.int 3]);refine⟨(by show 2<=sizeLine;decide),fun p8 h8=>?_⟩;have e8:=Ext.new h8 (.tup [V.int 2,V.int 4]);refine⟨(by show 2<=sizeLine;decide),fun p9 h9=>?_⟩;have e9:=Ext.new h9 (.tup [V.int 3,V.int 4]);refine⟨(by show 10<=sizeLine;decide),fun l hl=>?_⟩;have el:=Ext.new hl (.lst [V.ref p0,V.ref p1,V.ref p2,V.ref p3,V.ref p4,V.ref p5,V.ref p6,V.ref p7,V.ref p8,V.ref p9]);have E:=((((((((((e0.trans e1).trans e2).trans e3).trans e4).trans e5).trans e6).trans e7).trans e8).trans e9).trans el);refine⟨l,[(0,1),(0,2),(0,3),(0,4),(1,2),(1,3),(1,4),(2,3),(2,4),(3,4)],rfl,d1.ext E,d1.none (((((((((((e0.trans e1).trans e2).trans e3).trans e4).trans e5).trans e6).trans e7).trans e8).trans e9)).none hl),⟨[p0,p1,p2,p3,p4,p5,p6,p7,p8,p9],upd_same,.cons ((e1.trans (e2.trans (e3.trans (e4.trans (e5.trans (e6.trans (e7.trans (e8.trans (e9.trans el))))))))) _ _ upd_same) (.cons ((e2.trans (e3.trans (e4.trans (e5.trans (e6.trans (e7.trans (e8.trans (e9.trans el)))))))) _ _ upd_same) (.cons ((e3.trans (e4.trans (e5.trans (e6.trans (e7.trans (e8.trans (e9.trans el))))))) _ _ upd_same) (.cons ((e4.trans (e5.trans (e6.trans (e7.trans (e8.trans (e9.trans el)))))) _ _ upd_same) (.cons ((e5.trans (e6.trans (e7.trans (e8.trans (e9.trans el))))) _ _ upd_same) (.cons ((e6.trans (e7.trans (e8.trans (e9.trans el)))) _ _ upd_same) (.cons ((e7.trans (e8.trans (e9.trans el))) _ _ upd_same) (.cons ((e8.trans (e9.trans el)) _ _ upd_same) (.cons ((e9.trans el) _ _ upd_same) (.cons (el _ _ upd_same) (.nil))))))))))⟩,by decide,by decide⟩
 rintro _ H2 ⟨t,ts,rfl,d2,t0,kt,l9,l10⟩;refine⟨fun σ' H'=>∃ (t:Addr) (ts:List (Nat×Nat)),σ'=[some (.ref d),some (.int kind),none,none,none,some (.ref t)]/\Dr d H H'/\H t=none/\qGu H' t ts/\9<=ts.length/\ts.length<=10,?_,?_⟩
 ·refine⟨_,rfl,rfl,_,rfl,qBw (fun c2=>?_) (fun c2=>⟨t,ts,rfl,d2,t0,kt,l9,l10⟩)⟩;refine⟨9,rfl,by decide,by decide,?_⟩;refine qBz (fun j ys H3=>Ext H2 H3/\∃ (as:List Addr) (ps:List (Nat×Nat)),ys=as.map V.ref/\ps.length=j/\Paired (fun a f=>H3 a=some (.tup [iV f.1,iV f.2])) as ps) ⟨Ext.refl _,[],[],rfl,rfl,.nil⟩ ?_ ?_
  ·rintro j ys H3 hj ⟨e3,as,ps,rfl,lp,pr⟩;have hj':j<9:=hj;rw[show(0+(j:Int))=((j:Nat):Int) by omega];have la:=pr.length;refine⟨Sle.set _ (Sle.refl _) (fun u z=>by cases z),iteT (B:=False) ?_⟩;refine⟨_,rfl,_,_,rfl,rfl,⟨by decide,by decide⟩,_,rfl,_,_,rfl,rfl,(by show(0:Int)<_;decide),_,_,rfl,rfl,(by show 2<=sizeLine;decide),fun T hT=>?_⟩;refine⟨by rw[hA1];exact qAf (by omega),nxt hj ⟨e3.trans (Ext.new hT _),as++[T],ps++[(j / 3,3+j % 3)],by rw[hA3];rfl,by rw[hA7,lp];rfl,Paired.snoc (Paired.mapP pr fun a t z=>(Ext.new hT _) _ _ z) ?_⟩⟩;rw[upd_same];show some (HO.tup [V.int (((j:Nat):Int) / 3),V.int (3+((j:Nat):Int) % 3)])=some (HO.tup [V.int ((j / 3:Nat):Int),V.int ((3+j % 3:Nat):Int)]);rw[show((j:Nat):Int) / 3=((j / 3:Nat):Int) by omega,show 3+((j:Nat):Int) % 3=((3+j % 3:Nat):Int) by omega]
  ·rintro ys H3 ⟨e3,as,ps,rfl,lp,pr⟩ l hl;have lp':ps.length=9:=lp;exact⟨l,ps,rfl,(d2.ext e3).new hl _,(d2.ext e3).none hl,⟨as,upd_same,Paired.mapP pr fun a t z=>(Ext.new hl _) _ _ z⟩,by omega,by omega⟩
 rintro _ H3 ⟨t,ts,rfl,d3,t0,kt,l9,l10⟩;obtain⟨as,ha,pr⟩:=id kt;have la:=pr.length;refine⟨_,rfl,t,_,rfl,.inl (SqL.of ha),_,rfl,t,ts,rfl,kt,by omega,fun r ms H4 e4 r0 hm lm ltm=>?_⟩;rw[hA1,la];refine⟨r,ms,ts.length,rfl,hm,by omega,by omega,ltm,fun r2 S H5 e5 r20 hS pS oS=>?_⟩;have d5:=(d3.ext e4).ext e5;refine⟨(by show 2<=sizeLine;decide),fun T hT=>?_⟩;exact q T r2 ts.length S _ (d5.new hT _) (d5.none hT) upd_same ((d3.ext e4).none r20) ((Ext.new hT _) _ _ hS) ⟨_,ltm,pS,oS⟩ (by omega) (by omega)
end
end My
namespace My
open PySem L2
def spHou:Sp:=fun vs H Q _=>∃ (d:Addr) (n:Int) (Mo:Nat),vs=[.ref d,iV Mo]/\10<=Mo/\Mo<=12/\H d=some (.lst [.int n]) /\
 ∀ (T r:Addr) (m:Nat) (R:List Nat) (H':Hp),Dr d H H'->H T=none->H' T=some (.tup [iV m,.ref r])->H r=none->LsN H' r R->Stp m R->R.length<=8->m<=12->Q (.ref T) H'
theorem MoS.ext {d:Addr} {H H1 H2:Hp} {b:Addr} {B:List Nat} {m l:Nat} (x:MoS d H H1 b B m l) (e:Ext H1 H2):MoS d H H2 b B m l:=⟨x.dr.ext e,x.bd,e _ _ x.hb,x.len,x.lt⟩
section
variable {P:Program} {w:World} {K:PySem.W.Frag} {mg:Str->Option Value} {base:Heap} {f f1 f2 f3 f4 f5 f6 f7 f8 f9:Addr} {fd fd1 fd2 fd3 fd4 fd5 fd6 fd7 fd8 fd9:FuncData}
noncomputable abbrev houN:List Str:=["_law_draw","_law_most","_law_way","_law_many","_law_ties_here","_law_base","_law_k"]
theorem qDv:FnScope houN ["_law_draw","_law_most"] (qAb sHou):=⟨rfl,rfl,rfl,by decide +kernel,rfl,by decide +kernel,by decide +kernel⟩
theorem ok_hou (F:Fun K "_law_house" "_law_house" sHou f fd) (G:Cl P w K mg base CX0 1 f1 fd1 ["_law_draw","_law_many"] qDo "_law_take")
  (G2:Cl P w K mg base CX0 4 f2 fd2 ["_law_masks"] spLSt "_law_steps")
  (G3:Cl P w K mg base CX0 5 f3 fd3 ["_law_base","_law_many"] spLCr "_law_crossed")
  (G4:Cl P w K mg base CX0 1 f4 fd4 ["_law_ties_here"] spStM "_law_star_masks")
  (G5:Cl P w K mg base CX0 5 f5 fd5 ["_law_masks","_law_many"] spBou "_law_bounded")
  (G6:Cl P w K mg base CX0 2 f6 fd6 ["_law_draw","_law_many"] spTi "_law_ties")
  (G7:Cl P w K mg base CX0 6 f7 fd7 ["_law_draw"] spSma "_law_small")
  (G8:Cl P w K mg base CX0 5 f8 fd8 ["_law_draw","_law_many","_law_base"] spMor "_law_more")
  (G9:Cl P w K mg base CX0 5 f9 fd9 ["_law_draw","_law_many","_law_base"] spMix "_law_mixed_names")
  (mr:mg "range" = none) (ml:mg "len" = none) (mmi:mg "min" = none) :
  FnOk P w K mg base CX0 7 f fd ["_law_draw","_law_most"] spHou:=by
 refine F.ok qDv (fun vs H Q E h=>?_) (fun cdv A outer s H vs Q E hr h=>?_)
 ·obtain⟨d,n,Mo,rfl,_⟩:=h;rfl
 obtain⟨d,n,Mo,rfl,ho1,ho2,hd,q⟩:=h;have hr1:=hr.mono (j:=1) (by decide);have hr2:=hr.mono (j:=2) (by decide);have hr4:=hr.mono (j:=4) (by decide);have hr5:=hr.mono (j:=5) (by decide);refine⟨_,qAa (qAg (i:=2) qDv.nd rfl (Or.inl rfl) (qAp G hr1 rfl .nil qAo (pa_cons (pv 0) (pa_cons qAc pa_nil))))
  (qAa (qAg (i:=3) qDv.nd rfl (Or.inl rfl) (qAp G hr1 rfl .nil qAo (pa_cons (pv 0) (pa_cons (qAh qBa (pv 1) qAc) pa_nil))))
  (qAa (qBd (qBf (qAk qBl (qAp G hr1 rfl .nil qAo (pa_cons (pv 0) (pa_cons qAc pa_nil))) qAc (qAq _)) (pss_one (qAg (i:=3) qDv.nd rfl (Or.inl rfl) (pv 1))) qAu))
  (qAa (qBd (qBf (qAk op_lt (pv 2) qAc (qAq _))
   (qAa (qAg (i:=4) qDv.nd rfl (Or.inl rfl) (qAp G6 hr2 rfl .nil qAo (pa_cons (pv 0) (pa_cons (pv 3) pa_nil))))
   (qAa (qAg (i:=5) qDv.nd rfl (Or.inl rfl) (qAp G2 hr4 rfl .nil qAo (pa_cons (qAp G4 hr1 rfl .nil qAo (pa_cons (pv 4) pa_nil)) pa_nil)))
   (qAa (qAg (i:=3) qDv.nd rfl (Or.inl rfl) (qAj qAi rfl ml hAw (pa_cons (pv 4) pa_nil)))
   (qAa (qBd (qBf (qAk op_gt (pv 2) qAc (qAq _)) (pss_one (qAg (i:=5) qDv.nd rfl (Or.inl rfl) (qAp G3 hr5 rfl .nil qAo (pa_cons (pv 5) (pa_cons (pv 3) pa_nil))))) qAu))
   (pss_one (qBf (PW.pt (qDq (qAk qBl (pv 2) qAc (qAq _)) (qCl (qAk (qG9 (qF7 hr)) (pv 5) (pe_lst pa_nil) (qAq _)))))
    (pss_one (qEe (qAp G hr1 rfl .nil qAo (pa_cons (pv 0) (pa_cons (qAh qBx qAc (pv 3)) pa_nil))) (pg_sub (pv 5) (qAp G hr1 rfl .nil qAo (pa_cons (pv 0) (pa_cons (qAj qAi rfl ml hAw (pa_cons (pv 5) pa_nil)) pa_nil))) qFn))) qAu))))))
   (pss_one (qBf (PW.pt (qDq (qAk op_lt (pv 2) qAc (qAq _)) (qCl (qAk op_gt (pv 1) qAc (qAq _)))))
    (qAa (qEe (qAp G7 hr rfl .nil qAo (pa_cons (pv 0) pa_nil)) (qEf rfl (qA4 (qAd (i:=3) qDv.nd rfl (Or.inl rfl)) (qA4 (qAd (i:=5) qDv.nd rfl (Or.inl rfl)) qCx))))
    (pss_one (qAz PassesOwn.never rfl (qAw rfl mr (pa_cons (qAp G hr1 rfl .nil qAo (pa_cons (pv 0) (pa_cons (qAj (qCq rfl) rfl mmi qCr (pa_cons qAc (pa_cons (qAh qCp (qAh qBa (pv 1) qAc) (pv 3)) pa_nil))) pa_nil))) pa_nil)) (qAd (i:=6) qDv.nd rfl (Or.inl rfl))
     (pss_one (qEe (qAp G8 hr5 rfl .nil qAo (pa_cons (pv 0) (pa_cons (pv 3) (pa_cons (pv 5) pa_nil)))) (qEf rfl (qA4 (qAd (i:=3) qDv.nd rfl (Or.inl rfl)) (qA4 (qAd (i:=5) qDv.nd rfl (Or.inl rfl)) qCx))))))))
    (qAa (qAg (i:=5) qDv.nd rfl (Or.inl rfl) (pe_lst pa_nil))
    (pss_one (qAz PassesOwn.never rfl (qAw rfl mr (pa_cons (qAp G hr1 rfl .nil qAo (pa_cons (pv 0) (pa_cons qAc pa_nil))) pa_nil)) (qAd (i:=6) qDv.nd rfl (Or.inl rfl))
     (pss_one (ps_expr (pe_bm hAq hB5 hB6 mt_append (pv 5) (pa_cons (qAp G hr1 rfl .nil qAo (pa_cons (pv 0) (pa_cons (qAh qBx qAc (pv 3)) pa_nil))) pa_nil)))))))))))
  (pss_one (ps_ret (qCe (pa_cons (pv 3) (pa_cons (qAp G9 hr5 rfl .nil qAo (pa_cons (pv 0) (pa_cons (pv 3) (pa_cons (qAp G5 hr5 rfl .nil qAo (pa_cons (pv 5) (pa_cons (pv 3) pa_nil))) pa_nil)))) pa_nil)))))))),?_⟩
 try dsimp only[Cx.wish,qBy]
 refine⟨_,rfl,d,n,8,rfl,hd,by decide,by decide,fun q1 way wa wb=>?_⟩;refine⟨_,rfl,_,rfl,_,_,rfl,rfl,d,q1,_,rfl,upd_same,(by show(0:Int)<(Mo:Int)+1;omega),(by show(Mo:Int)+1<1073741824;omega),fun q2 m0 ma mb=>?_⟩;rw[qB3];have mb':m0<(Mo:Int)+1:=mb;obtain⟨m0,rfl⟩:=hB8 ma;refine⟨fun σ' H'=>∃ m:Nat,σ'=[some (.ref d),some (iV Mo),some (.int way),some (iV m),none,none,none]/\Dr d H H'/\m<=12,?_,?_⟩
 ·refine⟨_,rfl,d,q2,8,rfl,upd_same,by decide,by decide,fun q3 z za zb=>⟨rfl,_,rfl,?_⟩⟩;rw[qB3];exact qBw (fun c=>⟨_,rfl,Mo,rfl,(Dr.refl hd).take q3,by omega⟩) (fun c=>⟨m0,rfl,(Dr.refl hd).take q3,by omega⟩)
 rintro _ H1 ⟨m,rfl,d1,m12⟩;refine⟨fun σ' H'=>∃ (m:Nat) (b:Addr) (B:List Nat) (x4 x6:Option V),σ'=[some (.ref d),some (iV Mo),some (.int way),some (iV m),x4,some (.ref b),x6]/\MoS d H H' b B m 30/\m<=12,?_,?_⟩
 ·refine⟨_,rfl,_,_,rfl,rfl,_,rfl,qBw (fun c1=>?_) (fun c1=>?_)⟩
  ·obtain⟨q4,z4⟩:=d1.1;refine⟨_,rfl,_,rfl,d,q4,m,rfl,z4,m12,fun t ts H2 d2 t1 kt lt=>?_⟩;have D2:=d1.trans d2;have td:t≠d:=d1.ne t1;obtain⟨as,ha,pr⟩:=id kt;have la:=pr.length;refine⟨_,rfl,t,ts,rfl,kt,by omega,fun r ms H3 e3 r0 hm lm ltm=>?_⟩;refine⟨r,ms,ts.length,rfl,hm,by omega,by omega,ltm,fun r2 S H4 e4 r20 hS pS oS=>?_⟩;have sS:Stp ts.length S:=⟨_,ltm,pS,oS⟩;have lS:=sS.len;have D4:=(D2.ext e3).ext e4;have E4:=e3.trans e4;have r2d:r2≠d:=(D2.ext e3).ne r20;refine⟨_,rfl,t,_,rfl,.inl (SqL.of (E4 _ _ ha)),?_⟩;rw[hA1,la];refine⟨fun σ' H'=>∃ (b:Addr) (B:List Nat),σ'=[some (.ref d),some (iV Mo),some (.int way),some (iV ts.length),some (.ref t),some (.ref b),none]/\MoS d H H' b B ts.length 12/\H b=none,?_,?_⟩
   ·refine⟨_,rfl,_,_,rfl,rfl,_,rfl,qBw (fun c2=>?_) (fun c2=>⟨r2,S,rfl,⟨D4,r2d,hS,by omega,sS.lt⟩,(D2.ext e3).none r20⟩)⟩;refine⟨_,rfl,_,rfl,r2,S,ts.length,rfl,hS,by omega,by omega,sS.gm,sS.nd,fun r3 R H5 e5 r30 hR pR oR=>?_⟩;have sR:Stp ts.length R:=⟨_,crLA_lt sS.gm sS.nd,pR,oR⟩;have lR:=sR.len;exact⟨r3,R,rfl,⟨D4.ext e5,D4.ne r30,hR,by omega,sR.lt⟩,D4.none r30⟩
   rintro _ H5 ⟨b,B,rfl,M5,b0⟩;have fin:∀ {H9:Hp} {B':List Nat},MoS d H H9 b B' ts.length 12->∃ (m:Nat) (b_1:Addr) (B:List Nat) (x4 x6:Option V),[some (V.ref d),some (iV Mo),some (V.int way),some (iV ts.length),some (V.ref t),some (V.ref b),none]=[some (.ref d),some (iV Mo),some (.int way),some (iV m),x4,some (.ref b_1),x6]/\MoS d H H9 b_1 B m 30/\m<=12:=fun x=>⟨ts.length,b,_,_,_,rfl,⟨x.dr,x.bd,x.hb,hAr x.len (by decide),x.lt⟩,by omega⟩
   refine⟨_,rfl,rfl,_,rfl,qBw (fun c2=>?_) (fun c2=>iteF (fin M5))⟩;refine⟨_,rfl,hAp _,fun e0 he0=>?_⟩;have ne:=Ext.new he0 (.lst []);have M6:=M5.ext ne;have hE6:LsN (upd H5 e0 (.lst [])) e0 []:=upd_same;revert M6 hE6;generalize upd H5 e0 (.lst [])=H6;intro M6 hE6;refine⟨intD B,intD [],dr_iv M6.hb,dr_iv hE6,qB2 _,qB2 _,_,rfl,?_⟩;rw[if_pos rfl,eqv_nil];refine qBw (fun c3=>?_) (fun c3=>fin M6);have b0':0<B.length:=by
    cases B with
    | nil=>exact absurd c3 (by decide)
    | cons a r=>exact hE4 _
   have lB:=M6.len;obtain⟨q6,z6⟩:=M6.dr.1;have pt:2^ts.length<=2^12:=hB9 (by decide) (by omega);have pt0:0<2^ts.length:=hDj (by decide);refine⟨_,rfl,_,rfl,_,_,rfl,rfl,⟨by omega,by omega,by decide⟩,d,q6,_,rfl,z6,?_,?_,fun q7 z za zb=>?_⟩
   ·show(0:Int)<1*2^((ts.length:Nat):Int).toNat;rw[qA8];omega
   ·show 1*2^((ts.length:Nat):Int).toNat<(1073741824:Int);rw[qA8];omega
   have zb':z<((2^ts.length:Nat):Int):=by
    have:=zb
    change z<1*2^((ts.length:Nat):Int).toNat at this
    rw[qA8]at this;exact this
   obtain⟨z,rfl⟩:=hB8 za;have M7:=M6.take q7;refine⟨_,rfl,_,rfl,_,rfl,b,_,rfl,.inl (SqL.of M7.hb),d,q7,_,rfl,upd_same,by rw[hA1];omega,by rw[hA1];omega,fun q8 j ja jb=>?_⟩;rw[qB3];rw[hA1]at jb;obtain⟨j,rfl⟩:=hB8 ja;have M8:=M6.take q8;refine⟨b,_,_,j,rfl,rfl,M8.hb,ixN_nat (by rw[hA1];omega),?_⟩;refine fin (B':=B.set j z) ⟨M8.dr.over b0 M8.bd _,M8.bd,by unfold LsN;rw[upd_same,List.map_set],by rw[hDa];exact M8.len,fun y hy=>?_⟩;rcases hD6 hy with h | h
   ·exact M8.lt y h
   ·rw[h];omega
  ·obtain⟨q4,z4⟩:=d1.1;refine⟨_,rfl,_,_,rfl,rfl,_,rfl,qBw (fun c2=>⟨_,rfl,_,_,rfl,rfl,_,rfl,qBw (fun _=>?_) (fun c3=>absurd (decide_eq_true (p:=(Mo:Int) > 9) (by omega)) c3)⟩) (fun c2=>iteF ?_)⟩
   ·refine⟨_,rfl,d,q4,rfl,z4,fun T r m R H2 d2 T0 hT r0 hR sR m7 m10=>?_⟩;have D2:=d1.trans d2;have lR:=sR.len;obtain⟨q5,z5⟩:=D2.1;refine⟨T,_,rfl,SqT.of hT,rfl,_,_,rfl,_,_,rfl,rfl,?_⟩;have mn:0<(if ((Mo:Int)+1 - (m:Int))<3 then ((Mo:Int)+1 - (m:Int)) else 3)/\(if ((Mo:Int)+1 - (m:Int))<3 then ((Mo:Int)+1 - (m:Int)) else 3)<=3/\(if ((Mo:Int)+1 - (m:Int))<3 then ((Mo:Int)+1 - (m:Int)) else 3)<=(Mo:Int)+1 - (m:Int):=by split <;> omega
    refine⟨_,rfl,_,rfl,_,_,rfl,rfl,_,rfl,_,_,rfl,rfl,_,_,rfl,d,q5,_,rfl,z5,?_,?_,fun q6 k ka kb=>?_⟩
    ·show(0:Int)<(if ((Mo:Int)+1 - (m:Int))<3 then ((Mo:Int)+1 - (m:Int)) else 3);exact mn.1
    ·show(if ((Mo:Int)+1 - (m:Int))<3 then ((Mo:Int)+1 - (m:Int)) else 3)<1073741824;omega
    have kb':k<3/\k<(Mo:Int)+1 - (m:Int):=by
     have:=kb
     change k<(if ((Mo:Int)+1 - (m:Int))<3 then ((Mo:Int)+1 - (m:Int)) else 3) at this
     omega
    have rd:r≠d:=d1.ne r0;refine⟨k,rfl,by omega,by omega,?_⟩;refine qA7 (lo:=0) (n:=k.toNat) (fun i σ H'=>∃ (m1:Nat) (b:Addr) (B:List Nat) (x6:Option V),σ=[some (.ref d),some (iV Mo),some (.int way),some (iV m1),none,some (.ref b),x6]/\Dr d H H'/\b≠d/\LsN H' b B/\Stp m1 B/\m1<=m+i) ⟨m,r,R,none,rfl,D2.take q6,rd,by unfold LsN;rw[upd_ne rd];exact hR,sR,by omega⟩ ?_ ?_
    ·rintro i σ H' hi ⟨m1,b,B,x6,rfl,dr,bd,hB,sB,lm⟩;have lB:=sB.len;obtain⟨q7,z7⟩:=dr.1;refine⟨_,rfl,_,rfl,_,rfl,d,q7,m1,b,B,rfl,z7,bd,hB,by omega,by omega,sB.lt,fun T2 r2 R2 H3 d3 T20 hT2 r20 hR2 sR2=>?_⟩;exact⟨T2,_,rfl,SqT.of hT2,rfl,_,_,rfl,_,_,rfl,rfl,m1+1,r2,R2,_,rfl,dr.trans d3,dr.ne r20,hR2,sR2,by omega⟩
    ·rintro σ H' ⟨m1,b,B,x6,rfl,dr,bd,hB,sB,lm⟩;have lB:=sB.len;exact⟨m1,b,B,none,x6,rfl,⟨dr,bd,hB,by omega,sB.lt⟩,by omega⟩
   ·refine⟨hAp _,fun b hb=>?_⟩;have b0:=d1.none hb;have bd:=d1.ne hb;have D2:=d1.new hb (.lst []);obtain⟨q5,z5⟩:=D2.1;have pt:2^m<=2^12:=hB9 (by decide) (by omega);have pt0:0<2^m:=hDj (by decide);refine⟨_,rfl,d,q5,9,rfl,z5,by decide,by decide,fun q6 k ka kb=>?_⟩;refine⟨k,rfl,by omega,by omega,?_⟩;refine qA7 (lo:=0) (n:=k.toNat) (fun i σ H'=>∃ (B:List Nat) (x6:Option V),σ=[some (.ref d),some (iV Mo),some (.int way),some (iV m),none,some (.ref b),x6]/\MoS d H H' b B m i) ⟨[],none,rfl,D2.take q6,bd,by unfold LsN;rw[upd_ne bd];exact upd_same,by decide,fun x hx=>by cases hx⟩ ?_ ?_
    ·rintro i σ H' hi ⟨B,x6,rfl,M⟩;have lB:=M.len;obtain⟨q7,z7⟩:=M.dr.1;refine⟨_,rfl,.inl ⟨rfl,_,SqL.of M.hb⟩,_,rfl,_,rfl,_,_,rfl,rfl,⟨by omega,by omega,by decide⟩,d,q7,_,rfl,z7,?_,?_,fun q8 z za zb=>?_⟩
     ·show(0:Int)<1*2^((m:Nat):Int).toNat;rw[qA8];omega
     ·show 1*2^((m:Nat):Int).toNat<(1073741824:Int);rw[qA8];omega
     have zb':z<((2^m:Nat):Int):=by
      have:=zb
      change z<1*2^((m:Nat):Int).toNat at this
      rw[qA8]at this;exact this
     obtain⟨z,rfl⟩:=hB8 za;have M2:=M.take q8;refine⟨b,_,_,rfl,rfl,M2.hb,by rw[hA1];exact qAf (by omega),B++[z],_,rfl,M2.dr.over b0 M2.bd _,M2.bd,by unfold LsN;rw[upd_same,hA3];rfl,by rw[hA7];exact hCt lB,fun y hy=>?_⟩;rcases hAb.mp hy with h | h
     ·exact M2.lt y h
     ·rw[hA4.mp h];omega
    ·rintro σ H' ⟨B,x6,rfl,M⟩;have lB:=M.len;exact⟨m,b,B,none,x6,rfl,⟨M.dr,M.bd,M.hb,by omega,M.lt⟩,m12⟩
 rintro _ H2 ⟨m,b,B,x4,x6,rfl,M2,m12⟩;have lB:=M2.len;refine⟨_,rfl,_,rfl,_,rfl,_,rfl,_,rfl,b,B,m,rfl,M2.hb,by omega,m12,M2.lt,fun r R H3 e3 r0 hR lR ltR=>?_⟩;have D3:=M2.dr.ext e3;obtain⟨q5,z5⟩:=D3.1;refine⟨d,q5,m,r,R,rfl,z5,M2.dr.ne r0,hR,lR,m12,fun r2 S H4 d4 r20 hS sS lS=>?_⟩;have D4:=D3.trans d4;refine⟨(by show 2<=sizeLine;decide),fun T hT=>?_⟩;exact q T r2 m S _ (D4.new hT _) (D4.none hT) upd_same (D3.none r20) ((Ext.new hT _) _ _ hS) sS lS m12
end
end My
namespace My
open PySem L2
theorem qFm {a b:List Nat} (h1:∀ x∈a,Spn b x) (h2:∀ x∈b,Spn a x) (y:Nat):Spn a y↔Spn b y:=⟨Spn.mono h1,Spn.mono h2⟩
theorem spn_snoc {ms:List Nat} {x:Nat} (h:Spn ms x) (y:Nat):Spn (ms++[x]) y↔Spn ms y:=qFm (fun z hz=>by
 rcases hAb.mp hz with h' | h'
 ·exact .mem h'
 ·rw[hA4.mp h'];exact h) (fun z hz=>.mem (hAg _ hz)) y
theorem spn_set {ms:List Nat} {i j:Nat} (hi:i<ms.length) (hj:j<ms.length) (ne:i≠j) (y:Nat):Spn (ms.set i (ms[i]^^^ms[j])) y↔Spn ms y:=qFm (fun z hz=>by
 rcases hD6 hz with h | h
 ·exact .mem h
 ·rw[h];exact(Spn.mem (hBp hi)).xor (.mem (hBp hj))) (fun z hz=>by
 obtain⟨k,hk,rfl⟩:=hBy hz;have m1:ms[i]^^^ms[j]∈ms.set i (ms[i]^^^ms[j]):=by
  have:=hBp (l:=ms.set i (ms[i]^^^ms[j])) (n:=i) (by rw[hDa];exact hi)
  rwa [List.getElem_set_self]at this
 have m2:∀ k (hk:k<ms.length),k≠i->ms[k]∈ms.set i (ms[i]^^^ms[j]):=fun k hk nk=>by
  have:=hBp (l:=ms.set i (ms[i]^^^ms[j])) (n:=k) (by rw[hDa];exact hk)
  rwa [List.getElem_set_ne (Ne.symm nk)]at this
 by_cases e:k=i
 ·subst e;have:=(Spn.mem m1).xor (.mem (m2 j hj (Ne.symm ne)))
  rwa [qBc]at this
 ·exact .mem (m2 k hk e)) y
theorem qCd {a b:List Nat} (p:a.Perm b) (y:Nat):Spn a y↔Spn b y:=qFm (fun z hz=>.mem (p.mem_iff.mp hz)) (fun z hz=>.mem (p.mem_iff.mpr hz)) y
noncomputable def rowV (xs:List V) (x:Nat):List V:=(List.range xs.length).filterMap fun i=>if x.testBit i=true then xs[i]? else none
theorem rowV_str (names:List Str) (x:Nat):rowV (names.map V.str) x=(rowL names x).map V.str:=by
 unfold rowV rowL;rw[hA1,List.map_filterMap];congr 1
 funext i
 by_cases b:x.testBit i=true
 ·rw[if_pos b,if_pos b,hAs]
 ·rw[if_neg b,if_neg b];rfl
def qF0:Sp:=fun vs H Q _=>∃ (pn:Addr) (xs:List V) (x:Nat),vs=[.ref pn,iV x]/\H pn=some (.lst xs)/\xs.length<=12/\∀ r H',Ext H H'->H r=none->H' r=some (.lst (rowV xs x))->Q (.ref r) H'
theorem row_of {P:Program} {w:World} {K:PySem.W.Frag} {mg:Str->Option Value} {base:Heap} {k:Nat} {f:Addr} {fd:FuncData} {ps:List Str} (F:FnOk P w K mg base CX0 k f fd ps qF0):FnOk P w K mg base CX0 k f fd ps spLRow:=F.imp fun vs H Q E ⟨pn,names,x,e,hn,ln,q⟩=>⟨pn,names.map V.str,x,e,hn,by rw[hA1];exact ln,fun r H' ex r0 h=>q r H' ex r0 (by rw[rowV_str]at h;exact h)⟩
def spTab:Sp:=fun vs H Q _=>∃ (d:Addr) (n:Int) (m:Nat) (p:Addr) (S:List Nat),vs=[.ref d,iV m,.ref p]/\H d=some (.lst [.int n])/\p≠d/\LsN H p S/\S.length<=8/\m<=12/\(∀ x∈S,x<2^m) /\
 ∀ (T:Addr) (names:List Str) (ms:List Nat) (H':Hp),Dr d H H'->H T=none->qC5 H' T names (ms.map (rowL names))->names.length=m->Rise names->SOk names->ms.length<=16->(∀ x∈ms,x<2^m)->(∀ y,Spn ms y↔Spn S y)->Q (.ref T) H'
structure TaS (d na mk:Addr) (H H':Hp) (names:List Str) (S ms:List Nat) (m:Nat):Prop where
 dr:Dr d H H'
 md:mk≠d
 m0:H mk=none
 nd:na≠d
 nm:na≠mk
 hn:LsS H' na names
 hm:LsN H' mk ms
 lt:∀ x∈ms,x<2^m
 sp:∀ y,Spn ms y↔Spn S y
section
variable {d na mk:Addr} {H H1 H2:Hp} {names:List Str} {S ms ms':List Nat} {m:Nat}
theorem TaS.ext (x:TaS d na mk H H1 names S ms m) (e:Ext H1 H2):TaS d na mk H H2 names S ms m:=⟨x.dr.ext e,x.md,x.m0,x.nd,x.nm,e _ _ x.hn,e _ _ x.hm,x.lt,x.sp⟩
theorem TaS.take (x:TaS d na mk H H1 names S ms m) (q:Int):TaS d na mk H (upd H1 d (.lst [.int q])) names S ms m:=⟨x.dr.take q,x.md,x.m0,x.nd,x.nm,by unfold LsS;rw[upd_ne x.nd];exact x.hn,by unfold LsN;rw[upd_ne x.md];exact x.hm,x.lt,x.sp⟩
theorem TaS.put (x:TaS d na mk H H1 names S ms m) (lt:∀ y∈ms',y<2^m) (sp:∀ y,Spn ms' y↔Spn ms y):TaS d na mk H (upd H1 mk (.lst (ms'.map iV))) names S ms' m:=⟨x.dr.over x.m0 x.md _,x.md,x.m0,x.nd,x.nm,by unfold LsS;rw[upd_ne x.nm];exact x.hn,upd_same,lt,fun y=>(sp y).trans (x.sp y)⟩
end
section
variable {P:Program} {w:World} {K:PySem.W.Frag} {mg:Str->Option Value} {base:Heap} {f f1 f2 f3:Addr} {fd fd1 fd2 fd3:FuncData}
theorem scLRw:FnScope ["_law_names_here","_law_mask"] ["_law_names_here","_law_mask"] (qAb sLRow):=⟨rfl,rfl,rfl,by decide +kernel,rfl,by decide +kernel,by decide +kernel⟩
theorem ok_lrw (F:Fun K "_law_row" "_law_row" sLRow f fd) (ml:mg "len" = none) (mr:mg "range" = none):FnOk P w K mg base CX0 1 f fd ["_law_names_here","_law_mask"] qF0:=by
 refine F.ok scLRw (fun vs H Q E h=>?_) (fun cdv A outer s H vs Q E hr h=>?_)
 ·obtain⟨a,b,_,rfl,_⟩:=h;rfl
 obtain⟨a,ns,x,rfl,ha,h1,q⟩:=h;refine⟨_,pss_one (ps_ret
  (qBo (N:=["_law_names_here","_law_mask"]) (sc:=qAb sLRow) (N':=["_law_k","_law_names_here","_law_mask"]) (sub:=[none,some 0,some 1]) rfl rfl (CmpOk.of (by decide +kernel)) rfl
   (qAw rfl mr (pa_cons (qAj qAi rfl ml hAw (pa_cons (pv 0) pa_nil)) pa_nil))
   (fun C s H fp=>⟨qAd (i:=0) (by show(["_law_k","_law_names_here","_law_mask"]:List Str).Nodup;decide) rfl (Or.inl rfl),qBh (qAk qBl (qAh qBg (qAh qFa (pv 2) (pv 0)) qAc) qAc (qAq _)),
    qBv (show IxR _ (rIxL K) from qBe) (pv 1) (pv 0) (fun _ _=>rfl)⟩))),?_⟩
 try dsimp only[Cx.wish,qBy]
 refine⟨_,rfl,a,_,rfl,.inl (SqL.of ha),_,rfl,by omega,by omega,?_⟩;rw[hB4];refine qBz (lo:=0) (n:=ns.length) (fun i ys H'=>H'=H/\ys=((List.range i).filterMap fun i=>if x.testBit i=true then ns[i]? else none)) ⟨rfl,rfl⟩ ?_ ?_
 ·rintro i ys H' hi ⟨rfl,rfl⟩;rw[show(0+(i:Int))=((i:Nat):Int) by omega];refine⟨Sle.set _ (Sle.refl _) (fun u z=>by cases z),_,rfl,_,rfl,_,_,rfl,rfl,(by show(0:Int)<=_;omega),_,_,rfl,rfl,rfl,_,rfl,?_⟩;have key:(decide (V.int (Builtin.bitAnd ((x:Int) / 2^((i:Nat):Int).toNat) 1)=V.int 1)=true)↔x.testBit i=true:=by
   rw[decide_eq_true_iff,V.int.injEq,hB4,qC6];by_cases b:x.testBit i=true
   ·simp[b]
   ·simp[b]
  have fm:((List.range (i+1)).filterMap fun i=>if x.testBit i=true then ns[i]? else none)=((List.range i).filterMap fun i=>if x.testBit i=true then ns[i]? else none)++(if x.testBit i=true then [ns[i]] else []):=by
   rw[hC9,List.filterMap_append];congr 1;by_cases b:x.testBit i=true
   ·simp[b,hA2 hi]
   ·simp[b]
  have sz:=List.length_filterMap_le (fun i=>if x.testBit i=true then ns[i]? else none) (List.range i);rw[hAy]at sz;refine qBw (fun c=>?_) (fun c=>?_)
  ·have hv:atI ns ((i:Nat):Int)=some ns[i]:=qB5 (hA2 hi);refine⟨_,rfl,_,rfl,a,_,_,_,rfl,rfl,SqL.of ha,hv,qAf (by omega),nxt hi ⟨rfl,?_⟩⟩;rw[fm,if_pos (key.mp c)]
  ·refine nxt hi ⟨rfl,?_⟩;rw[fm,if_neg fun z=>c (key.mpr z),hBe]
 ·rintro ys H' ⟨rfl,rfl⟩;exact fun r hr'=>q r _ (Ext.new hr' _) hr' upd_same
noncomputable abbrev taN:List Str:=["_law_draw","_law_many","_law_base","_law_names_here","_law_masks","_law_k","_law_one","_law_other","_law_extra","_law_sums","_law_mask","_law_rows"]
theorem qEx:FnScope taN ["_law_draw","_law_many","_law_base"] (qAb sTab):=⟨rfl,rfl,rfl,by decide +kernel,rfl,by decide +kernel,by decide +kernel⟩
theorem ok_tab (F:Fun K "_law_table" "_law_table" sTab f fd) (G:Cl P w K mg base CX0 1 f1 fd1 ["_law_draw","_law_many"] qDo "_law_take")
  (G2:Cl P w K mg base CX0 2 f2 fd2 ["_law_draw","_law_many"] spNames "_law_names")
  (G3:Cl P w K mg base CX0 1 f3 fd3 ["_law_names_here","_law_mask"] qF0 "_law_row")
  (mr:mg "range" = none) (ml:mg "len" = none) (mL:mg "list" = none) (mi:mg "int" = none) :
  FnOk P w K mg base CX0 3 f fd ["_law_draw","_law_many","_law_base"] spTab:=by
 refine F.ok qEx (fun vs H Q E h=>?_) (fun cdv A outer s H vs Q E hr h=>?_)
 ·obtain⟨d,n,m,p,S,rfl,_⟩:=h;rfl
 obtain⟨d,n,m,p,S,rfl,hd,pd,hp,lS,m12,lt,q⟩:=h;have hr1:=hr.mono (j:=1) (by decide);refine⟨_,qAa (qAg (i:=3) qEx.nd rfl (Or.inl rfl) (qAp G2 hr rfl .nil qAo (pa_cons (pv 0) (pa_cons (pv 1) pa_nil))))
  (qAa (qBd (qAg (i:=4) qEx.nd rfl (Or.inl rfl) (qA6 qCg rfl mL qBu (pa_cons (pv 2) pa_nil))))
  (qAa (qBd (qAz PassesOwn.never rfl (qAw rfl mr (pa_cons (qAh qC3 (qAp G hr1 rfl .nil qAo (pa_cons (pv 0) (pa_cons qAc pa_nil))) (qA6 qDh rfl mi qDi (pa_cons (qDa op_gt (qAj qAi rfl ml hAw (pa_cons (pv 4) pa_nil)) qAc (qAq _)) pa_nil))) pa_nil)) (qAd (i:=5) qEx.nd rfl (Or.inl rfl))
   (qAa (qAg (i:=6) qEx.nd rfl (Or.inl rfl) (qAp G hr1 rfl .nil qAo (pa_cons (pv 0) (pa_cons (qAj qAi rfl ml hAw (pa_cons (pv 4) pa_nil)) pa_nil))))
   (qAa (qAg (i:=7) qEx.nd rfl (Or.inl rfl) (qAh qDc (qAh qBa (qAh qBa (pv 6) qAc) (qAp G hr1 rfl .nil qAo (pa_cons (pv 0) (pa_cons (qAh qCp (qAj qAi rfl ml hAw (pa_cons (pv 4) pa_nil)) qAc) pa_nil)))) (qAj qAi rfl ml hAw (pa_cons (pv 4) pa_nil))))
   (pss_one (qEe (qAh qC2 (qBv qBe (pv 4) (pv 6) (fun _ _=>rfl)) (qBv qBe (pv 4) (pv 7) (fun _ _=>rfl))) (pg_sub (pv 4) (pv 6) qFn)))))))
  (qAa (qAg (i:=8) qEx.nd rfl (Or.inl rfl) (qAp G hr1 rfl .nil qAo (pa_cons (pv 0) (pa_cons qAc pa_nil))))
  (qAa (qBd (qBf (qAk qBl (qAp G hr1 rfl .nil qAo (pa_cons (pv 0) (pa_cons qAc pa_nil))) qAc (qAq _)) (pss_one (qAg (i:=8) qEx.nd rfl (Or.inl rfl) (qAh qCp qAc (qAj qAi rfl ml hAw (pa_cons (pv 4) pa_nil))))) qAu))
  (qAa (qBd (qAz PassesOwn.never rfl (qAw rfl mr (pa_cons (pv 8) pa_nil)) (qAd (i:=5) qEx.nd rfl (Or.inl rfl))
   (qAa (qAg (i:=9) qEx.nd rfl (Or.inl rfl) qAc)
   (qAa (qAz PassesOwn.never rfl (qAn (qEg sl_list (pv 4) qGd (qGc (qAj qAi rfl ml hAw (pa_cons (pv 2) pa_nil))))) (qAd (i:=10) qEx.nd rfl (Or.inl rfl))
    (pss_one (qAg (i:=9) qEx.nd rfl (Or.inl rfl) (qAh qC2 (pv 9) (qAh qC3 (pv 10) (qAp G hr1 rfl .nil qAo (pa_cons (pv 0) (pa_cons qAc pa_nil))))))))
   (pss_one (ps_expr (pe_bm hAq hB5 hB6 mt_append (pv 4) (pa_cons (pv 9) pa_nil))))))))
  (qAa (qAg (i:=11) qEx.nd rfl (Or.inl rfl) (pe_lst pa_nil))
  (qAa (ps_while PassesOwn.never (qAk (qG9 (qF7 hr)) (pv 4) (pe_lst pa_nil) (qAq _))
   (pss_one (ps_expr (pe_bm hAq hB5 hB6 mt_append (pv 11) (pa_cons (pe_call (row_of G3.g) hr1 rfl G3.m G3.k G3.b .nil qAo (pa_cons (pv 3) (pa_cons (pe_bm hAq PySem.F.slot_list_pop PySem.F.type_list_pop mt_popAt (pv 4) (pa_cons (qAp G hr1 rfl .nil qAo (pa_cons (pv 0) (pa_cons (qAj qAi rfl ml hAw (pa_cons (pv 4) pa_nil)) pa_nil))) pa_nil)) pa_nil))) pa_nil)))))
  (pss_one (ps_ret (qCe (pa_cons (pv 3) (pa_cons (pv 11) pa_nil)))))))))))),?_⟩
 try dsimp only[Cx.wish,qBy]
 refine⟨_,rfl,_,rfl,d,n,(m:Int),rfl,hd,by omega,by omega,fun na names q1 H1 e1 na0 hN lN ndN srt okN=>?_⟩;have D1:Dr d H H1:=Dr.of_upd e1;have nad:na≠d:=qDk hd na0;have lN':names.length=m:=by omega
 have rN:Rise names:=rise_of srt ndN;have hp1:LsN H1 p S:=D1.2 _ _ pd hp;refine⟨fun σ' H'=>∃ mk,σ'=[some (.ref d),some (iV m),some (.ref p),some (.ref na),some (.ref mk),none,none,none,none,none,none,none]/\TaS d na mk H H' names S S m,?_,?_⟩
 ·refine⟨_,rfl,p,_,rfl,.inl (SqL.of hp1),fun mk hmk=>?_⟩;exact⟨mk,rfl,D1.new hmk _,D1.ne hmk,D1.none hmk,nad,qAe hN hmk,(Ext.new hmk _) _ _ hN,upd_same,lt,fun y=>Iff.rfl⟩
 rintro _ H2 ⟨mk,rfl,T2⟩;have pm:2^m<=2^12:=hB9 (by decide) m12;refine⟨fun σ' H'=>∃ (ms:List Nat) (x5 x6 x7:Option V),σ'=[some (.ref d),some (iV m),some (.ref p),some (.ref na),some (.ref mk),x5,x6,x7,none,none,none,none]/\TaS d na mk H H' names S ms m/\ms.length=S.length,?_,?_⟩
 ·obtain⟨q2,z2⟩:=T2.dr.1;refine⟨_,rfl,d,q2,7,rfl,z2,by decide,by decide,fun q3 t ta tb=>?_⟩;have T3:=T2.take q3;refine⟨_,rfl,mk,_,rfl,.inl (SqL.of T3.hm),_,_,rfl,rfl,.inr ⟨_,rfl,_,_,rfl,rfl,.inl ⟨by omega,by omega⟩,_,rfl,?_,?_,?_⟩⟩
  ·show -(2^62)<=t*_;split <;> omega
  ·show t*_<2^62;split <;> omega
  refine qA7 (lo:=0) (fun i σ H'=>∃ (ms:List Nat) (x5 x6 x7:Option V),σ=[some (.ref d),some (iV m),some (.ref p),some (.ref na),some (.ref mk),x5,x6,x7,none,none,none,none]/\TaS d na mk H H' names S ms m/\ms.length=S.length) ⟨S,none,none,none,rfl,T3,rfl⟩ ?_ (fun σ' H' z=>z);rintro i σ H' hi ⟨ms,x5,x6,x7,rfl,T,lm⟩;have l1:1<ms.length:=by
   rw[lm];by_cases c:1<S.length
   ·exact c
   ·exfalso;have cz:decide ((1:Int)<(((S.map iV).length:Nat):Int))=false:=decide_eq_false (by rw[hA1];omega);rw[show(decide ((1:Int)<(((S.map iV).length:Nat):Int)))=false from cz]at hi;simp at hi
  obtain⟨q4,z4⟩:=T.dr.1;refine⟨_,rfl,_,rfl,mk,_,rfl,.inl (SqL.of T.hm),d,q4,_,rfl,z4,by rw[hA1];omega,by rw[hA1];omega,fun q5 one oa ob=>?_⟩;have T5:=T.take q5;rw[hA1]at ob;obtain⟨one,rfl⟩:=hB8 oa;refine⟨_,rfl,_,_,rfl,rfl,_,rfl,_,rfl,mk,_,rfl,.inl (SqL.of T5.hm),_,_,rfl,rfl,d,q5,_,rfl,upd_same,?_,?_,fun q6 u ua ub=>?_⟩
  ·show(0:Int)<(((ms.map iV).length:Nat):Int) - 1;rw[hA1];omega
  ·show(((ms.map iV).length:Nat):Int) - 1<1073741824;rw[hA1];omega
  rw[qB3];have T6:=T.take q6;have ub':u<(ms.length:Int) - 1:=by
   have:=ub
   change u<(((ms.map iV).length:Nat):Int) - 1 at this
   rw[hA1]at this;exact this
  refine⟨_,_,rfl,rfl,_,rfl,mk,_,rfl,.inl (SqL.of T6.hm),_,_,rfl,rfl,?_,?_⟩
  ·show(0:Int)<(((ms.map iV).length:Nat):Int);rw[hA1];omega
  have ml0:(0:Int)<(ms.length:Int):=by omega
  obtain⟨oth,eo⟩:=hB8 (Int.emod_nonneg ((one:Int)+1+u) (Int.ne_of_gt ml0));have ol:oth<ms.length:=by
   have:=Int.emod_lt_of_pos ((one:Int)+1+u) ml0;omega
  have ne:one≠oth:=by
   intro e;subst e;by_cases c:(one:Int)+1+u<ms.length
   ·rw[Int.emod_eq_of_lt (by omega) c]at eo;omega
   ·rw[<-Int.sub_emod_right,Int.emod_eq_of_lt (by omega) (by omega)]at eo;omega
  have eo':((one:Int)+1+u) % (((ms.map iV).length:Nat):Int)=(oth:Int):=by rw[hA1];exact eo
  have o1:one<ms.length:=by omega
  refine⟨_,rfl,_,rfl,mk,_,_,_,rfl,rfl,SqL.of T6.hm,qFk o1,_,rfl,_,rfl,mk,_,_,_,rfl,rfl,SqL.of T6.hm,(by show atI _ (((one:Int)+1+u) % (((ms.map iV).length:Nat):Int))=_;rw[eo'];exact qFk ol),_,_,rfl,rfl,_,rfl,_,rfl,mk,_,_,one,rfl,rfl,T6.hm,ixN_nat (by rw[hA1];exact o1),?_⟩;have ev:(ms.map iV).set one (V.int (Builtin.bitXor ((ms[one]:Nat):Int) ((ms[oth]:Nat):Int)))=(ms.set one (ms[one]^^^ms[oth])).map iV:=by rw[List.map_set,qBm]
  refine⟨ms.set one (ms[one]^^^ms[oth]),_,_,_,rfl,?_,by rw[hDa];exact lm⟩;have T7:=T6.put (ms':=ms.set one (ms[one]^^^ms[oth])) (fun y hy=>by
   rcases hD6 hy with h | h
   ·exact T6.lt y h
   ·rw[h];exact hCf (T6.lt _ (hBp o1)) (T6.lt _ (hBp ol))) (spn_set o1 ol ne)
  rw[<-ev]at T7;exact T7
 rintro _ H3 ⟨ms,x5,x6,x7,rfl,T3,lm⟩;obtain⟨q4,z4⟩:=T3.dr.1;refine⟨_,rfl,d,q4,4,rfl,z4,by decide,by decide,fun q5 ex xa xb=>?_⟩;have T5:=T3.take q5;refine⟨fun σ' H'=>∃ (ex:Int),σ'=[some (.ref d),some (iV m),some (.ref p),some (.ref na),some (.ref mk),x5,x6,x7,some (.int ex),none,none,none]/\TaS d na mk H H' names S ms m/\0<=ex/\ex+ms.length<=16,?_,?_⟩
 ·refine⟨_,rfl,d,q5,8,rfl,upd_same,by decide,by decide,fun q6 z za zb=>⟨rfl,_,rfl,?_⟩⟩;rw[qB3];have T6:=T3.take q6;refine qBw (fun c=>?_) (fun c=>⟨ex,rfl,T6,by omega,by omega⟩);refine⟨_,rfl,mk,_,rfl,.inl (SqL.of T6.hm),_,_,rfl,rfl,16 - (((ms.map iV).length:Nat):Int),rfl,T6,?_,?_⟩
  ·rw[hA1];omega
  ·rw[hA1];omega
 rintro _ H6 ⟨ex,rfl,T6,ex0,ex1⟩;refine⟨fun σ' H'=>∃ (ms:List Nat) (x5 x9 x10:Option V),σ'=[some (.ref d),some (iV m),some (.ref p),some (.ref na),some (.ref mk),x5,x6,x7,some (.int ex),x9,x10,none]/\TaS d na mk H H' names S ms m/\ms.length<=16,?_,?_⟩
 ·refine⟨_,rfl,ex,rfl,by omega,by omega,?_⟩;refine qA7 (lo:=0) (n:=ex.toNat) (fun i σ H'=>∃ (ms':List Nat) (x5 x9 x10:Option V),σ=[some (.ref d),some (iV m),some (.ref p),some (.ref na),some (.ref mk),x5,x6,x7,some (.int ex),x9,x10,none]/\TaS d na mk H H' names S ms' m/\ms'.length=ms.length+i) ⟨ms,x5,none,none,rfl,T6,rfl⟩ ?_ ?_
  ·rintro i σ H' hi ⟨ms',y5,x9,x10,rfl,T,lm'⟩;have hpH:LsN H' p S:=T.dr.2 _ _ pd hp;refine⟨_,rfl,_,rfl,p,_,rfl,.inl (SqL.of hpH),_,rfl,mk,_,rfl,SqL.of T.hm,fun l hl=>?_⟩;have cu:cutV (ms'.map iV) none (some (((S.map iV).length:Nat):Int))=(ms'.take S.length).map iV:=by rw[cut_to,hA1,List.map_take]
   rw[cu];have nl:=Ext.new hl (.lst ((ms'.take S.length).map iV));have ld:=T.dr.ne hl;refine⟨l,rfl,⟨_,SqL.of upd_same⟩,?_⟩;refine qA2 (xs:=(ms'.take S.length).map iV) (fun j σ H2=>∃ (sm:Nat) (x10:Option V),σ=[some (.ref d),some (iV m),some (.ref p),some (.ref na),some (.ref mk),some (.int (0+(i:Int))),x6,x7,some (.int ex),some (iV sm),x10,none]/\TaS d na mk H H2 names S ms' m/\LsN H2 l (ms'.take S.length)/\Spn ms' sm/\sm<2^m) ⟨0,x10,rfl,T.ext nl,upd_same,.zero,hDj (by decide)⟩ (fun j σ H2 _ z=>by obtain⟨_,_,_,_,h,_⟩:=z;exact SqL.of h) ?_ ?_
   ·rintro j v σ H2 hx ⟨sm,x10,rfl,T2,hl2,sp2,sl2⟩;obtain⟨x,rfl,hx'⟩:=qA1 hx;have xm:x∈ms':=hC7 (hAd hx');have xl:=T2.lt x xm;obtain⟨q7,z7⟩:=T2.dr.1;refine⟨_,rfl,_,rfl,_,rfl,d,q7,2,rfl,z7,by decide,by decide,fun q8 t ta tb=>?_⟩;refine⟨_,_,rfl,rfl,.inl ⟨by omega,by omega⟩,_,_,rfl,rfl,?_⟩;have hl3:LsN (upd H2 d (.lst [.int q8])) l (ms'.take S.length):=by unfold LsN;rw[upd_ne ld];exact hl2
    by_cases c:t=0
    ·subst c;refine⟨sm,some (iV x),?_,T2.take q8,hl3,sp2,sl2⟩;refine congrArg (fun v=>[some (V.ref d),some (iV m),some (V.ref p),some (V.ref na),some (V.ref mk),some (V.int (0+(i:Int))),x6,x7,some (V.int ex),some v,some (iV x),none]) ?_;show V.int (Builtin.bitXor ((sm:Nat):Int) (((x:Nat):Int)*0))=V.int _;rw[Int.mul_zero,show(0:Int)=((0:Nat):Int) from rfl,qBm,Nat.xor_zero]
    ·have t1:t=1:=by omega
     subst t1;refine⟨sm^^^x,some (iV x),?_,T2.take q8,hl3,sp2.xor (.mem xm),hCf sl2 xl⟩;refine congrArg (fun v=>[some (V.ref d),some (iV m),some (V.ref p),some (V.ref na),some (V.ref mk),some (V.int (0+(i:Int))),x6,x7,some (V.int ex),some v,some (iV x),none]) ?_;show V.int (Builtin.bitXor ((sm:Nat):Int) (((x:Nat):Int)*1))=V.int _;rw[Int.mul_one,qBm]
   ·rintro σ H2 ⟨sm,x10,rfl,T2,hl2,sp2,sl2⟩;refine⟨_,rfl,.inl ⟨rfl,_,SqL.of T2.hm⟩,_,rfl,mk,_,_,rfl,rfl,T2.hm,by rw[hA1];exact qAf (by omega),ms'++[sm],_,_,_,rfl,?_,by rw[hA7,lm'];rfl⟩;have T9:=T2.put (ms':=ms'++[sm]) (fun y hy=>by
     rcases hAb.mp hy with h | h
     ·exact T2.lt y h
     ·rw[hA4.mp h];exact sl2) (spn_snoc sp2)
    rw[hA3]at T9;exact T9
  ·rintro σ H' ⟨ms',y5,x9,x10,rfl,T,lm'⟩;exact⟨ms',_,_,_,rfl,T,by omega⟩
 rintro _ H7 ⟨ms7,y5,x9,x10,rfl,T7,l7⟩;refine⟨hAp _,fun ro hro=>?_⟩;have nr:=Ext.new hro (.lst []);have T8:=T7.ext nr;have rod:=T7.dr.ne hro;have ro0:=T7.dr.none hro;have rom:mk≠ro:=qAe T7.hm hro;have ron:na≠ro:=qAe T7.hn hro;have R8:upd H7 ro (.lst []) ro=some (.lst []):=upd_same;revert T8 R8;generalize upd H7 ro (.lst [])=H8;intro T8 R8;obtain⟨q8,z8⟩:=T8.dr.1;have ltP:∀ (a b:List Nat),(a++b).Perm ms7->∀ x∈a,x<2^m:=fun a b pm x hx=>T8.lt x (pm.mem_iff.mp (hAg _ hx))
 refine⟨fun k σ H'=>∃ (m1 m2:List Nat),k=m2.length/\σ=[some (.ref d),some (iV m),some (.ref p),some (.ref na),some (.ref mk),y5,x6,x7,some (.int ex),x9,x10,some (.ref ro)]/\Dr d H H'/\LsS H' na names/\LsN H' mk m2/\RowsY H8 H' ro (m1.map (rowL names))/\(m1++m2).Perm ms7/\∀ b,H' b=none->H8 b=none,⟨_,[],ms7,rfl,rfl,T8.dr,T8.hn,T8.hm,⟨[],R8,.nil⟩,hCo _,fun _ z=>z⟩,?_⟩;rintro k σ H' ⟨m1,m2,rfl,rfl,dr,hN',hM',⟨as,hR,pr⟩,pm,tr⟩;have lpm:=pm.length_eq;rw[hA7]at lpm;have las:=pr.length;rw[hA1]at las;refine⟨_,rfl,hAp _,fun e0 he0=>?_⟩;have ne:=Ext.new he0 (.lst []);have drE:=dr.ext ne;have hN2:=ne _ _ hN';have hM2:=ne _ _ hM';have hR2:=ne _ _ hR;have pr2:=Paired.mapP (G:=fun a r=>LsS (upd H' e0 (.lst [])) a r/\H8 a=none/\a≠ro) pr fun a r z=>⟨ne _ _ z.1,z.2⟩
 have hE':LsN (upd H' e0 (.lst [])) e0 []:=upd_same;have trE:∀ b,upd H' e0 (.lst []) b=none->H8 b=none:=fun b z=>tr b (ne.none z)
 revert drE hN2 hM2 hR2 pr2 hE' trE;generalize upd H' e0 (.lst [])=H1;intro drE hN2 hM2 hR2 pr2 hE' trE;refine⟨intD m2,intD [],dr_iv hM2,dr_iv hE',qB2 _,qB2 _,_,rfl,?_⟩;rw[if_pos rfl,eqv_nil];refine qBw (fun c=>?_) (fun c=>?_)
 ·have s0:0<m2.length:=by
   cases m2 with
   | nil=>exact absurd c (by decide)
   | cons a r=>exact hE4 _
  refine⟨fun σ' H2=>∃ k',k'<m2.length/\∃ (m1 m2:List Nat),k'=m2.length/\σ'=[some (.ref d),some (iV m),some (.ref p),some (.ref na),some (.ref mk),y5,x6,x7,some (.int ex),x9,x10,some (.ref ro)]/\Dr d H H2/\LsS H2 na names/\LsN H2 mk m2/\RowsY H8 H2 ro (m1.map (rowL names))/\(m1++m2).Perm ms7/\∀ b,H2 b=none->H8 b=none,fun σ' H2 z=>z,?_⟩;obtain⟨q0,z0⟩:=drE.1;refine⟨_,rfl,.inl ⟨rfl,_,SqL.of hR2⟩,_,rfl,_,rfl,.inl ⟨rfl,_,SqL.of hM2⟩,_,rfl,_,rfl,mk,_,rfl,.inl (SqL.of hM2),d,q0,_,rfl,z0,by rw[hA1];omega,by rw[hA1];omega,fun q1 j ja jb=>?_⟩;rw[hA1]at jb;obtain⟨j,rfl⟩:=hB8 ja;have jl:j<m2.length:=by omega
  have hx:=hA2 jl;have sq:seqIndex? (j:Int) (m2.map iV).length=some j:=by
   have:=PySem.StrLaws.seqIndex_nonneg (i:=(j:Int)) (n:=(m2.map iV).length) (by omega) (by rw[hA1];omega);rw[hB4]at this;exact this
  refine⟨mk,m2.map iV,(j:Int),j,iV m2[j],rfl,rfl,by rw[upd_ne T8.md];exact hM2,by omega,by omega,sq,by rw[hAs,hx];rfl,?_⟩;have em:(m2.map iV).eraseIdx j=(m2.eraseIdx j).map iV:=by rw[hCh,hCh,hA3,List.map_take,List.map_drop]
  rw[em];have dr4:=(drE.take q1).over T8.m0 T8.md (.lst ((m2.eraseIdx j).map iV));have hN4:LsS (upd (upd H1 d (.lst [.int q1])) mk (.lst ((m2.eraseIdx j).map iV))) na names:=by unfold LsS;rw[upd_ne T8.nm,upd_ne T8.nd];exact hN2
  have hM4:LsN (upd (upd H1 d (.lst [.int q1])) mk (.lst ((m2.eraseIdx j).map iV))) mk (m2.eraseIdx j):=upd_same;have hR4:upd (upd H1 d (.lst [.int q1])) mk (.lst ((m2.eraseIdx j).map iV)) ro=some (.lst (as.map V.ref)):=by rw[upd_ne (Ne.symm rom),upd_ne rod];exact hR2
  have pr4:Paired (fun a r=>LsS (upd (upd H1 d (.lst [.int q1])) mk (.lst ((m2.eraseIdx j).map iV))) a r/\H8 a=none/\a≠ro) as (m1.map (rowL names)):=Paired.mapP pr2 fun a r z=>⟨by
   have ad:a≠d:=fun e=>by rw[e,z8]at z;exact absurd z.2.1 (by simp)
   have am:a≠mk:=fun e=>by rw[e,T8.hm]at z;exact absurd z.2.1 (by simp)
   unfold LsS;rw[upd_ne am,upd_ne ad];exact z.1,z.2⟩
  have tr4:∀ b,upd (upd H1 d (.lst [.int q1])) mk (.lst ((m2.eraseIdx j).map iV)) b=none->H8 b=none:=fun b z=>trE b (by
   have nm:b≠mk:=fun e=>by rw[e,upd_same]at z;cases z
   rw[upd_ne nm]at z;have nd:b≠d:=fun e=>by rw[e,upd_same]at z;cases z
   rw[upd_ne nd]at z;exact z)
  revert dr4 hN4 hM4 hR4 pr4 tr4;generalize upd (upd H1 d (.lst [.int q1])) mk (.lst ((m2.eraseIdx j).map iV))=H4;intro dr4 hN4 hM4 hR4 pr4 tr4;refine⟨na,names,m2[j],rfl,hN4,by omega,fun r5 H5 e5 r50 hr5=>?_⟩;have le:(m2.eraseIdx j).length=m2.length - 1:=List.length_eraseIdx_of_lt jl;have r5r:r5≠ro:=fun e=>by rw[e,hR4]at r50;cases r50
  have f8:H8 r5=none:=tr4 r5 r50;refine⟨ro,as.map V.ref,.ref r5,rfl,rfl,e5 _ _ hR4,by rw[hA1,las];exact qAf (by omega),?_⟩;refine⟨_,by omega,m1++[m2[j]],m2.eraseIdx j,rfl,rfl,(dr4.ext e5).over ro0 rod _,by unfold LsS;rw[upd_ne ron];exact e5 _ _ hN4,by unfold LsN;rw[upd_ne rom];exact e5 _ _ hM4,⟨as++[r5],by rw[upd_same,hA3];rfl,?_⟩,?_,fun b z=>tr4 b (by
   have nr:b≠ro:=fun e=>by rw[e,upd_same]at z;cases z
   rw[upd_ne nr]at z;exact e5.none z)⟩
  ·rw[hA3];refine Paired.snoc (Paired.mapP pr4 fun a r z=>⟨by unfold LsS;rw[upd_ne z.2.2];exact e5 _ _ z.1,z.2⟩) ⟨by unfold LsS;rw[upd_ne r5r];exact hr5,f8,r5r⟩
  ·refine List.Perm.trans ?_ pm;rw[hBj];exact hCz m1 (qD1 m2 j _ hx)
 ·have sn:m2=[]:=by
   cases m2 with
   | nil=>rfl
   | cons a r=>exact absurd rfl c
  subst sn;rw[hBe]at pm;refine⟨_,rfl,_,rfl,(by show 2<=sizeLine;decide),fun T hT=>?_⟩;have nT:=Ext.new hT (.tup [.ref na,.ref ro]);refine q T names m1 _ (drE.ext nT) (drE.none hT) ⟨na,ro,upd_same,nT _ _ hN2,as,nT _ _ hR2,Paired.mapP pr2 fun a r z=>nT _ _ z.1⟩ lN' rN okN ?_ (ltP m1 [] (by rw[hBe];exact pm)) fun y=>(qCd pm y).trans (T8.sp y)
  rw[pm.length_eq];exact l7
end
end My
namespace L2
open PySem PySem.Spec PyProof.Rows
end L2
namespace My
open PySem L2
theorem qDm {names:List Str} (nd:names.Nodup) {x:Nat}:qAt names (rowL names x)=rv names.length x:=hAn fun j=>by
 rw[qA0,qBj];by_cases hj:j<names.length
 ·rw[decide_eq_true hj,hBm,hBm];have hl:names.length - 1 - j<names.length:=by omega
  cases b:x.testBit (names.length - 1 - j) with
  | true=>exact decide_eq_true ⟨names[names.length - 1 - j],hA2 hl,qBi.mpr ⟨_,hl,hA2 hl,b⟩⟩
  | false =>
   refine decide_eq_false ?_;rintro⟨n,hn,hm⟩;obtain⟨i,hi,hin,hb⟩:=qBi.mp hm;have e:i=names.length - 1 - j:=by
    rw[hA2 hl]at hn;rw[hA2 hi]at hin;have:=(List.getElem_inj nd).mp ((hAu hin).trans (hAu hn).symm);exact this
   rw[e,b]at hb;cases hb
 ·rw[decide_eq_false hj];rfl
def spGoo:Sp:=fun vs H Q _=>∃ (p p2:Addr) (F G:List (List Str)),vs=[.ref p,.ref p2]/\qC4 H p F/\qC4 H p2 G/\F.length<=4096/\(∀ r∈F,SOk r/\r.length<=100)/\(∀ r∈G,SOk r)/\F=G/\∀ H',Ext H H'->Q (.bl true) H'
def rIsi (K:PySem.W.Frag):List V->Hp->VK->Prop:=fun xs H Q=>∃ x t c b,xs=[x,.ty c]/\TyOf K H x t/\PySem.W.kitOne K t (.type c)=some b/\Q (.bl b) H
theorem boot_str5:bootBuiltins "str" = some (.type "str"):=by decide +kernel
section
variable {P:Program} {w:World} {K:PySem.W.Frag} {mg:Str->Option Value} {base:Heap} {f f1 f2 f3:Addr} {fd fd1 fd2 fd3:FuncData}
noncomputable abbrev goN:List Str:=["_law_found","_law_due","_law_row_here"]
theorem scGoo:FnScope goN ["_law_found","_law_due"] (qAb sGood):=⟨rfl,rfl,rfl,by decide +kernel,rfl,by decide +kernel,by decide +kernel⟩
theorem ok_goo (F:Fun K "_law_rows_good" "_law_rows_good" sGood f fd) (mi:mg "isinstance" = none) (mL:mg "list" = none) (ms:mg "str" = none):FnOk P w K mg base CX0 1 f fd ["_law_found","_law_due"] spGoo:=by
 refine F.ok scGoo (fun vs H Q E h=>?_) (fun cdv A outer s H vs Q E hr h=>?_)
 ·obtain⟨p,p2,F,G,rfl,_⟩:=h;rfl
 obtain⟨p,p2,F,G,rfl,hF,hG,lF,okF,okG,eFG,q⟩:=h;refine⟨_,qAa (qBf (PW.pt (pw_or (qG6 (qE9 (qAj qD2 rfl mi qD3 (pa_cons (pv 0) (pa_cons (pe_bltn (v:=.ty "list") rfl mL qBu rfl) pa_nil)))))
   (pw_or1 (qAk (qG9 (qF7 hr)) (pv 0) (pv 1) (qAq _))))) (pss_one (ps_ret pe_bl)) qAu)
  (qAa (qAz PassesOwn.never rfl (qAn (pv 0)) (qAd (i:=2) scGoo.nd rfl (Or.inl rfl))
   (pss_one (qBf (PW.pt (pw_or (qG6 (qE9 (qAj qD2 rfl mi qD3 (pa_cons (pv 2) (pa_cons (pe_bltn (v:=.ty "list") rfl mL qBu rfl) pa_nil)))))
    (pw_or1 (qAk (qG9 (qF7 hr)) (qBo (N:=goN) (sc:=qAb sGood) (N':=["_law_name"]) (sub:=[none]) rfl rfl (CmpOk.of (by decide +kernel)) rfl (qAn (pv 2))
     (fun C s H fp=>⟨qAd (i:=0) (by show(["_law_name"]:List Str).Nodup;decide) rfl (Or.inl rfl),qBh (qG6 (qE9 (qAj (show qB9 _ (.builtin "isinstance") (rIsi K) from qD2) rfl mi qD3 (pa_cons (pv 0) (pa_cons (pe_bltn (v:=.ty "str") rfl ms boot_str5 rfl) pa_nil))))),pv 0⟩)) (pe_lst pa_nil) (qAq _))))) (pss_one (ps_ret pe_bl)) qAu)))
  (pss_one (ps_ret pe_bl))),?_⟩
 try dsimp only[Cx.wish,qBy]
 subst eFG;obtain⟨as,hp,pr⟩:=id hF;have la:=pr.length;refine⟨_,rfl,_,_,_,true,rfl,.lst hp,kit_same _ _,true,rfl,iteF ?_⟩;refine⟨_,rfl,_,rfl,rowsD F,rowsD F,dr_rows hF,dr_rows hG,qF2 okG,qF2 okG,_,rfl,?_⟩;rw[if_pos rfl,eqv_rows,decide_eq_true rfl];refine iteF ?_;refine⟨_,rfl,p,rfl,⟨_,SqL.of hp⟩,?_⟩;refine qA2 (xs:=as.map V.ref) (fun i σ H'=>∃ x2:Option V,σ=[some (.ref p),some (.ref p2),x2]/\Ext H H') ⟨none,rfl,Ext.refl _⟩ (fun i σ H' _ z=>by obtain⟨_,_,e⟩:=z;exact SqL.of (e _ _ hp)) ?_ ?_
 ·rintro i v σ H' hx ⟨x2,rfl,e⟩;obtain⟨c,rfl,hc⟩:=qF8 hx;obtain⟨rw1,hrw,hc1⟩:=qB1 pr hc;have ok1:=okF rw1 (hAd hrw);refine⟨_,rfl,_,_,_,true,rfl,.lst (e _ _ hc1),kit_same _ _,true,rfl,iteF ?_⟩;refine⟨_,rfl,c,rfl,⟨_,SqL.of (e _ _ hc1)⟩,?_⟩;refine qAs (xs:=rw1.map V.str) (fun j ys H2=>H2=H'/\ys=[]) ⟨rfl,rfl⟩ (fun j ys H2 _ h=>by rw[h.1];exact SqL.of (e _ _ hc1)) ?_ ?_
  ·rintro j v ys H2 hx2 ⟨rfl,rfl⟩;obtain⟨y,rfl,hy⟩:=qFx hx2;exact⟨Sle.set _ (Sle.refl _) (fun u z=>by cases z),_,rfl,_,_,_,true,rfl,.str y,kit_same _ _,true,rfl,iteF (nxt (at_lt hx2) ⟨rfl,rfl⟩)⟩
  ·rintro ys H2 ⟨rfl,rfl⟩ l hl;have n1:=Ext.new hl (.lst []);refine⟨hAp _,fun l2 hl2=>?_⟩;have n2:=Ext.new hl2 (.lst []);refine⟨intD [],intD [],dr_iv (n2 _ _ upd_same),dr_iv upd_same,qB2 _,qB2 _,_,rfl,?_⟩;rw[if_pos rfl,eqv_nil,decide_eq_true rfl];exact iteF ⟨_,rfl,(e.trans n1).trans n2⟩
 ·rintro σ H' ⟨x2,rfl,e⟩;exact q H' e
end
end My
namespace My
open PySem L2
theorem dot_comm (m x y:Nat):dot m x y=dot m y x:=qBr fun j _=>Bool.and_comm _ _
theorem dot_rv (m x y:Nat):dot m (rv m x) (rv m y)=dot m x y:=by
 unfold dot;rw[<-xsum_rev (fun j=>x.testBit j && y.testBit j) m];refine qBr fun j hj=>?_
 rw[qBj,qBj,decide_eq_true hj,hBm,hBm]
theorem dd {S:List Nat} {m:Nat} (h:RR S) (hm:∀ s∈S,s<2^m) {y:Nat} (hy:y<2^m) (ho:∀ z∈crAll S m,dot m y z=false):Spn S y:=by
 have sp:=red1_spn S S (fun s hs=>hs) y;have lead:=fun s hs=>qEc h (x:=y) s hs
 have lt:red1 S y<2^m:=by
  have:=Spn.lt hm sp;have e:red1 S y=(red1 S y^^^y)^^^y:=(qBc _ _).symm;rw[e];exact hCf this hy
 have ort:∀ p,p<m->¬isLd S p->dot m (red1 S y) (crM S p)=false:=fun p hp np=>by
  have e:red1 S y=(red1 S y^^^y)^^^y:=(qBc _ _).symm;rw[e,qFu,ho _ (hA9.mpr ⟨p,hAf.mpr ⟨hAt.mpr hp,by rw[decide_eq_false np];rfl⟩,rfl⟩),Bool.xor_false];refine spn_dotL (fun s hs=>?_) sp;rw[dot_comm];exact crM_dot h hm hp np s hs
 have z:red1 S y=0:=hAn fun p=>by
  rw[hBq];by_cases hp:p<m
  ·by_cases np:isLd S p
   ·obtain⟨s,hs,rfl⟩:=np;exact lead s hs
   ·have:=ort p hp np;have bit:(crM S p).testBit p=true:=by
     rw[qGp h np,decide_eq_true rfl,decide_eq_false]
     ·rfl
     ·rintro⟨s,hs,_,e⟩;exact np ⟨s,hs,e⟩
    rw[dot_only hp bit fun j hj nj=>?_]at this
    ·exact this
    ·rw[qGp h np,decide_eq_false (Ne.symm nj),Bool.false_xor];by_cases c:∃ s∈S,s.testBit p=true/\s.log2=j
     ·obtain⟨s,hs,_,rfl⟩:=c;rw[lead s hs];rfl
     ·rw[decide_eq_false c,Bool.and_false]
  ·exact qCt lt (Nat.le_of_not_lt hp)
 have:y=red1 S y^^^y:=by rw[z,Nat.zero_xor]
 rw[this];exact sp
section
variable {m:Nat} {S:List Nat}
theorem nld (g:Gm m S) {p:Nat} (hp:p<m):isLd (S.map (rv m)) (m - 1 - p)↔p∈S.map lo:=by
 constructor
 ·rintro⟨s',hs',e⟩;obtain⟨s,hs,rfl⟩:=hA9.mp hs';rw[qC7 (g s hs).1 (g s hs).2]at e;have:=lo_lt (g s hs).1 (g s hs).2;exact hA9.mpr ⟨s,hs,by omega⟩
 ·intro z;obtain⟨s,hs,rfl⟩:=hA9.mp z;exact⟨rv m s,hA9.mpr ⟨s,hs,rfl⟩,qC7 (g s hs).1 (g s hs).2⟩
theorem crL_rv (h:Stp m S) {p:Nat} (hp:p<m) (np:p∉S.map lo):rv m (crLM S p)=crM (S.map (rv m)) (m - 1 - p):=hAn fun j=>by
 have g:=h.gm;have np':¬isLd (S.map (rv m)) (m - 1 - p):=fun z=>np ((nld g hp).mp z)
 rw[qGp h.rr np',qBj,crLM_sum,qDt _ (crL_nd h.nd np)];have key:∀ hj:j<m,(m - 1 - j∈(S.filter fun s:Nat=>s.testBit p).map lo)↔∃ s∈S.map (rv m),s.testBit (m - 1 - p)=true/\s.log2=j:=fun hj=>by
  constructor
  ·intro z;obtain⟨s,hs,e⟩:=hA9.mp z;obtain⟨hs,hb⟩:=hAf.mp hs;refine⟨rv m s,hA9.mpr ⟨s,hs,rfl⟩,?_,?_⟩
   ·rw[qBj,decide_eq_true (by omega),show m - 1 - (m - 1 - p)=p by omega];exact hb
   ·rw[qC7 (g s hs).1 (g s hs).2];omega
  ·rintro⟨s',hs',hb,e⟩;obtain⟨s,hs,rfl⟩:=hA9.mp hs';rw[qBj,decide_eq_true (by omega),show m - 1 - (m - 1 - p)=p by omega,hBm]at hb;rw[qC7 (g s hs).1 (g s hs).2]at e;have:=lo_lt (g s hs).1 (g s hs).2;exact hA9.mpr ⟨s,hAf.mpr ⟨hs,hb⟩,by omega⟩
 by_cases hj:j<m
 ·rw[decide_eq_true hj,hBm];by_cases e:m - 1 - p=j
  ·rw[decide_eq_true e,decide_eq_true (hAh.mpr (.inl (by omega)))];rw[decide_eq_false]
   ·rfl
   ·rintro⟨s',hs',_,e'⟩;exact np' ⟨s',hs',e'.trans e.symm⟩
  ·rw[decide_eq_false e,Bool.false_xor];refine decide_eq_decide.mpr ?_;rw[hAh];constructor
   ·rintro(z | z)
    ·exact absurd (by omega:m - 1 - p=j) e
    ·exact(key hj).mp z
   ·exact fun z=>.inr ((key hj).mpr z)
 ·rw[decide_eq_false hj,Bool.false_and,decide_eq_false (by omega),decide_eq_false]
  ·rfl
  ·rintro⟨s',hs',_,e⟩;obtain⟨s,hs,rfl⟩:=hA9.mp hs';rw[qC7 (g s hs).1 (g s hs).2]at e;have:=lo_lt (g s hs).1 (g s hs).2;omega
theorem crL_spn (h:Stp m S) (y:Nat):Spn ((crLA S m).map (rv m)) y↔Spn (crAll (S.map (rv m)) m) y:=qFm (fun z hz=>by
 obtain⟨x,hx,rfl⟩:=hA9.mp hz;obtain⟨p,hp,rfl⟩:=hA9.mp hx;obtain⟨h1,h2⟩:=hAf.mp hp;have hp':=hAt.mp h1;have np:p∉S.map lo:=by simpa using h2
 rw[crL_rv h hp' np];exact .mem (hA9.mpr ⟨m - 1 - p,hAf.mpr ⟨hAt.mpr (by omega),by rw[decide_eq_false fun z=>np ((nld h.gm hp').mp z)];rfl⟩,rfl⟩)) (fun z hz=>by
 obtain⟨q,hq,rfl⟩:=hA9.mp hz;obtain⟨h1,h2⟩:=hAf.mp hq;have hq':=hAt.mp h1;have nq:¬isLd (S.map (rv m)) q:=by simpa using h2
 have eq:q=m - 1 - (m - 1 - q):=by omega
 have np:m - 1 - q∉S.map lo:=fun z=>nq (by rw[eq];exact(nld h.gm (by omega)).mpr z)
 rw[eq,<-crL_rv h (by omega) np];exact .mem (hA9.mpr ⟨_,hA9.mpr ⟨m - 1 - q,hAf.mpr ⟨hAt.mpr (by omega),by rw[decide_eq_false np];rfl⟩,rfl⟩,rfl⟩)) y
structure Crs (m:Nat) (S R:List Nat):Prop where
 st:Stp m R
 i:∀ y,Spn R y↔y<2^m/\∀ s∈S,dot m y s=false
 ii:∀ y,Spn S y↔y<2^m/\∀ s∈R,dot m y s=false
theorem crs (h:Stp m S) {R:List Nat} (p:R.Perm (redL (crLA S m))) (o:R.Pairwise fun a b=>lo a<=lo b):Crs m S R:=by
 have xl:=crLA_lt h.gm h.nd;have st:Stp m R:=⟨_,xl,p,o⟩;obtain⟨_,e⟩:=qC9 (m:=m) (crLA S m) xl;have sl:∀ s∈S.map (rv m),s<2^m:=fun s hs=>by obtain⟨x,_,rfl⟩:=hA9.mp hs;exact qGx _ _
 have base:∀ y,Spn (R.map (rv m)) y↔Spn (crAll (S.map (rv m)) m) y:=fun y=>by
  rw[qCd (p.map (rv m)),e,qCw,crL_spn h]
 have i:∀ y,Spn R y↔y<2^m/\∀ s∈S,dot m y s=false:=fun y=>by
  constructor
  ·intro sy;have yl:=Spn.lt st.lt sy;refine⟨yl,fun s hs=>?_⟩;have:=(cr_spn h.rr sl (rv m y)).mp ((base _).mp ((qBt st.lt yl).mpr sy));rw[<-dot_rv];exact this.2 _ (hA9.mpr ⟨s,hs,rfl⟩)
  ·rintro⟨yl,ho⟩;refine(qBt st.lt yl).mp ((base _).mpr ((cr_spn h.rr sl (rv m y)).mpr ⟨qGx _ _,fun s hs=>?_⟩));obtain⟨x,hx,rfl⟩:=hA9.mp hs;rw[dot_rv];exact ho x hx
 refine⟨st,i,fun y=>⟨fun sy=>?_,fun ⟨yl,ho⟩=>?_⟩⟩
 ·refine⟨Spn.lt h.lt sy,fun r hr=>?_⟩;rw[dot_comm];exact spn_dot (((i r).mp (.mem hr)).2) sy
 ·refine(qBt h.lt yl).mp (dd h.rr sl (qGx _ _) fun z hz=>?_);have sz:Spn (R.map (rv m)) z:=(base z).mpr (.mem hz);obtain⟨zl,sz'⟩:=(spn_rv st.lt z).mp sz;rw[<-qCj zl,dot_rv];exact spn_dot ho sz'
end
end My
namespace L2
open PySem PySem.Spec PyProof.Rows
theorem run_lam {P:Program} {w:World} {K:PySem.W.Frag} {mg:Str->Option Value} {base:Heap} {A:Around} {outer:List Env} {s:Shared} {H:Hp} {Q:VK} {f c':Addr} {scope:Scope} {name qual:Str} {params:Arguments} {body:Expr} {x:Str} {pm ctv:Value} {v:V} {u:Value} {t:TE} {k:Nat}
  (hr:Room k A) (e0:Env0 P w K mg base A outer s H) (ho:s.heap.get? f=some (PySem.W.kla_obj name qual params body scope [] pm c' ctv)) (hcd:s.heap.CodeRec (.ref c') qual) (S:FnScope [x] [x] scope)
  (hb:bindArgs (PySem.W.kla_fn name qual params body scope [] pm (.ref c') ctv) ⟨[u],[]⟩=pure [(x,u)]) (r:qBp v u)
  (ht:PE (qBy CX0 P w K mg base [x] qual scope f (.ref c') A outer s H E0) body t) (hq:t (qFf [x] [v]) H Q) :
  codeAny (model P w) A (.call (.ref f) ⟨[u],[]⟩) (CR CX0 outer P w H s Q E0) s:=by
 have lim:s.heap.NoLimit:=e0.mod.nolimit.keeps fun b o e=>(e0.bs b o e).1
 refine PySem.W.kla_callFunE hr.depth ho rfl S.co S.gen rfl hcd ?_;rw[hb];have hkind:∀ y∈[(x,u)],scope.names.lookup y.1=some .local\/(scope.names.lookup y.1=some .cell/\((cellsFrom (s.heap.objs.size+1) scope.names []).lookup y.1).isSome=true):=fun y hy=>by
  rw[hA4]at hy;subst hy;rcases S.par x hAe with q | q
  ·exact .inl q
  ·exact .inr ⟨q,hDo _ _ _ (.inl q)⟩
 refine wpAny_pure (wpAny_newFunctionEnv_cells S.kind hkind fun env he s1 y=>?_);subst he;refine⟨lim.keeps y.toInCall.keep,PySem.W.kla_codeExpr ?_⟩;have I:Inv (qBy CX0 P w K mg base [x] qual scope f (.ref c') A outer s H E0) [] (qFf [x] [v]) H s1:=inv_start S hr.hd e0 rfl (.cons r .nil) y;refine wpAny_mono (ht [] s1 (qFf [x] [v]) H Q I hq) (fun u' s' ⟨v',H',J,rv,q⟩=>⟨v',H',J.os,J.bare,J.base,J.hok,rv,q⟩) fun e s' hs=>hs
end L2
namespace L2
open PySem PySem.Spec PyProof.Rows
def ExtB (P:Addr) (H H':Hp):Prop:=∀ b o,b≠P->H b=some o->H' b=some o
section
variable {X:Cx} {pins:List (Addr×Obj)} {σ:St} {H:Hp} {s:Shared}
theorem Inv.grown (I:Inv X pins σ H s) (hP:H P=some (.tbl ps)) (hx:Heap.ExtBut P s.heap h') (hg:h'.get? P=some { cls:=.none,data:=.fields (ps++more) }) :
  Inv X pins σ (upd H P (.tbl (ps++more))) { s with heap:=h',toks:=tk }:=by
 have ne:∀ b,H b=none->b≠P:=fun b n z=>by rw[z,hP]at n;cases n
 refine I.step (g':=s.gens) (d':=s.drawn) (ch:=[]) (fun _ z=>nomatch z) (fun b o _ _ _ e n=>hx b o (ne b n) e) (fun b o _ _ _ e n=>⟨o.slots,hx b o (ne b n) e⟩) (fun b o _ e n=>by rw[upd_ne (ne b n)];exact n) (fun b o _ e=>?_)
  (fun b xs q=>?_) (fun b o u q=>?_) (fun b qs q=>?_) (fun m hm=>hm.extBut hx (ne _ I.free)) (fun b u q=>?_) I.bare
 ·by_cases hb:b=P
  ·rw[hb];exact⟨_,hg⟩
  ·exact⟨o,hx b o hb e⟩
 ·have:b≠P:=fun z=>by rw[z,hP]at q;cases q
  rw[upd_ne this];exact q
 ·have:b≠P:=fun z=>by rw[z,hP]at q;cases q
  rw[upd_ne this];exact q
 ·by_cases hb:b=P
  ·subst hb;rw[hP]at q;cases q;exact⟨more,upd_same⟩
  ·exact⟨#[],by rw[upd_ne hb,q];simp⟩
 ·by_cases hb:b=P
  ·subst hb;rw[upd_same]at q;cases q;exact hg
  ·rw[upd_ne hb]at q;refine(I.hok b u q).stay (fun c v hc r=>hx c v ?_ r) (fun c r=>?_) fun c xs r=>?_
   ·rcases hc with rfl | hc
    ·exact hb
    ·intro z;rw[z,hP]at hc;cases hc
   ·have:c≠P:=fun z=>by rw[z,hP]at r;cases r
    rw[upd_ne this];exact r
   ·have:c≠P:=fun z=>by rw[z,hP]at r;cases r
    rw[upd_ne this];exact r
end
structure LamAt (X:Cx) (c P:Addr):Prop where
 code:X.env.code = .ref c
 hd:PySem.W.CodeHd X.base c P
 bl:X.base.BuiltinsAt X.mg P
end L2
namespace L2
open PySem PySem.Spec PyProof.Rows
def OnlyT (T:Addr) (H:Hp):Prop:=∀ b,b≠T->H b=none\/∃ o xs,H b=some (.frz o (.lst xs))
theorem mem_lk:∀ {l:List (Addr×β)} {a:Addr} {b:β},l.lookup a=some b->(a,b)∈l
 | [],_,_,h=>by cases h
 | (k,v) :: l,a,b,h=>by
  rw[hCj]at h;by_cases e:(a == k)=true
  ·rw[e]at h;cases h;rw[beq_iff_eq.mp e];exact hAe
  ·rw[hCk]at e;rw[e]at h;exact hAc _ (mem_lk h)
theorem noTab {K:PySem.W.Frag} {h:Heap} {T:Addr} {ps:Array Value} (X:K.In h) (n:PySem.W.noTabs K=true) (e:h.get? T=some (PySem.W.tabObj ps)):K.lookup T=none:=by
 cases q:K.lookup T with
 | none=>rfl
 | some o =>
  have e2:=X T o q;rw[e]at e2;cases e2;have m:=mem_lk q;have:=hDy.mp n _ m;cases this
theorem law_callT {P:Program} {w:World} {K:PySem.W.Frag} {mg mb:Str->Option Value} {CX:CXT} {k:Nat} {fa a c T:Addr} {fd:FuncData} {x:Str} {sp:Sp} {s₁:Shared} {vs:List Value} {ns:List Int}
  (KX:K.In s₁.heap) (hns:s₁.heap.Ns mainGlobals mg) (hb:s₁.heap.Ns builtinsNs mb) (hbb:∀ x:Str,x≠"__name__"->mb x=bootBuiltins x) (hlim:s₁.heap.NoLimit) (hg:s₁.gens=#[])
  (ha:s₁.heap.get? a=some { cls:=.type "list",data:=.seq vs.toArray }) (hi:IntsAre vs ns) (hl:ns.length<=sizeLine) (hr:Room k callerA)
  (hC:PySem.W.CodeHd s₁.heap c T) (hT:s₁.heap.get? T=some (PySem.W.tabObj #[])) (hnt:PySem.W.noTabs K=true) (hB:s₁.heap.BuiltinsAt mg T)
  (F:∀ base:Heap,K.In base->base.Ns mainGlobals mg->PySem.W.CodeHd base c T->base.BuiltinsAt mg T->FnOk P w K mg base CX k fa fd [x] sp) (hbind:∀ (s:Shared) (u:Value),BindsTo s fd ⟨[u],[]⟩ [(x,u)])
  (hsp:∀ H:Hp,H T=some (.tbl #[])->SqL K H a (ns.map V.int)->sp [.ref a] H (fun v _=>v = .bl true) fun _ _ _=>False)
  (hCX:∀ H e s',CX [] H s₁ (fun _ _ _=>False) e s'->False) :
  codeAny (model P w) callerA (.call (.ref fa) ⟨[.ref a],[]⟩) (fun r s'=>r = .ok (.ret (.bool true))/\OldK s₁.heap s'.heap/\s'.os=s₁.os/\AllBare s'.gens) s₁:=by
 have rv:=qFw hi;have lenV:=hi.length;have hKT:=noTab KX hnt hT;have aT:a≠T:=fun z=>by rw[z,hT]at ha;cases ha
 have core:∀ H:Hp,OnlyT T H->H T=some (.tbl #[])->SqL K H a (ns.map V.int)->HOk P w H s₁.heap->(∀ b,H b≠none->b=a\/b=T)->(H a≠none->K.lookup a=none) ->
   codeAny (model P w) callerA (.call (.ref fa) ⟨[.ref a],[]⟩) (fun r s'=>r = .ok (.ret (.bool true))/\OldK s₁.heap s'.heap/\s'.os=s₁.os/\AllBare s'.gens) s₁:=by
  intro H hO hHT hS hok hA hK;have base_of:∀ {b:Addr} {o:Obj},s₁.heap.get? b=some o->H b=none->(hidT s₁.heap H).get? b=some o:=fun e n=>hidT_get e n
  have noA:∀ {b:Addr} {o:Obj},s₁.heap.get? b=some o->(∀ vs n,o.data≠.seq vs n)->o≠PySem.W.tabObj #[]->H b=none:=fun {b o} e d1 d2=>by
   cases q:H b with
   | none=>rfl
   | some u =>
    rcases hA b (by rw[q];simp) with e' | e'
    ·subst e';rw[ha]at e;cases e;exact absurd rfl (d1 _ _)
    ·subst e';rw[hT]at e;exact absurd (hAu e).symm d2
  have nsK:∀ {b:Addr} {m:Str->Option Value},s₁.heap.Ns b m->(hidT s₁.heap H).Ns b m:=fun {b m} ⟨o,es,ep,e,d,r⟩=>⟨o,es,ep,base_of e (noA e (fun _ _ z=>by rw[d]at z;cases z) (fun z=>by rw[z]at d;cases d)),d,r⟩
  have hKb:K.In (hidT s₁.heap H):=fun b o e=>base_of (KX b o e) (by
   cases q:H b with
   | none=>rfl
   | some u =>
    rcases hA b (by rw[q];simp) with e' | e'
    ·subst e';rw[hK (by rw[q];simp)]at e;cases e
    ·subst e';rw[hKT]at e;cases e)
  have hM:Mod K mg (hidT s₁.heap H):=⟨hKb,nsK hns,⟨mb,nsK hb,hbb⟩,let ⟨mc,h1,h2⟩:=hlim;⟨mc,nsK h1,h2⟩⟩;have hC':PySem.W.CodeHd (hidT s₁.heap H) c T:=by
   obtain⟨o,vs',file,tf,flags,tg,inF,text,tt,e1,e2,e3,r⟩:=hC;refine⟨o,vs',file,tf,flags,tg,inF,text,tt,base_of e1 (noA e1 (fun _ _ z=>by rw[e3]at z;cases z) (fun z=>by rw[z]at e2;cases e2)),e2,e3,r⟩
  have hB':(hidT s₁.heap H).BuiltinsAt mg T:=by
   obtain⟨bm,ob,b1,b2,b3,b4,b5,b6,b7,b8⟩:=hB;exact⟨bm,ob,b1,b2,b3,b4,base_of b5 (noA b5 (fun _ _ z=>by rw[b8]at z;cases z) (fun z=>by rw[z]at b8;cases b8)),b6,b7,b8⟩
  have e0:Env0 P w K mg (hidT s₁.heap H) callerA [] s₁ H:=⟨rfl,hM,fun b o e=>of_hidT e,Nat.le_of_eq (hidT_size _ _),trivial,fun b hb=>absurd (show b∈([]:List Addr) from hb) (by simp),hok,.of_eq hg⟩;refine codeAny_mono ((F _ hKb (nsK hns) hC' hB').run callerA [] s₁ H ⟨[.ref a],[]⟩ [.ref a] [.ref a] _ _ hr e0 (hbind s₁ (.ref a)) (.cons rfl .nil) (hsp H hHT hS)) fun r s' h=>?_
  cases r with
  | error e=>exact(hCX H e s' h).elim
  | ok fl =>
   cases fl with
   | next=>exact False.elim h
   | brk=>exact False.elim h
   | cont=>exact False.elim h
   | ret u =>
    obtain⟨v,H',os,bare,un,hok',r',q⟩:=h;have q':v = .bl true:=q;subst q';obtain rfl:u=Value.bool true:=r';obtain⟨more,hmT⟩:=un.tbls T _ hHT;have hTs:s'.heap.get? T=some { cls:=.none,data:=.fields (#[]++more) }:=hok' T _ hmT;refine⟨rfl,⟨fun b o e=>?_,fun b o e=>?_⟩,os,bare⟩
    ·by_cases hbT:b=T
     ·subst hbT;rw[hT]at e;cases e;exact .inr (.inl ⟨(hC.tab hT).isCodeTable,rfl,#[],more,rfl,hTs⟩)
     ·refine .inl ?_;cases q:H b with
      | none=>exact un.keep b o e q (by intro z;exact absurd (show b∈([]:List Addr) from z) (by simp)) (by simp)
      | some u =>
       rcases hO b hbT with z | ⟨ob,xs,z⟩
       ·rw[q]at z;cases z
       ·have z2:=un.frzs b ob _ z;obtain⟨e1,_⟩:=hok b _ z;obtain⟨e2,_⟩:=hok' b _ z2;rw[e]at e1;cases e1;exact e2
    ·by_cases hbT:b=T
     ·rw[hbT];exact⟨_,hTs⟩
     ·cases q:H b with
      | none=>exact⟨o,un.keep b o e q (by intro z;exact absurd (show b∈([]:List Addr) from z) (by simp)) (by simp)⟩
      | some u =>
       rcases hO b hbT with z | ⟨ob,xs,z⟩
       ·rw[q]at z;cases z
       ·obtain⟨e2,_⟩:=hok' b _ (un.frzs b ob _ z);exact⟨_,e2⟩
 have tOk:∀ H:Hp,qBq P w H s₁.heap T (.tbl #[]):=fun _=>hT
 cases hk:K.lookup a with
 | some o =>
  have e:=KX a o hk;rw[ha]at e;cases e;refine core (fun b=>if b=T then some (.tbl #[]) else none) (fun b hb=>.inl (if_neg hb)) (if_pos rfl) (.inr ⟨_,vs.toArray,_,hk,rfl,rfl,rfl,by rw[hAa,lenV];exact hl,by simpa using rv⟩) (fun b u z=>?_) (fun b z=>?_) (fun z=>absurd (if_neg aT) z)
  ·by_cases hb:b=T
   ·have z':=(if_pos hb).symm.trans z;cases z';subst hb;exact tOk _
   ·have z':=(if_neg hb).symm.trans z;cases z'
  ·by_cases hb:b=T
   ·exact .inr hb
   ·exact absurd (if_neg hb) z
 | none =>
  refine core (fun b=>if b=T then some (.tbl #[]) else if b=a then some (.frz { cls:=.type "list",data:=.seq vs.toArray } (.lst (ns.map V.int))) else none) (fun b hbT=>?_) (if_pos rfl) (.inl (.inr ⟨{ cls:=.type "list",data:=.seq vs.toArray },(if_neg aT).trans (if_pos rfl)⟩)) (fun b u z=>?_) (fun b z=>?_) fun _=>hk
  ·by_cases hb:b=a
   ·exact .inr ⟨_,_,(if_neg hbT).trans (if_pos hb)⟩
   ·exact .inl ((if_neg hbT).trans (if_neg hb))
  ·by_cases hbT:b=T
   ·have z':=(if_pos hbT).symm.trans z;cases z';subst hbT;exact tOk _
   ·have z:=(if_neg hbT).symm.trans z;by_cases hb:b=a
    ·have z':=(if_pos hb).symm.trans z;cases z';subst hb;exact⟨ha,by rw[hA1];exact hl,vs,_,rv,ha⟩
    ·have z':=(if_neg hb).symm.trans z;cases z'
  ·by_cases hbT:b=T
   ·exact .inr hbT
   ·by_cases hb:b=a
    ·exact .inl hb
    ·exact absurd ((if_neg hbT).trans (if_neg hb)) z
theorem walk_ofT {l:PySem.W.OpenLaw} {n k:Nat} {q:Program} {loose:List Str} {XP:(Str->Option Value)->Heap->Prop} {YP:World->Heap->Prop} {d dr:DefRec} {K:Params->PySem.W.Frag} {CX:World->CXT} {sp:World->Addr->Sp} {x tx:Str}
  (hn:l.most=some n) (hn2:n<=sizeLine) (hdf:d.params.defaults=[]) (hr:Room k callerA)
  (hY:∀ (w:World) (h:Heap),YP w h->(K w.params).In h) (hrec:(recsOf q).find? (fun e=>e.name == tx)=some dr)
  (hK:∀ w:World,∃ c T,PySem.W.tabIn (K w.params) tx=some (c,T)/\PySem.W.noTabs (K w.params)=true)
  (F:∀ (w:World) (mg:Str->Option Value) (fa:Addr) (h:Heap) (c T:Addr),(K w.params).In h->h.Ns mainGlobals mg->mg d.name=some (.ref fa)->PySem.W.tabIn (K w.params) tx=some (c,T) ->
   ∃ fd:FuncData,(∀ (s:Shared) (u:Value),BindsTo s fd ⟨[u],[]⟩ [(x,u)]) /\
    ∀ base:Heap,(K w.params).In base->base.Ns mainGlobals mg->PySem.W.CodeHd base c T->base.BuiltinsAt mg T->FnOk l.prog w (K w.params) mg base (CX w) k fa fd [x] (sp w T))
  (hsp:∀ (w:World) (T:Addr) (H:Hp) (a:Addr) (ns:List Int),ns.length<=n->H T=some (.tbl #[])->SqL (K w.params) H a (ns.map V.int)->sp w T [.ref a] H (fun v _=>v = .bl true) fun _ _ _=>False)
  (hCX:∀ (w:World) (H:Hp) (s:Shared) (e:Value) (s':Shared),CX w [] H s (fun _ _ _=>False) e s'->False) :
  PySem.W.WalkO q loose XP YP l.row.toRowW d [] (fun f vs=>PySem.call f vs):=by
 refine Att.attach_call hn hdf fun w s₀ s₁ mg mb fa o pm cd doc a vs ns G Y ho hd hcd hmg hobj hints hlen hg=>?_
 have KX:=hY w _ Y;obtain⟨c,T,ht,hnt⟩:=hK w;obtain⟨hC,hT⟩:=PySem.W.tab_of G.T KX hrec ht;obtain⟨bm,ob,b1,b2,b3,b4,b5,b6⟩:=G.T.bmain;have hbT:bm≠T:=fun z=>by rw[z,hT]at b3;cases b3;cases b4
 have hbG:bm≠mainGlobals:=fun z=>by
  obtain⟨o',es,ep,e,hd',_⟩:=G.T.g;rw[z,e]at b3;cases b3;rw[hd']at b6;cases b6
 obtain⟨fd,hb,hF⟩:=F w mg fa _ c T KX G.T.g hmg ht;exact law_callT KX G.T.g G.T.b G.T.builtins G.T.nolimit hg hobj hints (hAr hlen hn2) hr hC hT hnt ⟨bm,ob,b1,b2,hbG,hbT,b3,b4,b5,b6⟩ hF hb (fun H hO hS=>hsp w T H a ns hlen hO hS) fun H e s'=>hCX w H s₁ e s'
section
variable {P:Program} {w:World} {K:PySem.W.Frag} {mg:Str->Option Value} {base:Heap}
theorem Fun.okC {x qual:Str} {st:Stmt} {f:Addr} {fd:FuncData} {N ps:List Str} {k:Nat} {sp:Sp} (F:Fun K x qual st f fd) (S:FnScope N ps (qAb st)) (len:∀ vs H Q E,sp vs H Q E->vs.length=ps.length)
  (hbody:∀ (A:Around) (outer:List Env) (s:Shared) (H:Hp) (vs:List V) (Q:VK) (E:XK),Room k (A.deeper (envOfC qual (qAb st) s.heap.objs.size f fd.code))->sp vs H Q E ->
   ∃ t,PSs (qBy CX0 P w K mg base N qual (qAb st) f fd.code A outer s H E).nox (qAl st) t/\t { nx:=fun _ H'=>Q .non H',rt:=Q } (qFf N vs) H):FnOk P w K mg base CX0 (k+1) f fd ps sp:=by
 obtain⟨oc,od,kV,doc,pm,an,cdv,ct,osl,rfl,lk,hcd⟩:=F.ex;refine fn_of lk hcd S len fun A outer s H vs Q E hr hsp=>?_
 obtain⟨t,h,q⟩:=hbody A outer s H vs Q E hr hsp;exact⟨t,h.nox,q⟩
theorem code_of {x qual:Str} {st:Stmt} {f c T:Addr} {fd:FuncData} (F:Fun K x qual st f fd) (a:PySem.W.nsIn K mainGlobals x=some (some (.ref f))) (h:PySem.W.tabIn K x=some (c,T)):fd.code = .ref c:=by
 obtain⟨oc,od,kV,doc,pm,an,cdv,ct,osl,rfl,lk,hcd⟩:=F.ex;unfold PySem.W.tabIn at h;rw[a]at h;dsimp only at h;rw[lk]at h;dsimp only at h;show cdv=_;cases cdv with
 | ref c2 =>
  dsimp only at h;split at h
  ·split at h
   ·cases h;rfl
   ·cases h
  ·cases h
 | _=>cases h
end
end L2
namespace L2
open PySem PySem.Spec PyProof.Rows
end L2
namespace L2
open PySem PySem.Spec PyProof.Rows
end L2
namespace L2
open PySem PySem.Spec PyProof.Rows
section
variable {X:Cx} {pins:List (Addr×Obj)} {σ:St} {H:Hp} {s:Shared}
theorem Inv.adoptX (I:Inv X pins σ H s) (w:Aw X pins a) (hn:H a=none) (hφ:qBq X.prog X.w (upd H a (.ext φ)) s.heap a (.ext φ)):Inv X pins σ (upd H a (.ext φ)) s:=by
 refine⟨I.ok,I.os,I.bare,⟨I.base.keep,I.base.slot,fun b o q n' hx=>?_,I.base.there,fun b xs q=>?_,fun b o u q=>?_,fun b ps q=>?_⟩,I.loc,I.cell,?_,fun x c q=>?_,fun p hp=>?_,fun b u q=>?_,I.len⟩
 ·rw[upd_ne (hB0 (hAl (Heap.lt_size q) w.ab))];exact I.base.free b o q n' hx
 ·have:=I.base.tups b xs q;rw[upd_ne (qAe this hn)];exact this
 ·have:=I.base.frzs b o u q;rw[upd_ne (qAe this hn)];exact this
 ·obtain⟨m,this⟩:=I.base.tbls b ps q;exact⟨m,by rw[upd_ne (qAe this hn)];exact this⟩
 ·rw[upd_ne (Ne.symm w.loc)];exact I.free
 ·rw[upd_ne (w.cel x c q)];exact I.freeC x c q
 ·obtain⟨h1,h2,h3⟩:=I.pin p hp;exact⟨h1,by rw[upd_ne (w.pin p hp)];exact h2,h3⟩
 ·by_cases hb:b=a
  ·subst hb;rw[upd_same]at q;cases q;exact hφ
  ·rw[upd_ne hb]at q;exact(I.hok b u q).stay (fun c v _ r=>r) (fun c r=>by rw[upd_ne (qAe r hn)];exact r) fun c xs r=>by rw[upd_ne (qAe r hn)];exact r
end
noncomputable def codeO (c:Addr) (q:Str):HO:=.ext fun h=>h.CodeRec (.ref c) q
theorem codeO_ok (r:h.CodeRec (.ref c) q):qBq P w H h c (codeO c q):=by
 obtain⟨c2,oc,vs,t,e,ho,hd,hv⟩:=id r;cases e;refine⟨r,⟨oc,ho⟩,fun h1 h2 r1 k=>?_⟩;obtain⟨c3,oc',vs',t',e',ho',hd',hv'⟩:=r1;cases e';exact⟨c,oc',vs',t',rfl,k _ ho',hd',hv'⟩
def TabW (H:Hp) (P:Addr) (lpos:Pos) (q:Str):Prop:=H P=some (.tbl #[])\/∃ c',H P=some (.tbl #[rawInt lpos.line,rawInt lpos.col,.ref c'])/\H c'=some (codeO c' q)
theorem among3 (lpos:Pos) (v:Value):codeAmong lpos (#[rawInt lpos.line,rawInt lpos.col,v]:Array Value).toList=some v:=by
 show(if _ then _ else _)=_;simp
theorem TabW.ext (h:TabW H P lpos q) (e:∀ b o,H b=some o->H' b=some o):TabW H' P lpos q:=by
 rcases h with h | ⟨c,h1,h2⟩
 ·exact .inl (e _ _ h)
 ·exact .inr ⟨c,e _ _ h1,e _ _ h2⟩
section
variable {X:Cx} {k:Nat}
theorem sq_B {K:PySem.W.Frag} {H H':Hp} {P l:Addr} {xs:List V} {ps:Array Value} (hP:H P=some (.tbl ps)) (e:ExtB P H H') (hq:SqL K H l xs):SqL K H' l xs:=by
 rcases hq with (hq | ⟨o,hq⟩) | hq
 ·exact .inl (.inl (e _ _ (fun z=>by rw[z,hP]at hq;cases hq) hq))
 ·exact .inl (.inr ⟨o,e _ _ (fun z=>by rw[z,hP]at hq;cases hq) hq⟩)
 ·exact .inr hq
end
end L2
namespace L2
open PySem PySem.Spec PyProof.Rows
noncomputable def gallop':Bool->Keyed->Array Keyed->Nat->Nat->Nat->StateT SortSt Sem (Option Nat):=sortPriv% PySem.Builtin.gallop
noncomputable def beyond' (left:Bool) (key:Keyed) (arr:Array Keyed) (base:Nat) (i:Nat):StateT SortSt Sem (Option Bool):=do
 let x ← elem' arr (base+i)
 if left then lt' x key else return (← lt' key x).map (!·)
noncomputable def g3 (left:Bool) (key:Keyed) (arr:Array Keyed) (base n lo0 hi0:Nat):StateT SortSt Sem (Option Nat):=do
 let mut lo:=lo0
 let mut hi:=hi0
 for _ in [0:n] do
  if lo >= hi then break
  let m:=lo+(hi - lo) / 2
  let some more ← beyond' left key arr base m | return none
  if more then lo:=m+1 else hi:=m
 return some hi
theorem gallop'_eq (left:Bool) (key:Keyed) (arr:Array Keyed) (base n hint:Nat):gallop' left key arr base n hint=(do
 let mut lastofs:=0
 let mut ofs:=1
 let some right ← beyond' left key arr base hint | return none
 if right then
  let maxofs:=n - hint
  for _ in [0:n] do
   if ofs >= maxofs then break
   let some more ← beyond' left key arr base (hint+ofs) | return none
   if !more then break
   lastofs:=ofs
   ofs:=2*ofs+1
  g3 left key arr base n (hint+lastofs+1) (hint+min ofs maxofs)
 else
  let maxofs:=hint+1
  for _ in [0:n] do
   if ofs >= maxofs then break
   let some found ← beyond' left key arr base (hint - ofs) | return none
   if found then break
   lastofs:=ofs
   ofs:=2*ofs+1
  g3 left key arr base n (hint+1 - min ofs maxofs) (hint - lastofs)):=rfl
section
variable {prog:Program} {w:World} {A:Around} {E:Value->Shared->Prop} {s:Shared}
theorem wpS_gallop {left:Bool} {key:Keyed} {arr:Array Keyed} {base n hint:Nat} {Bd:Nat->Bool} {G:SortSt->Prop} {st:SortSt} {Q:Option Nat->SortSt->Prop}
  (hb:∀ i,i<n->∀ (st:SortSt) (Q:Option Bool->SortSt->Prop),G st->Q (some (Bd i)) st->wpS (model prog w) A E s (beyond' left key arr base i) Q st) (g:G st) (hh:hint<n) (mono:∀ i j,i<=j->j<n->Bd j=true->Bd i=true)
  (h:∀ k,k<=n->(∀ i,i<k->Bd i=true)->(∀ i,k<=i->i<n->Bd i=false)->Q (some k) st):wpS (model prog w) A E s (gallop' left key arr base n hint) Q st:=by
 rw[gallop'_eq];have third:∀ lo hi,lo<=hi->hi<=n->(∀ i,i<lo->Bd i=true)->(∀ i,hi<=i->i<n->Bd i=false)->wpS (model prog w) A E s (g3 left key arr base n lo hi) Q st:=fun lo hi h1 h2 h3 h4=>by
  unfold g3;refine wpS_bind (wpS_mono (wpS_forRange (I:=fun x c st'=>∃ lo hi,c=(none,lo,hi)/\st'=st/\lo<=hi/\hi<=n/\hi - lo+x<=n/\(∀ i,i<lo->Bd i=true)/\∀ i,hi<=i->i<n->Bd i=false)
   (Q:=fun c st'=>∃ k,c=(none,k,k)/\st'=st/\k<=n/\(∀ i,i<k->Bd i=true)/\∀ i,k<=i->i<n->Bd i=false) ?_ ?_ ⟨lo,hi,rfl,rfl,h1,h2,by omega,h3,h4⟩) ?_)
  ·rintro x c st' _ hx ⟨lo,hi,rfl,rfl,h1,h2,h5,h3,h4⟩;dsimp only;split
   ·rename_i c;have:lo=hi:=by omega
    subst this;exact wpS_pure ⟨lo,rfl,rfl,h2,h3,h4⟩
   ·rename_i c;refine wpS_bind (hb _ (by omega) st' _ g ?_);dsimp only;split
    ·rename_i d;exact wpS_pure ⟨_,hi,rfl,rfl,by omega,h2,by omega,fun i hi'=>mono i _ (by omega) (by omega) d,h4⟩
    ·rename_i d;have d':Bd (lo+(hi - lo) / 2)=false:=by simpa using d
     refine wpS_pure ⟨lo,_,rfl,rfl,by omega,by omega,by omega,h3,fun i hi' hin=>?_⟩;cases z:Bd i with
     | false=>rfl
     | true=>rw[mono _ i hi' hin z]at d';cases d'
  ·rintro c st' ⟨lo,hi,rfl,rfl,h1,h2,h5,h3,h4⟩;have:lo=hi:=by omega
   subst this;exact⟨lo,rfl,rfl,h2,h3,h4⟩
  ·rintro c st' ⟨k,rfl,rfl,h1,h2,h3⟩;exact wpS_pure (h k h1 h2 h3)
 refine wpS_bind (hb hint hh st _ g ?_);dsimp only;split
 ·rename_i c0;refine wpS_bind (wpS_mono (wpS_forRange (I:=fun x c st'=>∃ la of,c=(none,la,of)/\st'=st/\la<of/\hint+la<n/\Bd (hint+la)=true/\x<of)
   (Q:=fun c st'=>∃ la of,c=(none,la,of)/\st'=st/\la<of/\hint+la<n/\Bd (hint+la)=true/\(n - hint<=of\/(hint+of<n/\Bd (hint+of)=false))) ?_ ?_ ⟨0,1,rfl,rfl,by omega,by omega,c0,by omega⟩) ?_)
  ·rintro x c st' _ hx ⟨la,of,rfl,rfl,h1,h2,h3,h4⟩;dsimp only;split
   ·rename_i c;exact wpS_pure ⟨la,of,rfl,rfl,h1,h2,h3,.inl c⟩
   ·rename_i c;refine wpS_bind (hb _ (by omega) st' _ g ?_);dsimp only;split
    ·rename_i d;exact wpS_pure ⟨la,of,rfl,rfl,h1,h2,h3,.inr ⟨by omega,by simpa using d⟩⟩
    ·rename_i d;exact wpS_pure ⟨of,2*of+1,rfl,rfl,by omega,by omega,by simpa using d,by omega⟩
  ·rintro c st' ⟨la,of,rfl,rfl,h1,h2,h3,h4⟩;exact⟨la,of,rfl,rfl,h1,h2,h3,.inl (by omega)⟩
  ·rintro c st' ⟨la,of,rfl,rfl,h1,h2,h3,h4⟩;dsimp only;refine third (hint+la+1) (hint+min of (n - hint)) ?_ (by omega) (fun i hi=>mono i _ (by omega) h2 h3) fun i hi hin=>?_
   ·rcases h4 with z | ⟨z,_⟩ <;> omega
   ·rcases h4 with z | ⟨z1,z2⟩
    ·omega
    ·cases z:Bd i with
     | false=>rfl
     | true=>rw[mono _ i (by omega) hin z]at z2;cases z2
 ·rename_i c0;have c0':Bd hint=false:=by simpa using c0
  refine wpS_bind (wpS_mono (wpS_forRange (I:=fun x c st'=>∃ la of,c=(none,la,of)/\st'=st/\la<of/\la<=hint/\Bd (hint - la)=false/\x<of)
   (Q:=fun c st'=>∃ la of,c=(none,la,of)/\st'=st/\la<of/\la<=hint/\Bd (hint - la)=false/\(hint+1<=of\/(of<=hint/\Bd (hint - of)=true))) ?_ ?_ ⟨0,1,rfl,rfl,by omega,by omega,c0',by omega⟩) ?_)
  ·rintro x c st' _ hx ⟨la,of,rfl,rfl,h1,h2,h3,h4⟩;dsimp only;split
   ·rename_i c;exact wpS_pure ⟨la,of,rfl,rfl,h1,h2,h3,.inl c⟩
   ·rename_i c;refine wpS_bind (hb _ (by omega) st' _ g ?_);dsimp only;split
    ·rename_i d;exact wpS_pure ⟨la,of,rfl,rfl,h1,h2,h3,.inr ⟨by omega,by simpa using d⟩⟩
    ·rename_i d;exact wpS_pure ⟨of,2*of+1,rfl,rfl,by omega,by omega,by simpa using d,by omega⟩
  ·rintro c st' ⟨la,of,rfl,rfl,h1,h2,h3,h4⟩;exact⟨la,of,rfl,rfl,h1,h2,h3,.inl (by omega)⟩
  ·rintro c st' ⟨la,of,rfl,rfl,h1,h2,h3,h4⟩;dsimp only;refine third (hint+1 - min of (hint+1)) (hint - la) ?_ (by omega) (fun i hi=>?_) fun i hi hin=>?_
   ·rcases h4 with z | ⟨z,_⟩ <;> omega
   ·rcases h4 with z | ⟨z1,z2⟩
    ·omega
    ·exact mono i _ (by omega) (by omega) z2
   ·cases z:Bd i with
    | false=>rfl
    | true=>rw[mono _ i hi hin z]at h3;cases h3
end
end L2
namespace L2
open PySem PySem.Spec PyProof.Rows
noncomputable def qA5:Nat->StateT SortSt Sem Unit:=sortPriv% PySem.Builtin.setMinGallop
noncomputable def mergeLo':Array Keyed->Array Keyed->StateT SortSt Sem (Array Keyed):=sortPriv% PySem.Builtin.mergeLo
noncomputable def dnA (a b out:Array Keyed) (ia ib:Nat):Array Keyed:=out++a.extract ia a.size++b.extract ib b.size
noncomputable def lsA (a b out:Array Keyed) (ia ib:Nat):Array Keyed:=out++b.extract ib b.size++a.extract ia a.size
theorem mergeLo'_eq (a b:Array Keyed):mergeLo' a b=(do
 rule "list.sort.merge-lo"
 let total:=a.size+b.size
 let mut out:Array Keyed:=#[<-elem' b 0]
 let mut ia:=0
 let mut ib:=1
 if ib == b.size then return dnA a b out ia ib
 if ia+1 == a.size then return lsA a b out ia ib
 let mut minGallop:=gallopOf (← get)
 for _ in [0:total] do
  let mut acount:=0
  let mut bcount:=0
  for _ in [0:total] do
   let some bWins ← lt' (← elem' b ib) (← elem' a ia) | return dnA a b out ia ib
   if bWins then
    out:=out.push (← elem' b ib);ib:=ib+1;bcount:=bcount+1;acount:=0
    if ib == b.size then return dnA a b out ia ib
    if bcount >= minGallop then break
   else
    out:=out.push (← elem' a ia);ia:=ia+1;acount:=acount+1;bcount:=0
    if ia+1 == a.size then return lsA a b out ia ib
    if acount >= minGallop then break
  rule "list.sort.gallop"
  minGallop:=minGallop+1
  for _ in [0:total] do
   if minGallop > 1 then minGallop:=minGallop - 1
   qA5 minGallop
   let some k ← gallop' false (← elem' b ib) a ia (a.size - ia) 0 | return dnA a b out ia ib
   acount:=k
   if k > 0 then
    out:=out++a.extract ia (ia+k);ia:=ia+k
    if ia+1 == a.size then return lsA a b out ia ib
    if ia == a.size then return dnA a b out ia ib
   out:=out.push (← elem' b ib);ib:=ib+1
   if ib == b.size then return dnA a b out ia ib
   let some k ← gallop' true (← elem' a ia) b ib (b.size - ib) 0 | return dnA a b out ia ib
   bcount:=k
   if k > 0 then
    out:=out++b.extract ib (ib+k);ib:=ib+k
    if ib == b.size then return dnA a b out ia ib
   out:=out.push (← elem' a ia);ia:=ia+1
   if ia+1 == a.size then return lsA a b out ia ib
   if acount<7 && bcount<7 then break
  minGallop:=minGallop+1
  qA5 minGallop
 unsupported "internal:list.sort.merge-bound"):=rfl
def Srd (rk:Keyed->Int) (l:List Keyed):Prop:=l.Pairwise fun x y=>rk x<=rk y
def Dn (rk:Keyed->Int) (all l:List Keyed):Prop:=l.Perm all/\Srd rk l
structure MI (rk:Keyed->Int) (all ra rb o:List Keyed):Prop where
 perm:(o++(ra++rb)).Perm all
 so:Srd rk o
 sa:Srd rk ra
 sb:Srd rk rb
 la:∀ x∈o,∀ y∈ra,rk x<=rk y
 lb:∀ x∈o,∀ y∈rb,rk x<=rk y
section
variable {rk:Keyed->Int} {all ra rb o xs:List Keyed}
theorem MI.symm (h:MI rk all ra rb o):MI rk all rb ra o:=⟨(List.perm_append_comm.append_left o).trans h.perm,h.so,h.sb,h.sa,h.lb,h.la⟩
theorem MI.as (h:MI rk all (xs++ra) rb o) (c:∀ x∈xs,∀ y∈rb,rk x<=rk y):MI rk all ra rb (o++xs):=by
 have p:=hB3.mp h.sa;refine⟨by simpa [hBj] using h.perm,hB3.mpr ⟨h.so,p.1,fun x hx y hy=>h.la x hx y (hAg _ hy)⟩,p.2.1,h.sb,fun x hx y hy=>?_,fun x hx y hy=>?_⟩
 ·rcases hAb.mp hx with z | z
  ·exact h.la x z y (hA8 _ hy)
  ·exact p.2.2 x z y hy
 ·rcases hAb.mp hx with z | z
  ·exact h.lb x z y hy
  ·exact c x z y hy
theorem MI.bs (h:MI rk all ra (xs++rb) o) (c:∀ x∈xs,∀ y∈ra,rk x<=rk y):MI rk all ra rb (o++xs):=(h.symm.as c).symm
theorem MI.fin (h:MI rk all ra rb o) (c:∀ x∈ra,∀ y∈rb,rk x<=rk y):Dn rk all (o++(ra++rb)):=by
 refine⟨h.perm,hB3.mpr ⟨h.so,hB3.mpr ⟨h.sa,h.sb,c⟩,fun x hx y hy=>?_⟩⟩;rcases hAb.mp hy with z | z
 ·exact h.la x hx y z
 ·exact h.lb x hx y z
theorem MI.len (h:MI rk all ra rb o):o.length+(ra.length+rb.length)=all.length:=by
 have:=h.perm.length_eq
 simpa using this
theorem qB7 (h:Srd rk (x :: l)):∀ y∈x :: l,rk x<=rk y:=fun y hy=>by
 rcases hAh.mp hy with z | z
 ·rw[z];exact hD5 _
 ·exact(hBr.mp h).1 y z
end
def Gal (st st':SortSt):Prop:=kindOf st'=kindOf st/\arrOf st'=arrOf st/\pendingOf st'=pendingOf st/\failedOf st'=failedOf st
theorem Gal.refl (st:SortSt):Gal st st:=⟨rfl,rfl,rfl,rfl⟩
theorem Gal.trans (h:Gal a b) (k:Gal b c):Gal a c:=⟨k.1.trans h.1,k.2.1.trans h.2.1,k.2.2.1.trans h.2.2.1,k.2.2.2.trans h.2.2.2⟩
theorem qDn (a:Array Keyed) (i j:Nat):(a.extract i j).toList=(a.toList.drop i).take (j - i):=by
 rw[Array.toList_extract]
theorem ext_end (a:Array Keyed) (i:Nat):(a.extract i a.size).toList=a.toList.drop i:=by
 rw[qDn,hA6 (by simp)]
theorem dnA_list (a b out:Array Keyed) (ia ib:Nat):(dnA a b out ia ib).toList=out.toList++(a.toList.drop ia++b.toList.drop ib):=by
 unfold dnA;rw[hBt,hBt,ext_end,ext_end,hBj]
theorem lsA_list (a b out:Array Keyed) (ia ib:Nat):(lsA a b out ia ib).toList=out.toList++(b.toList.drop ib++a.toList.drop ia):=by
 unfold lsA;rw[hBt,hBt,ext_end,ext_end,hBj]
section
variable {prog:Program} {w:World} {A:Around} {E:Value->Shared->Prop} {s:Shared} {rk:Keyed->Int} {kd:SortKind} {D:Keyed->Prop}
def qGw (prog:Program) (w:World) (A:Around) (E:Value->Shared->Prop) (s:Shared) (rk:Keyed->Int) (kd:SortKind) (D:Keyed->Prop):Prop :=
 ∀ x y,D x->D y->∀ (st:SortSt) (Q:Option Bool->SortSt->Prop),kindOf st=kd->Q (some (decide (rk x<rk y))) st->wpS (model prog w) A E s (lt' x y) Q st
theorem qAx {arr:Array Keyed} {i:Nat} {p:Keyed} {Q:Keyed->SortSt->Prop} {st:SortSt} (e:arr[i]?=some p) (h:Q p st):wpS (model prog w) A E s (elem' arr i) Q st:=by
 rw[elem'_eq,e];exact wpS_pure h
noncomputable def gP (rk:Keyed->Int) (left:Bool) (key x:Keyed):Bool:=if left then decide (rk x<rk key) else !decide (rk key<rk x)
theorem wpS_beyond (ak:qGw prog w A E s rk kd D) {left:Bool} {key x:Keyed} {arr:Array Keyed} {base i:Nat} {Q:Option Bool->SortSt->Prop} {st:SortSt} (hk:kindOf st=kd) (dk:D key) (dx:D x) (e:arr[base+i]?=some x)
  (h:Q (some (gP rk left key x)) st):wpS (model prog w) A E s (beyond' left key arr base i) Q st:=by
 unfold beyond';refine wpS_bind (qAx e ?_);cases left with
 | true=>exact ak x key dx dk st Q hk h
 | false=>exact wpS_bind (ak key x dk dx st _ hk (wpS_pure h))
theorem qEu (ak:qGw prog w A E s rk kd D) {left:Bool} {key:Keyed} {arr:Array Keyed} {base n hint:Nat} {l:List Keyed} {Q:Option Nat->SortSt->Prop} {st:SortSt} (hk:kindOf st=kd) (dk:D key) (hl:(arr.toList.drop base).take n=l) (hn:l.length=n)
  (dl:∀ x∈l,D x) (sl:Srd rk l) (hh:hint<n) (h:∀ l1 l2,l=l1++l2->(∀ x∈l1,gP rk left key x=true)->(∀ x∈l2,gP rk left key x=false)->Q (some l1.length) st) :
  wpS (model prog w) A E s (gallop' left key arr base n hint) Q st:=by
 have at_:∀ i,(hi:i<n)->arr[base+i]?=some (l[i]'(by omega)):=fun i hi=>by
  subst hl;rw[<-hBa];rw[List.getElem_take,List.getElem_drop,hA2]
 refine wpS_gallop (Bd:=fun i=>if c:i<l.length then gP rk left key (l[i]'c) else false) (G:=fun st=>kindOf st=kd) (fun i hi st Q g q=>?_) hk hh (fun i j hij hj q=>?_) fun k hk1 h1 h2=>?_
 ·refine wpS_beyond ak g dk (dl _ (hBp (by omega))) (at_ i hi) ?_;rw[dif_pos (by omega)]at q;exact q
 ·rw[dif_pos (by omega)]at q ⊢;by_cases e:i=j
  ·subst e;exact q
  ·have:=List.pairwise_iff_getElem.mp sl i j (by omega) (by omega) (by omega);unfold gP at q ⊢;cases left
   ·simp at q ⊢;omega
   ·simp at q ⊢;omega
 ·have e:=h (l.take k) (l.drop k) (List.take_append_drop k l).symm (fun x hx=>?_) fun x hx=>?_
  ·rw[hAi,Nat.min_eq_left (by omega)]at e;exact e
  ·obtain⟨i,hi,rfl⟩:=List.mem_iff_getElem.mp hx;rw[hAi]at hi;have:=h1 i (by omega);rw[dif_pos (by omega)]at this;rw[List.getElem_take];exact this
  ·obtain⟨i,hi,rfl⟩:=List.mem_iff_getElem.mp hx;rw[hCa]at hi;have:=h2 (k+i) (by omega) (by omega);rw[dif_pos (by omega)]at this;rw[List.getElem_drop];exact this
theorem qFg (g:Nat):qA5 g=modify fun st=>SortSt.mk' (kindOf st) (arrOf st) (pendingOf st) g (failedOf st):=rfl
theorem qFl {g:Nat} {st:SortSt} {Q:Unit->SortSt->Prop} (h:∀ st',Gal st st'->Q () st'):wpS (model prog w) A E s (qA5 g) Q st:=by
 rw[qFg];exact wpS_modify (h _ ⟨rfl,rfl,rfl,rfl⟩)
abbrev G7:=ForInStep (Option (Array Keyed)×Array Keyed×Nat×Nat×Nat×Nat×Nat)
noncomputable def gl4 (a b:Array Keyed) (ac bc mg:Nat) (out:Array Keyed) (ia ib:Nat):StateT SortSt Sem G7:=do
 let x ← elem' a ia
 if (ia+1+1 == a.size)=true then pure (.done (some (lsA a b (out.push x) (ia+1) ib),out.push x,ia+1,ib,mg,ac,bc))
 else if (decide (ac<7) && decide (bc<7))=true then pure (.done (none,out.push x,ia+1,ib,mg,ac,bc))
 else pure (.yield (none,out.push x,ia+1,ib,mg,ac,bc))
noncomputable def gl3 (a b:Array Keyed) (ac mg:Nat) (out:Array Keyed) (ia ib bc0:Nat):StateT SortSt Sem G7:=do
 let y ← elem' b ib
 if (ib+1 == b.size)=true then pure (.done (some (dnA a b (out.push y) ia (ib+1)),out.push y,ia,ib+1,mg,ac,bc0))
 else
  let x ← elem' a ia
  let some k ← gallop' true x b (ib+1) (b.size - (ib+1)) 0 | pure (.done (some (dnA a b (out.push y) ia (ib+1)),out.push y,ia,ib+1,mg,ac,bc0))
  if k > 0 then
    if (ib+1+k == b.size)=true then pure (.done (some (dnA a b (out.push y++b.extract (ib+1) (ib+1+k)) ia (ib+1+k)),out.push y++b.extract (ib+1) (ib+1+k),ia,ib+1+k,mg,ac,k))
    else gl4 a b ac k mg (out.push y++b.extract (ib+1) (ib+1+k)) ia (ib+1+k)
  else gl4 a b ac k mg (out.push y) ia (ib+1)
noncomputable def gl2 (a b:Array Keyed) (mg:Nat) (out:Array Keyed) (ia ib ac0 bc0:Nat):StateT SortSt Sem G7:=do
 qA5 mg
 let y ← elem' b ib
 let some k ← gallop' false y a ia (a.size - ia) 0 | pure (.done (some (dnA a b out ia ib),out,ia,ib,mg,ac0,bc0))
 if k > 0 then
   if (ia+k+1 == a.size)=true then pure (.done (some (lsA a b (out++a.extract ia (ia+k)) (ia+k) ib),out++a.extract ia (ia+k),ia+k,ib,mg,k,bc0))
   else if (ia+k == a.size)=true then pure (.done (some (dnA a b (out++a.extract ia (ia+k)) (ia+k) ib),out++a.extract ia (ia+k),ia+k,ib,mg,k,bc0))
   else gl3 a b k mg (out++a.extract ia (ia+k)) (ia+k) ib bc0
 else gl3 a b k mg out ia ib bc0
noncomputable def glT (a b:Array Keyed) (c:Option (Array Keyed)×Array Keyed×Nat×Nat×Nat×Nat×Nat):StateT SortSt Sem G7 :=
 if c.2.2.2.2.1 > 1 then gl2 a b (c.2.2.2.2.1 - 1) c.2.1 c.2.2.1 c.2.2.2.1 c.2.2.2.2.2.1 c.2.2.2.2.2.2 else gl2 a b c.2.2.2.2.1 c.2.1 c.2.2.1 c.2.2.2.1 c.2.2.2.2.2.1 c.2.2.2.2.2.2
theorem qFe (a:Array Keyed) (h:i<a.size):∃ x,a[i]?=some x/\x∈a.toList/\a.toList.drop i=x :: a.toList.drop (i+1):=by
 refine⟨a[i],by simp[h],by simp,?_⟩;rw[hD1 (by simpa using h)];simp
structure Lo (rk:Keyed->Int) (a b out:Array Keyed) (ia ib:Nat):Prop where
 mi:MI rk (a.toList++b.toList) (a.toList.drop ia) (b.toList.drop ib) out.toList
 ha:ia+1<a.size
 hb:ib<b.size
def LoT (rk:Keyed->Int) (a b:Array Keyed) (st:SortSt) (r:Array Keyed) (st':SortSt):Prop:=Gal st st'/\Dn rk (a.toList++b.toList) r.toList
theorem Lo.dn (m:MI rk (a.toList++b.toList) (a.toList.drop ia) (b.toList.drop ib) out.toList) (h:a.size<=ia\/b.size<=ib):Dn rk (a.toList++b.toList) (dnA a b out ia ib).toList:=by
 rw[dnA_list];refine m.fin fun x hx y hy=>?_
 rcases h with h | h
 ·rw[List.drop_eq_nil_of_le (by simpa using h)]at hx;cases hx
 ·rw[List.drop_eq_nil_of_le (by simpa using h)]at hy;cases hy
theorem Lo.ls (m:MI rk (a.toList++b.toList) (a.toList.drop ia) (b.toList.drop ib) out.toList) (h:ia+1=a.size) (hi:∀ x∈a.toList.drop (a.size - 1),∀ y∈b.toList,rk y<=rk x):Dn rk (a.toList++b.toList) (lsA a b out ia ib).toList:=by
 rw[lsA_list];refine m.symm.fin fun y hy x hx=>hi x ?_ y (hCl hy)
 rw[show a.size - 1=ia by omega];exact hx
theorem wp_gl4 {a b out:Array Keyed} {ac bc mg ia ib:Nat} {st st0:SortSt} {Q:G7->SortSt->Prop} (L:Lo rk a b out ia ib) (lt:∀ x,a[ia]?=some x->∀ y∈b.toList.drop ib,rk x<=rk y) (hi:∀ x∈a.toList.drop (a.size - 1),∀ y∈b.toList,rk y<=rk x) (g:Gal st0 st)
  (hd:∀ r c,LoT rk a b st0 r st->Q (.done (some r,c)) st) (hn:∀ out' ia' mg ac bc,Lo rk a b out' ia' ib->out.size<out'.size->Q (.done (none,out',ia',ib,mg,ac,bc)) st/\Q (.yield (none,out',ia',ib,mg,ac,bc)) st) :
  wpS (model prog w) A E s (gl4 a b ac bc mg out ia ib) Q st:=by
 obtain⟨x,e,ex,ed⟩:=qFe a (i:=ia) (by have:=L.ha;omega);have m:MI rk (a.toList++b.toList) (a.toList.drop (ia+1)) (b.toList.drop ib) (out.push x).toList:=by
  have m:=L.mi;rw[ed]at m;rw[hC4];exact MI.as (xs:=[x]) m fun z hz y hy=>by
   rw[hA4.mp hz];exact lt x e y hy
 unfold gl4;refine wpS_bind (qAx e ?_);have h1:=L.ha;by_cases c:(ia+1+1 == a.size)=true
 ·rw[if_pos c];exact wpS_pure (hd _ _ ⟨g,Lo.ls m (by simpa using c) hi⟩)
 ·rw[if_neg c];have c':ia+1+1≠a.size:=by simpa using c
  have:=hn (out.push x) (ia+1) mg ac bc ⟨m,by omega,L.hb⟩ (by simp);split
  ·exact wpS_pure this.1
  ·exact wpS_pure this.2
theorem beq_ge {i n:Nat} (h:(i == n)=true):n<=i:=Nat.le_of_eq (eq_of_beq h).symm
theorem ext_app {b:Array Keyed} {i:Nat} {l1 l2:List Keyed} (e:b.toList.drop i=l1++l2):(b.extract i (i+l1.length)).toList=l1/\b.toList.drop (i+l1.length)=l2:=by
 refine⟨?_,?_⟩
 ·rw[qDn,e,show i+l1.length - i=l1.length by omega,hDd];rfl
 ·rw[<-List.drop_drop,e,hDe];rfl
theorem wp_gl3 (ak:qGw prog w A E s rk kd D) {a b out:Array Keyed} {ac mg bc0 ia ib:Nat} {st st0:SortSt} {Q:G7->SortSt->Prop} (hk:kindOf st=kd) (da:∀ x∈a.toList,D x) (db:∀ x∈b.toList,D x) (L:Lo rk a b out ia ib) (lt:∀ y,b[ib]?=some y->∀ x∈a.toList.drop ia,rk y<=rk x) (hi:∀ x∈a.toList.drop (a.size - 1),∀ y∈b.toList,rk y<=rk x) (g:Gal st0 st)
  (hd:∀ r c,LoT rk a b st0 r st->Q (.done (some r,c)) st) (hn:∀ out' ia' ib' mg ac bc,Lo rk a b out' ia' ib'->out.size<out'.size->Q (.done (none,out',ia',ib',mg,ac,bc)) st/\Q (.yield (none,out',ia',ib',mg,ac,bc)) st) :
  wpS (model prog w) A E s (gl3 a b ac mg out ia ib bc0) Q st:=by
 have h1:=L.ha;have h2:=L.hb;obtain⟨y,e,ey,ed⟩:=qFe b (i:=ib) h2;obtain⟨x,f,fx,fd⟩:=qFe a (i:=ia) (by omega);have m:MI rk (a.toList++b.toList) (a.toList.drop ia) (b.toList.drop (ib+1)) (out.push y).toList:=by
  have m:=L.mi;rw[ed]at m;rw[hC4];exact MI.bs (xs:=[y]) m fun z hz x hx=>by
   rw[hA4.mp hz];exact lt y e x hx
 have sh:=qB7 (fd▸m.sa);unfold gl3;refine wpS_bind (qAx e ?_);by_cases c:(ib+1 == b.size)=true
 ·rw[if_pos c];exact wpS_pure (hd _ _ ⟨g,Lo.dn m (.inr (beq_ge c))⟩)
 ·rw[if_neg c];have c':ib+1≠b.size:=by simpa using c
  refine wpS_bind (qAx f ?_);refine wpS_bind (qEu ak (l:=b.toList.drop (ib+1)) hk (da x fx) (hA6 (by simp)) (by simp) (fun z hz=>db z (hCl hz)) m.sb (by omega) fun l1 l2 el p1 p2=>?_);have q1:∀ z∈l1,rk z<rk x:=fun z hz=>by simpa [gP] using p1 z hz
  have q2:∀ z∈l2,rk x<=rk z:=fun z hz=>by
   have:=p2 z hz;simp[gP]at this;exact this
  have X:=ext_app el;dsimp only;by_cases k0:l1.length > 0
  ·rw[if_pos k0];have m2:MI rk (a.toList++b.toList) (a.toList.drop ia) (b.toList.drop (ib+1+l1.length)) (out.push y++b.extract (ib+1) (ib+1+l1.length)).toList:=by
    rw[hBt,X.1,X.2];rw[el]at m;exact m.bs fun z hz x' hx'=>by
     have a1:=q1 z hz;have a2:=sh x' (fd▸hx');omega
   by_cases d:(ib+1+l1.length == b.size)=true
   ·rw[if_pos d];exact wpS_pure (hd _ _ ⟨g,Lo.dn m2 (.inr (beq_ge d))⟩)
   ·rw[if_neg d];have d':ib+1+l1.length≠b.size:=by simpa using d
    have ll:(b.toList.drop (ib+1)).length=l1.length+l2.length:=by rw[el];simp
    rw[hCa]at ll;have ll':b.size - (ib+1)=l1.length+l2.length:=by simpa using ll
    refine wp_gl4 ⟨m2,h1,by omega⟩ (fun z hz y hy=>?_) hi g hd fun o i mg ac bc L' hs=>hn o i _ mg ac bc L' ?_
    ·rw[X.2]at hy;rw[f]at hz;cases hz;exact q2 y hy
    ·simp at hs;omega
  ·rw[if_neg k0];have n1:l1=[]:=hBh.mp (by omega);subst n1;refine wp_gl4 ⟨m,h1,by omega⟩ (fun z hz y hy=>?_) hi g hd fun o i mg ac bc L' hs=>hn o i _ mg ac bc L' ?_
   ·rw[el]at hy;rw[f]at hz;cases hz;exact q2 y hy
   ·simp at hs;omega
theorem wp_gl2 (ak:qGw prog w A E s rk kd D) {a b out:Array Keyed} {mg ac0 bc0 ia ib:Nat} {st st0:SortSt} {Q:G7->SortSt->Prop} (hk:kindOf st0=kd) (da:∀ x∈a.toList,D x) (db:∀ x∈b.toList,D x) (L:Lo rk a b out ia ib) (hi:∀ x∈a.toList.drop (a.size - 1),∀ y∈b.toList,rk y<=rk x) (g:Gal st0 st)
  (hd:∀ r c st,LoT rk a b st0 r st->Q (.done (some r,c)) st) (hn:∀ out' ia' ib' mg ac bc st,Gal st0 st->Lo rk a b out' ia' ib'->out.size<out'.size->Q (.done (none,out',ia',ib',mg,ac,bc)) st/\Q (.yield (none,out',ia',ib',mg,ac,bc)) st) :
  wpS (model prog w) A E s (gl2 a b mg out ia ib ac0 bc0) Q st:=by
 have h1:=L.ha;have h2:=L.hb;have m:=L.mi;obtain⟨y,e,ey,ed⟩:=qFe b (i:=ib) h2;have sh:=qB7 (ed▸m.sb);unfold gl2;refine wpS_bind (qFl fun st1 g1=>?_);have g':=g.trans g1;refine wpS_bind (qAx e ?_);refine wpS_bind (qEu ak (l:=a.toList.drop ia) (g'.1.trans hk) (db y ey) (hA6 (by simp)) (by simp) (fun z hz=>da z (hCl hz)) m.sa (by omega) fun l1 l2 el p1 p2=>?_);have q1:∀ z∈l1,rk z<=rk y:=fun z hz=>by simpa [gP] using p1 z hz
 have q2:∀ z∈l2,rk y<rk z:=fun z hz=>by simpa [gP] using p2 z hz
 have X:=ext_app el;dsimp only;by_cases k0:l1.length > 0
 ·rw[if_pos k0];have m2:MI rk (a.toList++b.toList) (a.toList.drop (ia+l1.length)) (b.toList.drop ib) (out++a.extract ia (ia+l1.length)).toList:=by
   rw[hBt,X.1,X.2];rw[el]at m;exact m.as fun z hz x' hx'=>by
    have a1:=q1 z hz;have a2:=sh x' (ed▸hx');omega
  by_cases d:(ia+l1.length+1 == a.size)=true
  ·rw[if_pos d];exact wpS_pure (hd _ _ _ ⟨g',Lo.ls m2 (by simpa using d) hi⟩)
  ·rw[if_neg d];by_cases d2:(ia+l1.length == a.size)=true
   ·rw[if_pos d2];exact wpS_pure (hd _ _ _ ⟨g',Lo.dn m2 (.inl (beq_ge d2))⟩)
   ·rw[if_neg d2];have d':ia+l1.length+1≠a.size:=by simpa using d
    have d2':ia+l1.length≠a.size:=by simpa using d2
    have ll:(a.toList.drop ia).length=l1.length+l2.length:=by rw[el];simp
    rw[hCa]at ll;have ll':a.size - ia=l1.length+l2.length:=by simpa using ll
    refine wp_gl3 ak (g'.1.trans hk) da db ⟨m2,by omega,h2⟩ (fun z hz x hx=>?_) hi g' (fun r c=>hd r c _) fun o i j mg ac bc L' hs=>hn o i j mg ac bc _ g' L' ?_
    ·rw[X.2]at hx;rw[e]at hz;cases hz;exact hDh (q2 x hx)
    ·simp at hs;omega
 ·rw[if_neg k0];have n1:l1=[]:=hBh.mp (by omega);subst n1;refine wp_gl3 ak (g'.1.trans hk) da db L (fun z hz x hx=>?_) hi g' (fun r c=>hd r c _) fun o i j mg ac bc L' hs=>hn o i j mg ac bc _ g' L' hs
  rw[el]at hx;rw[e]at hz;cases hz;exact hDh (q2 x hx)
theorem wpS_mergeLo (ak:qGw prog w A E s rk kd D) {a b:Array Keyed} {st:SortSt} {Q:Array Keyed->SortSt->Prop} (hk:kindOf st=kd) (da:∀ x∈a.toList,D x) (db:∀ x∈b.toList,D x) (sa:Srd rk a.toList) (sb:Srd rk b.toList) (h1:1<=a.size) (h2:1<=b.size)
  (lo:∀ y∈b.toList.take 1,∀ x∈a.toList,rk y<=rk x) (hi:∀ x∈a.toList.drop (a.size - 1),∀ y∈b.toList,rk y<=rk x) (h:∀ r st',Gal st st'->Dn rk (a.toList++b.toList) r.toList->Q r st'):wpS (model prog w) A E s (mergeLo' a b) Q st:=by
 rw[mergeLo'_eq];refine wpS_bind (wpS_lift (wpAny_rule ⟨rfl,?_⟩));obtain⟨y,e,ey,ed⟩:=qFe b (i:=0) h2;refine wpS_bind (qAx e ?_);have m:MI rk (a.toList++b.toList) (a.toList.drop 0) (b.toList.drop (0+1)) (#[y]:Array Keyed).toList:=by
  have m0:MI rk (a.toList++b.toList) (a.toList.drop 0) (b.toList.drop 0) []:=⟨by simp,List.Pairwise.nil,by simpa using sa,by simpa using sb,fun x hx=>(by cases hx),fun x hx=>(by cases hx)⟩;rw[ed]at m0;refine MI.bs (xs:=[y]) m0 fun z hz x hx=>?_
  rw[hA4.mp hz];refine lo y ?_ x (hCl hx);rw[List.drop_zero]at ed;rw[ed];exact hAe ..
 by_cases e1:(1 == b.size)=true
 ·rw[if_pos e1];exact wpS_pure (h _ _ (Gal.refl _) (Lo.dn m (.inr (beq_ge e1))))
 rw[if_neg e1];by_cases e2:(0+1 == a.size)=true
 ·rw[if_pos e2];exact wpS_pure (h _ _ (Gal.refl _) (Lo.ls m (by simpa using e2) hi))
 rw[if_neg e2];have e1':1≠b.size:=by simpa using e1
 have e2':0+1≠a.size:=by simpa using e2
 refine wpS_bind (wpS_get ?_);have tot:∀ {o:Array Keyed} {i j:Nat},Lo rk a b o i j->o.size+3<=a.size+b.size:=fun {o i j} L=>by
  have:=L.mi.len;have:=L.ha;have:=L.hb;simp at *;omega
 refine wpS_bind (wpS_mono (wpS_forRange (I:=fun x c st'=>∃ out ia ib mg,c=(none,out,ia,ib,mg)/\Lo rk a b out ia ib/\x+1<=out.size/\Gal st st')
  (Q:=fun c st'=>∃ r c',c=(some r,c')/\LoT rk a b st r st') ?_ ?_ ⟨_,_,_,_,rfl,⟨m,by omega,by omega⟩,by simp,Gal.refl _⟩) ?_)
 ·rintro x c st1 _ hx ⟨out,ia,ib,mg,rfl,L,hs,g⟩;refine wpS_bind (wpS_mono (wpS_forRange (I:=fun y c st'=>∃ o ia ib ac bc,c=(none,o,ia,ib,ac,bc)/\Lo rk a b o ia ib/\out.size+y<=o.size/\Gal st st')
   (Q:=fun c st'=>(∃ r c',c=(some r,c')/\LoT rk a b st r st')\/∃ o ia ib ac bc,c=(none,o,ia,ib,ac,bc)/\Lo rk a b o ia ib/\out.size<o.size/\Gal st st') ?_ ?_ ⟨_,_,_,_,_,rfl,L,hA5 _,g⟩) ?_)
  ·rintro y c st2 _ hy ⟨o,ja,jb,ac,bc,rfl,L2,hs2,g2⟩;have h1:=L2.ha;have h2:=L2.hb;have m:=L2.mi;obtain⟨v,f,fv,fd⟩:=qFe b (i:=jb) h2;obtain⟨u,p,pu,pd⟩:=qFe a (i:=ja) (by omega);refine wpS_bind (qAx f ?_);refine wpS_bind (qAx p ?_);refine wpS_bind (ak v u (db v fv) (da u pu) _ _ (g2.1.trans hk) ?_);have sv:=qB7 (fd▸m.sb);have su:=qB7 (pd▸m.sa);by_cases c:rk v<rk u
   ·rw[decide_eq_true c];have m2:MI rk (a.toList++b.toList) (a.toList.drop ja) (b.toList.drop (jb+1)) (o.push v).toList:=by
     rw[fd]at m;rw[hC4];refine MI.bs (xs:=[v]) m fun z hz x hx=>?_
     rw[hA4.mp hz];have:=su x (pd▸hx);omega
    dsimp only;rw[if_pos rfl];refine wpS_bind (qAx f ?_);by_cases q:(jb+1 == b.size)=true
    ·rw[if_pos q];exact wpS_pure (.inl ⟨_,_,rfl,g2,Lo.dn m2 (.inr (beq_ge q))⟩)
    ·rw[if_neg q];have q':jb+1≠b.size:=by simpa using q
     split
     ·exact wpS_pure (.inr ⟨_,_,_,_,_,rfl,⟨m2,h1,by omega⟩,by simp;omega,g2⟩)
     ·exact wpS_pure ⟨_,_,_,_,_,rfl,⟨m2,h1,by omega⟩,by simp;omega,g2⟩
   ·rw[decide_eq_false c];have m2:MI rk (a.toList++b.toList) (a.toList.drop (ja+1)) (b.toList.drop jb) (o.push u).toList:=by
     rw[pd]at m;rw[hC4];refine MI.as (xs:=[u]) m fun z hz x hx=>?_
     rw[hA4.mp hz];have:=sv x (fd▸hx);omega
    dsimp only;rw[if_neg (by decide)];refine wpS_bind (qAx p ?_);by_cases q:(ja+1+1 == a.size)=true
    ·rw[if_pos q];exact wpS_pure (.inl ⟨_,_,rfl,g2,Lo.ls m2 (eq_of_beq q) hi⟩)
    ·rw[if_neg q];have q':ja+1+1≠a.size:=by simpa using q
     split
     ·exact wpS_pure (.inr ⟨_,_,_,_,_,rfl,⟨m2,by omega,h2⟩,by simp;omega,g2⟩)
     ·exact wpS_pure ⟨_,_,_,_,_,rfl,⟨m2,by omega,h2⟩,by simp;omega,g2⟩
  ·rintro c st2 ⟨o,ja,jb,ac,bc,rfl,L2,hs2,g2⟩;have:=tot L2;omega
  ·rintro c st2 (⟨r,c',rfl,hr⟩ | ⟨o,ja,jb,ac,bc,rfl,L2,hs2,g2⟩)
   ·exact wpS_pure ⟨r,_,rfl,hr⟩
   ·refine wpS_bind (wpS_lift (wpAny_rule ⟨rfl,?_⟩));refine wpS_bind (wpS_mono (wpS_forRange (I:=fun y c st'=>∃ o' ia ib mg ac bc,c=(none,o',ia,ib,mg,ac,bc)/\Lo rk a b o' ia ib/\o.size+y<=o'.size/\Gal st st')
     (Q:=fun c st'=>(∃ r c',c=(some r,c')/\LoT rk a b st r st')\/∃ o' ia ib mg ac bc,c=(none,o',ia,ib,mg,ac,bc)/\Lo rk a b o' ia ib/\o.size<=o'.size/\Gal st st') ?_ ?_ ⟨_,_,_,_,_,_,rfl,L2,hA5 _,g2⟩) ?_)
    ·rintro y c st3 _ hy ⟨o',ka,kb,mg',ac',bc',rfl,L3,hs3,g3⟩;have one:∀ mg,wpS (model prog w) A E s (gl2 a b mg o' ka kb ac' bc') (fun r st'=>match r with | .done c'=>(∃ r c'',c'=(some r,c'')/\LoT rk a b st r st')\/∃ o' ia ib mg ac bc,c'=(none,o',ia,ib,mg,ac,bc)/\Lo rk a b o' ia ib/\o.size<=o'.size/\Gal st st' | .yield c'=>∃ o' ia ib mg ac bc,c'=(none,o',ia,ib,mg,ac,bc)/\Lo rk a b o' ia ib/\o.size+(y+1)<=o'.size/\Gal st st') st3:=fun mg =>
      wp_gl2 ak hk da db L3 hi g3 (fun r c st5 hr=>.inl ⟨r,c,rfl,hr⟩) fun o6 i j mg6 ac6 bc6 st6 g6 L6 hs6=>⟨.inr ⟨_,_,_,_,_,_,rfl,L6,by omega,g6⟩,⟨_,_,_,_,_,_,rfl,L6,by omega,g6⟩⟩
     refine wpS_mono (m:=glT a b (none,o',ka,kb,mg',ac',bc')) ?_ (fun r st' hr=>?_) (Q:=fun r st'=>match r with | .done c'=>(∃ r c'',c'=(some r,c'')/\LoT rk a b st r st')\/∃ o' ia ib mg ac bc,c'=(none,o',ia,ib,mg,ac,bc)/\Lo rk a b o' ia ib/\o.size<=o'.size/\Gal st st' | .yield c'=>∃ o' ia ib mg ac bc,c'=(none,o',ia,ib,mg,ac,bc)/\Lo rk a b o' ia ib/\o.size+(y+1)<=o'.size/\Gal st st')
     ·unfold glT;split
      ·exact one _
      ·exact one _
     ·cases r with
      | done c'=>exact hr
      | yield c'=>exact hr
    ·rintro c st3 ⟨o',ka,kb,mg',ac',bc',rfl,L3,hs3,g3⟩;have:=tot L3;omega
    ·rintro c st3 (⟨r,c',rfl,hr⟩ | ⟨o',ka,kb,mg',ac',bc',rfl,L3,hs3,g3⟩)
     ·exact wpS_pure ⟨r,_,rfl,hr⟩
     ·refine wpS_bind (qFl fun st4 g4=>?_);exact wpS_pure ⟨_,_,_,_,rfl,L3,by show _<=o'.size;omega,g3.trans g4⟩
 ·rintro c st1 ⟨out,ia,ib,mg,rfl,L,hs,g⟩;have:=tot L;omega
 ·rintro c st1 ⟨r,c',rfl,hr⟩;exact wpS_pure (h _ _ hr.1 hr.2)
end
end L2
namespace L2
open PySem PySem.Spec PyProof.Rows
noncomputable def mergeHi':Array Keyed->Array Keyed->StateT SortSt Sem (Array Keyed):=sortPriv% PySem.Builtin.mergeHi
noncomputable def dnH (a b out:Array Keyed) (na nb:Nat):Array Keyed:=a.extract 0 na++b.extract 0 nb++out.reverse
noncomputable def fsH (a b out:Array Keyed) (na nb:Nat):Array Keyed:=b.extract 0 nb++a.extract 0 na++out.reverse
theorem mergeHi'_eq (a b:Array Keyed):mergeHi' a b=(do
 rule "list.sort.merge-hi"
 let total:=a.size+b.size
 let mut na:=a.size - 1
 let mut nb:=b.size
 let mut out:Array Keyed:=#[<-elem' a na]
 if na == 0 then return dnH a b out na nb
 if nb == 1 then return fsH a b out na nb
 let mut minGallop:=gallopOf (← get)
 for _ in [0:total] do
  let mut acount:=0
  let mut bcount:=0
  for _ in [0:total] do
   let some aWins ← lt' (← elem' b (nb - 1)) (← elem' a (na - 1)) | return dnH a b out na nb
   if aWins then
    na:=na - 1;out:=out.push (← elem' a na);acount:=acount+1;bcount:=0
    if na == 0 then return dnH a b out na nb
    if acount >= minGallop then break
   else
    nb:=nb - 1;out:=out.push (← elem' b nb);bcount:=bcount+1;acount:=0
    if nb == 1 then return fsH a b out na nb
    if bcount >= minGallop then break
  rule "list.sort.gallop"
  minGallop:=minGallop+1
  for _ in [0:total] do
   if minGallop > 1 then minGallop:=minGallop - 1
   qA5 minGallop
   let some at_ ← gallop' false (← elem' b (nb - 1)) a 0 na (na - 1) | return dnH a b out na nb
   let k:=na - at_
   acount:=k
   if k > 0 then
    out:=out++(a.extract at_ na).reverse;na:=at_
    if na == 0 then return dnH a b out na nb
   nb:=nb - 1;out:=out.push (← elem' b nb)
   if nb == 1 then return fsH a b out na nb
   let some at_ ← gallop' true (← elem' a (na - 1)) b 0 nb (nb - 1) | return dnH a b out na nb
   let k:=nb - at_
   bcount:=k
   if k > 0 then
    out:=out++(b.extract at_ nb).reverse;nb:=at_
    if nb == 1 then return fsH a b out na nb
    if nb == 0 then return dnH a b out na nb
   na:=na - 1;out:=out.push (← elem' a na)
   if na == 0 then return dnH a b out na nb
   if acount<7 && bcount<7 then break
  minGallop:=minGallop+1
  qA5 minGallop
 unsupported "internal:list.sort.merge-bound"):=rfl
noncomputable def ng (rk:Keyed->Int) (x:Keyed):Int:=-rk x
theorem Dn.turn (h:Dn (ng rk) all l):Dn rk all l.reverse:=by
 refine⟨(List.reverse_perm l).trans h.1,List.pairwise_reverse.mpr (h.2.imp fun {x y} q=>?_)⟩;unfold ng at q;omega
theorem Srd.turn (h:Srd rk l):Srd (ng rk) l.reverse:=by
 refine List.pairwise_reverse.mpr (h.imp fun {x y} q=>?_);unfold ng;omega
theorem ext_from (a:Array Keyed) (n:Nat):(a.extract 0 n).toList=a.toList.take n:=by
 rw[qDn,List.drop_zero,Nat.sub_zero]
theorem dnH_list (a b out:Array Keyed) (na nb:Nat):(dnH a b out na nb).toList=(out.toList++((b.toList.take nb).reverse++(a.toList.take na).reverse)).reverse:=by
 unfold dnH;simp[ext_from]
theorem fsH_list (a b out:Array Keyed) (na nb:Nat):(fsH a b out na nb).toList=(out.toList++((a.toList.take na).reverse++(b.toList.take nb).reverse)).reverse:=by
 unfold fsH;simp[ext_from]
theorem qDs (a:Array Keyed) (h:n<a.size):∃ x,a[n]?=some x/\x∈a.toList/\(a.toList.take (n+1)).reverse=x :: (a.toList.take n).reverse:=by
 refine⟨a[n],by simp[h],by simp,?_⟩;rw[List.take_succ_eq_append_getElem (by simpa using h)];simp
theorem ext_hi {a:Array Keyed} {n:Nat} {l1 l2:List Keyed} (hn:n<=a.size) (e:a.toList.take n=l1++l2):(a.extract l1.length n).toList=l2/\a.toList.take l1.length=l1/\l1.length+l2.length=n:=by
 have ln:l1.length+l2.length=n:=by
  have:(a.toList.take n).length=l1.length+l2.length:=by rw[e];simp
  rw[hAi]at this;simp at this;omega
 refine⟨?_,?_,ln⟩
 ·rw[qDn,<-List.drop_take,e,hDe];rfl
 ·have:(a.toList.take n).take l1.length=l1:=by rw[e,hDd];rfl
  rw[List.take_take,Nat.min_eq_left (by omega)]at this;exact this
section
variable {prog:Program} {w:World} {A:Around} {E:Value->Shared->Prop} {s:Shared} {rk:Keyed->Int} {kd:SortKind} {D:Keyed->Prop}
abbrev H7:=ForInStep (Option (Array Keyed)×Nat×Nat×Array Keyed×Nat×Nat×Nat)
noncomputable def gh4 (a b:Array Keyed) (ac bc mg:Nat) (out:Array Keyed) (na nb:Nat):StateT SortSt Sem H7:=do
 let x ← elem' a (na - 1)
 if (na - 1 == 0)=true then pure (.done (some (dnH a b (out.push x) (na - 1) nb),na - 1,nb,out.push x,mg,ac,bc))
 else if (decide (ac<7) && decide (bc<7))=true then pure (.done (none,na - 1,nb,out.push x,mg,ac,bc))
 else pure (.yield (none,na - 1,nb,out.push x,mg,ac,bc))
noncomputable def gh3 (a b:Array Keyed) (ac mg:Nat) (out:Array Keyed) (na nb bc0:Nat):StateT SortSt Sem H7:=do
 let y ← elem' b (nb - 1)
 if (nb - 1 == 1)=true then pure (.done (some (fsH a b (out.push y) na (nb - 1)),na,nb - 1,out.push y,mg,ac,bc0))
 else
  let x ← elem' a (na - 1)
  let some k ← gallop' true x b 0 (nb - 1) (nb - 1 - 1) | pure (.done (some (dnH a b (out.push y) na (nb - 1)),na,nb - 1,out.push y,mg,ac,bc0))
  if nb - 1 - k > 0 then
    if (k == 1)=true then pure (.done (some (fsH a b (out.push y++(b.extract k (nb - 1)).reverse) na k),na,k,out.push y++(b.extract k (nb - 1)).reverse,mg,ac,nb - 1 - k))
    else if (k == 0)=true then pure (.done (some (dnH a b (out.push y++(b.extract k (nb - 1)).reverse) na k),na,k,out.push y++(b.extract k (nb - 1)).reverse,mg,ac,nb - 1 - k))
    else gh4 a b ac (nb - 1 - k) mg (out.push y++(b.extract k (nb - 1)).reverse) na k
  else gh4 a b ac (nb - 1 - k) mg (out.push y) na (nb - 1)
noncomputable def gh2 (a b:Array Keyed) (mg:Nat) (out:Array Keyed) (na nb ac0 bc0:Nat):StateT SortSt Sem H7:=do
 qA5 mg
 let y ← elem' b (nb - 1)
 let some k ← gallop' false y a 0 na (na - 1) | pure (.done (some (dnH a b out na nb),na,nb,out,mg,ac0,bc0))
 if na - k > 0 then
   if (k == 0)=true then pure (.done (some (dnH a b (out++(a.extract k na).reverse) k nb),k,nb,out++(a.extract k na).reverse,mg,na - k,bc0))
   else gh3 a b (na - k) mg (out++(a.extract k na).reverse) k nb bc0
 else gh3 a b (na - k) mg out na nb bc0
noncomputable def ghT (a b:Array Keyed) (c:Option (Array Keyed)×Nat×Nat×Array Keyed×Nat×Nat×Nat):StateT SortSt Sem H7 :=
 if c.2.2.2.2.1 > 1 then gh2 a b (c.2.2.2.2.1 - 1) c.2.2.2.1 c.2.1 c.2.2.1 c.2.2.2.2.2.1 c.2.2.2.2.2.2 else gh2 a b c.2.2.2.2.1 c.2.2.2.1 c.2.1 c.2.2.1 c.2.2.2.2.2.1 c.2.2.2.2.2.2
abbrev HM (rk:Keyed->Int) (a b out:Array Keyed) (na nb:Nat):Prop:=MI (ng rk) (a.toList++b.toList) (a.toList.take na).reverse (b.toList.take nb).reverse out.toList
structure Hi (rk:Keyed->Int) (a b out:Array Keyed) (na nb:Nat):Prop where
 mi:HM rk a b out na nb
 ha:0<na
 hb:1<nb
 za:na<=a.size
 zb:nb<=b.size
theorem Hi.dn (m:HM rk a b out na nb) (h:na=0\/nb=0):Dn rk (a.toList++b.toList) (dnH a b out na nb).toList:=by
 rw[dnH_list];refine Dn.turn (m.symm.fin fun x hx y hy=>?_);rcases h with h | h
 ·subst h;cases hy
 ·subst h;cases hx
theorem Hi.fs (m:HM rk a b out na nb) (h:nb=1) (lo:∀ y∈b.toList.take 1,∀ x∈a.toList,rk y<=rk x):Dn rk (a.toList++b.toList) (fsH a b out na nb).toList:=by
 rw[fsH_list];refine Dn.turn (m.fin fun x hx y hy=>?_);subst h;have:=lo y (hCv.mp hy) x (hC7 (hCv.mp hx));unfold ng;omega
theorem wp_gh4 {a b out:Array Keyed} {ac bc mg na nb:Nat} {st st0:SortSt} {Q:H7->SortSt->Prop} (L:Hi rk a b out na nb) (lt:∀ x,a[na - 1]?=some x->∀ y∈b.toList.take nb,rk y<=rk x) (g:Gal st0 st)
  (hd:∀ r c,LoT rk a b st0 r st->Q (.done (some r,c)) st) (hn:∀ out' na' mg ac bc,Hi rk a b out' na' nb->out.size<out'.size->Q (.done (none,na',nb,out',mg,ac,bc)) st/\Q (.yield (none,na',nb,out',mg,ac,bc)) st) :
  wpS (model prog w) A E s (gh4 a b ac bc mg out na nb) Q st:=by
 have h1:=L.ha;have h3:=L.za;obtain⟨x,e,ex,ed⟩:=qDs a (n:=na - 1) (by omega);rw[show na - 1+1=na by omega]at ed;have m:HM rk a b (out.push x) (na - 1) nb:=by
  have m:=L.mi;unfold HM at m ⊢;rw[ed]at m;rw[hC4];exact MI.as (xs:=[x]) m fun z hz y hy=>by
   rw[hA4.mp hz];have:=lt x e y (hCv.mp hy);unfold ng;omega
 unfold gh4;refine wpS_bind (qAx e ?_);by_cases c:(na - 1 == 0)=true
 ·rw[if_pos c];exact wpS_pure (hd _ _ ⟨g,Hi.dn m (.inl (eq_of_beq c))⟩)
 ·rw[if_neg c];have c':na - 1≠0:=by simpa using c
  have:=hn (out.push x) (na - 1) mg ac bc ⟨m,by omega,L.hb,by omega,L.zb⟩ (by simp);split
  ·exact wpS_pure this.1
  ·exact wpS_pure this.2
theorem wp_gh3 (ak:qGw prog w A E s rk kd D) {a b out:Array Keyed} {ac mg bc0 na nb:Nat} {st st0:SortSt} {Q:H7->SortSt->Prop} (hk:kindOf st=kd) (da:∀ x∈a.toList,D x) (db:∀ x∈b.toList,D x) (sb:Srd rk b.toList) (L:Hi rk a b out na nb) (lt:∀ y,b[nb - 1]?=some y->∀ x∈a.toList.take na,rk x<=rk y) (lo:∀ y∈b.toList.take 1,∀ x∈a.toList,rk y<=rk x) (g:Gal st0 st)
  (hd:∀ r c,LoT rk a b st0 r st->Q (.done (some r,c)) st) (hn:∀ out' na' nb' mg ac bc,Hi rk a b out' na' nb'->out.size<out'.size->Q (.done (none,na',nb',out',mg,ac,bc)) st/\Q (.yield (none,na',nb',out',mg,ac,bc)) st) :
  wpS (model prog w) A E s (gh3 a b ac mg out na nb bc0) Q st:=by
 have h1:=L.ha;have h2:=L.hb;have h3:=L.za;have h4:=L.zb;obtain⟨y,e,ey,ed⟩:=qDs b (n:=nb - 1) (by omega);rw[show nb - 1+1=nb by omega]at ed;obtain⟨x,f,fx,fd⟩:=qDs a (n:=na - 1) (by omega);rw[show na - 1+1=na by omega]at fd;have m:HM rk a b (out.push y) na (nb - 1):=by
  have m:=L.mi;unfold HM at m ⊢;rw[ed]at m;rw[hC4];exact MI.bs (xs:=[y]) m fun z hz x hx=>by
   rw[hA4.mp hz];have:=lt y e x (hCv.mp hx);unfold ng;omega
 have sh:=qB7 (fd▸m.sa);unfold gh3;refine wpS_bind (qAx e ?_);by_cases c:(nb - 1 == 1)=true
 ·rw[if_pos c];exact wpS_pure (hd _ _ ⟨g,Hi.fs m (eq_of_beq c) lo⟩)
 ·rw[if_neg c];have c':nb - 1≠1:=by simpa using c
  refine wpS_bind (qAx f ?_);refine wpS_bind (qEu ak (l:=b.toList.take (nb - 1)) hk (da x fx) (by rw[List.drop_zero]) (by simp;omega) (fun z hz=>db z (hC7 hz)) (List.Pairwise.sublist (List.take_sublist _ _) sb) (by omega) fun l1 l2 el p1 p2=>?_);have q1:∀ z∈l1,rk z<rk x:=fun z hz=>by simpa [gP] using p1 z hz
  have q2:∀ z∈l2,rk x<=rk z:=fun z hz=>by
   have:=p2 z hz;simp[gP]at this;exact this
  obtain⟨X1,X2,X3⟩:=ext_hi (by omega) el;dsimp only;by_cases k0:nb - 1 - l1.length > 0
  ·rw[if_pos k0];have m2:HM rk a b (out.push y++(b.extract l1.length (nb - 1)).reverse) na l1.length:=by
    unfold HM at m ⊢;rw[hBt,Array.toList_reverse,X1,X2];rw[el,List.reverse_append]at m;exact m.bs fun z hz x' hx'=>by
     have a1:=q2 z (hCv.mp hz);have a2:=sh x' (fd▸hx');unfold ng at a2 ⊢;omega
   by_cases d:(l1.length == 1)=true
   ·rw[if_pos d];exact wpS_pure (hd _ _ ⟨g,Hi.fs m2 (eq_of_beq d) lo⟩)
   ·rw[if_neg d];by_cases d2:(l1.length == 0)=true
    ·rw[if_pos d2];exact wpS_pure (hd _ _ ⟨g,Hi.dn m2 (.inr (eq_of_beq d2))⟩)
    ·rw[if_neg d2];have d':l1.length≠1:=by simpa using d
     have d2':l1.length≠0:=fun z=>d2 (by rw[z];rfl)
     refine wp_gh4 ⟨m2,h1,by omega,h3,by omega⟩ (fun z hz y hy=>?_) g hd fun o i mg ac bc L' hs=>hn o i _ mg ac bc L' ?_
     ·rw[X2]at hy;rw[f]at hz;cases hz;exact hDh (q1 y hy)
     ·simp at hs;omega
  ·rw[if_neg k0];have n1:l2=[]:=hBh.mp (by omega);subst n1;refine wp_gh4 ⟨m,h1,by omega,h3,by omega⟩ (fun z hz y hy=>?_) g hd fun o i mg ac bc L' hs=>hn o i _ mg ac bc L' ?_
   ·rw[el,hBe]at hy;rw[f]at hz;cases hz;exact hDh (q1 y hy)
   ·simp at hs;omega
theorem wp_gh2 (ak:qGw prog w A E s rk kd D) {a b out:Array Keyed} {mg ac0 bc0 na nb:Nat} {st st0:SortSt} {Q:H7->SortSt->Prop} (hk:kindOf st0=kd) (da:∀ x∈a.toList,D x) (db:∀ x∈b.toList,D x) (sa:Srd rk a.toList) (sb:Srd rk b.toList) (L:Hi rk a b out na nb) (lo:∀ y∈b.toList.take 1,∀ x∈a.toList,rk y<=rk x) (g:Gal st0 st)
  (hd:∀ r c st,LoT rk a b st0 r st->Q (.done (some r,c)) st) (hn:∀ out' na' nb' mg ac bc st,Gal st0 st->Hi rk a b out' na' nb'->out.size<out'.size->Q (.done (none,na',nb',out',mg,ac,bc)) st/\Q (.yield (none,na',nb',out',mg,ac,bc)) st) :
  wpS (model prog w) A E s (gh2 a b mg out na nb ac0 bc0) Q st:=by
 have h1:=L.ha;have h2:=L.hb;have h3:=L.za;have h4:=L.zb;have m:=L.mi;obtain⟨y,e,ey,ed⟩:=qDs b (n:=nb - 1) (by omega);rw[show nb - 1+1=nb by omega]at ed;have sh:=qB7 (ed▸m.sb);unfold gh2;refine wpS_bind (qFl fun st1 g1=>?_);have g':=g.trans g1;refine wpS_bind (qAx e ?_);refine wpS_bind (qEu ak (l:=a.toList.take na) (g'.1.trans hk) (db y ey) (by rw[List.drop_zero]) (by simp;omega) (fun z hz=>da z (hC7 hz)) (List.Pairwise.sublist (List.take_sublist _ _) sa) (by omega) fun l1 l2 el p1 p2=>?_);have q1:∀ z∈l1,rk z<=rk y:=fun z hz=>by simpa [gP] using p1 z hz
 have q2:∀ z∈l2,rk y<rk z:=fun z hz=>by simpa [gP] using p2 z hz
 obtain⟨X1,X2,X3⟩:=ext_hi (by omega) el;dsimp only;by_cases k0:na - l1.length > 0
 ·rw[if_pos k0];have m2:HM rk a b (out++(a.extract l1.length na).reverse) l1.length nb:=by
   unfold HM at m ⊢;rw[hBt,Array.toList_reverse,X1,X2];rw[el,List.reverse_append]at m;exact m.as fun z hz x' hx'=>by
    have a1:=q2 z (hCv.mp hz);have a2:=sh x' (ed▸hx');unfold ng at a2 ⊢;omega
  by_cases d2:(l1.length == 0)=true
  ·rw[if_pos d2];exact wpS_pure (hd _ _ _ ⟨g',Hi.dn m2 (.inl (eq_of_beq d2))⟩)
  ·rw[if_neg d2];have d2':l1.length≠0:=fun z=>d2 (by rw[z];rfl)
   refine wp_gh3 ak (g'.1.trans hk) da db sb ⟨m2,by omega,h2,by omega,h4⟩ (fun z hz x hx=>?_) lo g' (fun r c=>hd r c _) fun o i j mg ac bc L' hs=>hn o i j mg ac bc _ g' L' ?_
   ·rw[X2]at hx;rw[e]at hz;cases hz;exact q1 x hx
   ·simp at hs;omega
 ·rw[if_neg k0];have n1:l2=[]:=hBh.mp (by omega);subst n1;refine wp_gh3 ak (g'.1.trans hk) da db sb L (fun z hz x hx=>?_) lo g' (fun r c=>hd r c _) fun o i j mg ac bc L' hs=>hn o i j mg ac bc _ g' L' hs
  rw[el,hBe]at hx;rw[e]at hz;cases hz;exact q1 x hx
theorem wpS_mergeHi (ak:qGw prog w A E s rk kd D) {a b:Array Keyed} {st:SortSt} {Q:Array Keyed->SortSt->Prop} (hk:kindOf st=kd) (da:∀ x∈a.toList,D x) (db:∀ x∈b.toList,D x) (sa:Srd rk a.toList) (sb:Srd rk b.toList) (h1:1<=a.size) (h2:1<=b.size)
  (lo:∀ y∈b.toList.take 1,∀ x∈a.toList,rk y<=rk x) (hi:∀ x∈a.toList.drop (a.size - 1),∀ y∈b.toList,rk y<=rk x) (h:∀ r st',Gal st st'->Dn rk (a.toList++b.toList) r.toList->Q r st'):wpS (model prog w) A E s (mergeHi' a b) Q st:=by
 rw[mergeHi'_eq];refine wpS_bind (wpS_lift (wpAny_rule ⟨rfl,?_⟩));obtain⟨x,e,ex,ed⟩:=qDs a (n:=a.size - 1) (by omega);rw[show a.size - 1+1=a.size by omega]at ed;refine wpS_bind (qAx e ?_);have m:HM rk a b #[x] (a.size - 1) b.size:=by
  have m0:MI (ng rk) (a.toList++b.toList) (a.toList.take a.size).reverse (b.toList.take b.size).reverse []:=by
   have ea:a.toList.take a.size=a.toList:=hA6 (by simp);have eb:b.toList.take b.size=b.toList:=hA6 (by simp);rw[ea,eb];refine⟨?_,List.Pairwise.nil,sa.turn,sb.turn,fun x hx=>(by cases hx),fun x hx=>(by cases hx)⟩;exact((List.reverse_perm _).append (List.reverse_perm _))
  rw[ed]at m0;refine MI.as (xs:=[x]) m0 fun z hz y hy=>?_
  rw[hA4.mp hz];have:=hi x ?_ y (hC7 (hCv.mp hy))
  ·unfold ng;omega
  ·obtain⟨x',e',_,ed'⟩:=qFe a (i:=a.size - 1) (by omega);rw[e]at e';cases e';rw[ed'];exact hAe ..
 by_cases e1:(a.size - 1 == 0)=true
 ·rw[if_pos e1];exact wpS_pure (h _ _ (Gal.refl _) (Hi.dn m (.inl (eq_of_beq e1))))
 rw[if_neg e1];by_cases e2:(b.size == 1)=true
 ·rw[if_pos e2];exact wpS_pure (h _ _ (Gal.refl _) (Hi.fs m (eq_of_beq e2) lo))
 rw[if_neg e2];have e1':a.size - 1≠0:=fun z=>e1 (by rw[z];rfl)
 have e2':b.size≠1:=fun z=>e2 (by rw[z];rfl)
 refine wpS_bind (wpS_get ?_);have tot:∀ {o:Array Keyed} {i j:Nat},Hi rk a b o i j->o.size+3<=a.size+b.size:=fun {o i j} L=>by
  have:=L.mi.len;have:=L.ha;have:=L.hb;have:=L.za;have:=L.zb;simp at *;omega
 refine wpS_bind (wpS_mono (wpS_forRange (I:=fun x c st'=>∃ out na nb mg,c=(none,na,nb,out,mg)/\Hi rk a b out na nb/\x+1<=out.size/\Gal st st')
  (Q:=fun c st'=>∃ r c',c=(some r,c')/\LoT rk a b st r st') ?_ ?_ ⟨_,_,_,_,rfl,⟨m,by omega,by omega,by omega,hA5 _⟩,by simp,Gal.refl _⟩) ?_)
 ·rintro x c st1 _ hx ⟨out,ia,ib,mg,rfl,L,hs,g⟩;refine wpS_bind (wpS_mono (wpS_forRange (I:=fun y c st'=>∃ o ia ib ac bc,c=(none,ia,ib,o,ac,bc)/\Hi rk a b o ia ib/\out.size+y<=o.size/\Gal st st')
   (Q:=fun c st'=>(∃ r c',c=(some r,c')/\LoT rk a b st r st')\/∃ o ia ib ac bc,c=(none,ia,ib,o,ac,bc)/\Hi rk a b o ia ib/\out.size<o.size/\Gal st st') ?_ ?_ ⟨_,_,_,_,_,rfl,L,hA5 _,g⟩) ?_)
  ·rintro y c st2 _ hy ⟨o,ja,jb,ac,bc,rfl,L2,hs2,g2⟩;have h1:=L2.ha;have h2:=L2.hb;have h3:=L2.za;have h4:=L2.zb;have m:=L2.mi;obtain⟨v,f,fv,fd⟩:=qDs b (n:=jb - 1) (by omega);rw[show jb - 1+1=jb by omega]at fd;obtain⟨u,p,pu,pd⟩:=qDs a (n:=ja - 1) (by omega);rw[show ja - 1+1=ja by omega]at pd;refine wpS_bind (qAx f ?_);refine wpS_bind (qAx p ?_);refine wpS_bind (ak v u (db v fv) (da u pu) _ _ (g2.1.trans hk) ?_);have sv:=qB7 (fd▸m.sb);have su:=qB7 (pd▸m.sa);unfold ng at sv su;by_cases c:rk v<rk u
   ·rw[decide_eq_true c];have m2:HM rk a b (o.push u) (ja - 1) jb:=by
     unfold HM at m ⊢;rw[pd]at m;rw[hC4];refine MI.as (xs:=[u]) m fun z hz x hx=>?_
     rw[hA4.mp hz];have:=sv x (fd▸hx);unfold ng;omega
    dsimp only;rw[if_pos rfl];refine wpS_bind (qAx p ?_);by_cases q:(ja - 1 == 0)=true
    ·rw[if_pos q];exact wpS_pure (.inl ⟨_,_,rfl,g2,Hi.dn m2 (.inl (eq_of_beq q))⟩)
    ·rw[if_neg q];have q':ja - 1≠0:=fun z=>q (by rw[z];rfl)
     split
     ·exact wpS_pure (.inr ⟨_,_,_,_,_,rfl,⟨m2,by omega,h2,by omega,h4⟩,by simp;omega,g2⟩)
     ·exact wpS_pure ⟨_,_,_,_,_,rfl,⟨m2,by omega,h2,by omega,h4⟩,by simp;omega,g2⟩
   ·rw[decide_eq_false c];have m2:HM rk a b (o.push v) ja (jb - 1):=by
     unfold HM at m ⊢;rw[fd]at m;rw[hC4];refine MI.bs (xs:=[v]) m fun z hz x hx=>?_
     rw[hA4.mp hz];have:=su x (pd▸hx);unfold ng;omega
    dsimp only;rw[if_neg (by decide)];refine wpS_bind (qAx f ?_);by_cases q:(jb - 1 == 1)=true
    ·rw[if_pos q];exact wpS_pure (.inl ⟨_,_,rfl,g2,Hi.fs m2 (eq_of_beq q) lo⟩)
    ·rw[if_neg q];have q':jb - 1≠1:=fun z=>q (by rw[z];rfl)
     split
     ·exact wpS_pure (.inr ⟨_,_,_,_,_,rfl,⟨m2,h1,by omega,h3,by omega⟩,by simp;omega,g2⟩)
     ·exact wpS_pure ⟨_,_,_,_,_,rfl,⟨m2,h1,by omega,h3,by omega⟩,by simp;omega,g2⟩
  ·rintro c st2 ⟨o,ja,jb,ac,bc,rfl,L2,hs2,g2⟩;have:=tot L2;omega
  ·rintro c st2 (⟨r,c',rfl,hr⟩ | ⟨o,ja,jb,ac,bc,rfl,L2,hs2,g2⟩)
   ·exact wpS_pure ⟨r,_,rfl,hr⟩
   ·refine wpS_bind (wpS_lift (wpAny_rule ⟨rfl,?_⟩));refine wpS_bind (wpS_mono (wpS_forRange (I:=fun y c st'=>∃ o' ia ib mg ac bc,c=(none,ia,ib,o',mg,ac,bc)/\Hi rk a b o' ia ib/\o.size+y<=o'.size/\Gal st st')
     (Q:=fun c st'=>(∃ r c',c=(some r,c')/\LoT rk a b st r st')\/∃ o' ia ib mg ac bc,c=(none,ia,ib,o',mg,ac,bc)/\Hi rk a b o' ia ib/\o.size<=o'.size/\Gal st st') ?_ ?_ ⟨_,_,_,_,_,_,rfl,L2,hA5 _,g2⟩) ?_)
    ·rintro y c st3 _ hy ⟨o',ka,kb,mg',ac',bc',rfl,L3,hs3,g3⟩;have one:∀ mg,wpS (model prog w) A E s (gh2 a b mg o' ka kb ac' bc') (fun r st'=>match r with | .done c'=>(∃ r c'',c'=(some r,c'')/\LoT rk a b st r st')\/∃ o' ia ib mg ac bc,c'=(none,ia,ib,o',mg,ac,bc)/\Hi rk a b o' ia ib/\o.size<=o'.size/\Gal st st' | .yield c'=>∃ o' ia ib mg ac bc,c'=(none,ia,ib,o',mg,ac,bc)/\Hi rk a b o' ia ib/\o.size+(y+1)<=o'.size/\Gal st st') st3:=fun mg =>
      wp_gh2 ak hk da db sa sb L3 lo g3 (fun r c st5 hr=>.inl ⟨r,c,rfl,hr⟩) fun o6 i j mg6 ac6 bc6 st6 g6 L6 hs6=>⟨.inr ⟨_,_,_,_,_,_,rfl,L6,by omega,g6⟩,⟨_,_,_,_,_,_,rfl,L6,by omega,g6⟩⟩
     refine wpS_mono (m:=ghT a b (none,ka,kb,o',mg',ac',bc')) ?_ (fun r st' hr=>?_) (Q:=fun r st'=>match r with | .done c'=>(∃ r c'',c'=(some r,c'')/\LoT rk a b st r st')\/∃ o' ia ib mg ac bc,c'=(none,ia,ib,o',mg,ac,bc)/\Hi rk a b o' ia ib/\o.size<=o'.size/\Gal st st' | .yield c'=>∃ o' ia ib mg ac bc,c'=(none,ia,ib,o',mg,ac,bc)/\Hi rk a b o' ia ib/\o.size+(y+1)<=o'.size/\Gal st st')
     ·unfold ghT;split
      ·exact one _
      ·exact one _
     ·cases r with
      | done c'=>exact hr
      | yield c'=>exact hr
    ·rintro c st3 ⟨o',ka,kb,mg',ac',bc',rfl,L3,hs3,g3⟩;have:=tot L3;omega
    ·rintro c st3 (⟨r,c',rfl,hr⟩ | ⟨o',ka,kb,mg',ac',bc',rfl,L3,hs3,g3⟩)
     ·exact wpS_pure ⟨r,_,rfl,hr⟩
     ·refine wpS_bind (qFl fun st4 g4=>?_);exact wpS_pure ⟨_,_,_,_,rfl,L3,by show _<=o'.size;omega,g3.trans g4⟩
 ·rintro c st1 ⟨out,ia,ib,mg,rfl,L,hs,g⟩;have:=tot L;omega
 ·rintro c st1 ⟨r,c',rfl,hr⟩;exact wpS_pure (h _ _ hr.1 hr.2)
end
end L2
namespace L2
open PySem PySem.Spec PyProof.Rows
noncomputable def wrA (m:Array Keyed) (s:Nat) (a:Array Keyed):Array Keyed:=m.toList.zipIdx.foldl (fun a (p,j)=>a.setIfInBounds (s+j) p) a
theorem mergeAt'_eq (i:Nat):mergeAt' i=(do
 let s ← get
 let (some (sa,na,power),some (sb,nb,_)):=((pendingOf s)[i]?,(pendingOf s)[i+1]?) | unsupported "internal:list.sort.pending"
 set (setPending s (((pendingOf s).setIfInBounds i (sa,na+nb,power)).eraseIdxIfInBounds (i+1)))
 let some k ← gallop' false (← elem' (arrOf s) sb) (arrOf s) sa na 0 | return false
 let (sa,na):=(sa+k,na - k)
 if na == 0 then return true
 let some nb ← gallop' true (← elem' (arrOf s) (sa+na - 1)) (arrOf s) sb nb (nb - 1) | return false
 if nb == 0 then return true
 let x:=(arrOf s).extract sa sb
 let y:=(arrOf s).extract sb (sb+nb)
 let merged ← if na<=nb then mergeLo' x y else mergeHi' x y
 modify fun s=>setArr s (wrA merged sa (arrOf s))
 return (failedOf (← get)).isNone):=rfl
theorem wr_list (s:Nat):∀ (l:List Keyed) (k:Nat) (a:Array Keyed),s+k+l.length<=a.size->((l.zipIdx k).foldl (fun a (p,j)=>a.setIfInBounds (s+j) p) a).toList=a.toList.take (s+k)++(l++a.toList.drop (s+k+l.length))
 | [],k,a,h=>by simp
 | p :: l,k,a,h=>by
  rw[List.zipIdx_cons,List.foldl_cons];have hl:s+k+(l.length+1)<=a.size:=h;rw[wr_list s l (k+1) _ (by simp;omega)];have e:(a.setIfInBounds (s+k) p).toList=a.toList.set (s+k) p:=Array.toList_setIfInBounds ..;rw[e];have hs:s+k<a.toList.length:=by simp;omega
  have e1:(a.toList.set (s+k) p).take (s+(k+1))=a.toList.take (s+k)++[p]:=by
   rw[show s+(k+1)=s+k+1 by omega,List.take_succ_eq_append_getElem (by simpa using hs),List.take_set_of_le (hA5 _)];simp
  have e2:(a.toList.set (s+k) p).drop (s+(k+1)+l.length)=a.toList.drop (s+k+(p :: l).length):=by
   rw[List.drop_set_of_lt (by omega)];congr 1;simp;omega
  rw[e1,e2];simp
theorem wr_app (e:a.toList=P++(X++S)) (hm:m.toList=M) (hl:M.length=X.length):(wrA m P.length a).toList=P++(M++S):=by
 subst hm;have sz:a.size=P.length+(X.length+S.length):=by
  rw[<-hC1,e];simp
 unfold wrA;rw[wr_list P.length m.toList 0 a (by omega),e,Nat.add_zero,hDd,hl]
 ·congr 2;rw[<-hBj,hDe];simp
 ·rfl
section
variable {prog:Program} {w:World} {A:Around} {E:Value->Shared->Prop} {s:Shared} {rk:Keyed->Int} {kd:SortKind} {D:Keyed->Prop}
theorem wpS_set {σ:Type} {M:Model} {st st':σ} {Q:PUnit->σ->Prop} (h:Q ⟨⟩ st'):wpS M A E s (set st':StateT σ Sem PUnit) Q st:=by
 unfold wpS;rw[StateT.run_set];exact wpAny_pure ⟨rfl,h⟩
theorem at_app {a:Array Keyed} {P S:List Keyed} {x:Keyed} (e:a.toList=P++x :: S):a[P.length]?=some x:=by
 rw[<-hBa,e,hC6 (hA5 _)];simp
theorem wpS_mergeAt (ak:qGw prog w A E s rk kd D) {i:Nat} {st:SortSt} {Q:Bool->SortSt->Prop} {P X Y S:List Keyed} {pw q:Nat} (hk:kindOf st=kd) (hf:failedOf st=none) (e:(arrOf st).toList=P++(X++(Y++S))) (d:∀ x∈(arrOf st).toList,D x)
  (p1:(pendingOf st)[i]?=some (P.length,X.length,pw)) (p2:(pendingOf st)[i+1]?=some (P.length+X.length,Y.length,q)) (sX:Srd rk X) (sY:Srd rk Y) (nX:X≠[]) (nY:Y≠[])
  (h:∀ st' M,kindOf st'=kd->failedOf st'=none->pendingOf st'=((pendingOf st).setIfInBounds i (P.length,X.length+Y.length,pw)).eraseIdxIfInBounds (i+1)->(arrOf st').toList=P++(M++S)->Dn rk (X++Y) M->Q true st'):wpS (model prog w) A E s (mergeAt' i) Q st:=by
 rw[mergeAt'_eq];refine wpS_bind (wpS_get ?_);rw[p1,p2];dsimp only;refine wpS_bind (wpS_set ?_);obtain⟨b0,Y',eY⟩:=List.exists_cons_of_ne_nil nY;have sb0:=qB7 (eY▸sY);rw[<-eY]at sb0;have eb:(arrOf st)[P.length+X.length]?=some b0:=by
  have:=at_app (a:=arrOf st) (P:=P++X) (x:=b0) (S:=Y'++S) (by rw[e,eY];simp)
  simpa using this
 have dX:∀ x∈X,D x:=fun x hx=>d x (by rw[e];simp[hx])
 have dY:∀ x∈Y,D x:=fun x hx=>d x (by rw[e];simp[hx])
 have mb:b0∈Y:=by rw[eY];exact hAe ..
 refine wpS_bind (qAx eb ?_);refine wpS_bind (qEu ak (l:=X) hk (dY _ mb) (by rw[e,hDe rfl,hDd rfl]) rfl dX sX (List.length_pos_iff.mpr nX) fun l1 l2 el q1 q2=>?_);have r1:∀ z∈l1,rk z<=rk b0:=fun z hz=>by simpa [gP] using q1 z hz
 have r2:∀ z∈l2,rk b0<rk z:=fun z hz=>by simpa [gP] using q2 z hz
 have lX:X.length=l1.length+l2.length:=by rw[el];simp
 have plain:(∀ x∈X,∀ y∈Y,rk x<=rk y)->Dn rk (X++Y) (X++Y):=fun c=>⟨hCo _,hB3.mpr ⟨sX,sY,c⟩⟩
 dsimp only;by_cases c:(X.length - l1.length == 0)=true
 ·rw[if_pos c];have c':X.length - l1.length=0:=eq_of_beq c;have n2:l2=[]:=hBh.mp (by omega);rw[n2,hBe]at el;exact wpS_pure (h _ (X++Y) hk hf rfl (by rw[hBj];exact e) (plain fun x hx y hy=>Int.le_trans (r1 x (el▸hx)) (sb0 y hy)))
 ·rw[if_neg c];have c':X.length - l1.length≠0:=fun z=>c (by rw[z];rfl)
  obtain⟨l3,z,e3⟩:∃ l3 z,l2=l3++[z]:=by
   rcases List.eq_nil_or_concat l2 with z | ⟨l3,z,hz⟩
   ·rw[z]at lX;simp at lX;omega
   ·exact⟨l3,z,by simpa using hz⟩
  have ez:(arrOf st)[P.length+l1.length+(X.length - l1.length) - 1]?=some z:=by
   have:=at_app (a:=arrOf st) (P:=P++l1++l3) (x:=z) (S:=Y++S) (by rw[e,el,e3];simp);rw[<-this];congr 1;have:l2.length=l3.length+1:=by rw[e3];simp
   simp;omega
  have mz:z∈X:=by rw[el,e3];simp
  have topz:∀ x∈X,rk x<=rk z:=fun x hx=>by
   have e4:X=(l1++l3)++[z]:=by rw[el,e3];simp
   rw[e4]at hx sX;rcases hAb.mp hx with hx | hx
   ·exact(hB3.mp sX).2.2 x hx z (hA4.mpr rfl)
   ·rw[hA4.mp hx];exact hD5 _
  refine wpS_bind (qAx ez ?_);refine wpS_bind (qEu ak (l:=Y) hk (dX _ mz) (by rw[e,<-hBj,hDe (by simp),hDd rfl]) rfl dY sY (by have:=List.length_pos_iff.mpr nY;omega) fun m1 m2 em t1 t2=>?_);have u1:∀ y∈m1,rk y<rk z:=fun y hy=>by simpa [gP] using t1 y hy
  have u2:∀ y∈m2,rk z<=rk y:=fun y hy=>by
   have:=t2 y hy;simp[gP]at this;exact this
  dsimp only;by_cases f:(m1.length == 0)=true
  ·rw[if_pos f];have n1:m1=[]:=hBh.mp (eq_of_beq f);rw[n1,List.nil_append]at em;exact wpS_pure (h _ (X++Y) hk hf rfl (by rw[hBj];exact e) (plain fun x hx y hy=>Int.le_trans (topz x hx) (u2 y (em▸hy))))
  ·rw[if_neg f];have f':m1.length≠0:=fun z=>f (by rw[z];rfl)
   have ex:((arrOf st).extract (P.length+l1.length) (P.length+X.length)).toList=l2:=by
    rw[qDn,e,el,show P++((l1++l2)++(Y++S))=(P++l1)++(l2++(Y++S)) by simp,hDe (by simp),hDd (by simp;omega)]
   have ey:((arrOf st).extract (P.length+X.length) (P.length+X.length+m1.length)).toList=m1:=by
    rw[qDn,e,em,show P++(X++((m1++m2)++S))=(P++X)++(m1++(m2++S)) by simp,hDe (by simp),hDd (by omega)]
   have sx:((arrOf st).extract (P.length+l1.length) (P.length+X.length)).size=l2.length:=by rw[<-hC1,ex]
   have sy:((arrOf st).extract (P.length+X.length) (P.length+X.length+m1.length)).size=m1.length:=by rw[<-hC1,ey]
   have s2:Srd rk l2:=(hB3.mp (el▸sX)).2.1;have t2':Srd rk m1:=(hB3.mp (em▸sY)).1;have i1:∀ x∈l2,x∈X:=fun x hx=>by rw[el];exact hA8 _ hx
   have i2:∀ x∈m1,x∈Y:=fun x hx=>by rw[em];exact hAg _ hx
   have lo:∀ y∈m1.take 1,∀ x∈l2,rk y<=rk x:=fun y hy x hx=>by
    have:y=b0:=by
     cases m1 with
     | nil=>cases hy
     | cons v m1 =>
      rw[eY]at em;injection em with e5 _
      rw[e5]
      simpa using hy
    rw[this];exact hDh (r2 x hx)
   have hi:∀ x∈l2.drop (l2.length - 1),∀ y∈m1,rk y<=rk x:=fun x hx y hy=>by
    have:x=z:=by
     rw[e3]at hx
     simpa using hx
    rw[this];exact hDh (u1 y hy)
   have post:∀ (r:Array Keyed) (st':SortSt),Gal (setPending st (((pendingOf st).setIfInBounds i (P.length,X.length+Y.length,pw)).eraseIdxIfInBounds (i+1))) st'->Dn rk (l2++m1) r.toList->wpS (model prog w) A E s (do modify fun s=>setArr s (wrA r (P.length+l1.length) (arrOf s));return (failedOf (← get)).isNone) Q st':=fun r st' g dn=>by
    refine wpS_bind (wpS_modify ?_);refine wpS_bind (wpS_get ?_);have ef:failedOf st'=none:=g.2.2.2.trans hf;have ea:(arrOf st').toList=(P++l1)++((l2++m1)++(m2++S)):=by
     rw[g.2.1];show(arrOf st).toList=_;rw[e,el,em];simp
    have ew:=wr_app (m:=r) ea rfl dn.1.length_eq;rw[hA7]at ew;have fin:=h (setArr st' (wrA r (P.length+l1.length) (arrOf st'))) (l1++(r.toList++m2)) (g.1.trans hk) ef g.2.2.1 (by
     show(wrA r (P.length+l1.length) (arrOf st')).toList=_;rw[ew];simp) ?_
    ·have et:(failedOf (setArr st' (wrA r (P.length+l1.length) (arrOf st')))).isNone=true:=by
      show(failedOf st').isNone=true;rw[ef];rfl
     rw[et];exact wpS_pure fin
    ·refine⟨?_,?_⟩
     ·rw[el,em,hBj];refine hCz l1 ?_;rw[<-hBj];exact List.Perm.append_right m2 dn.1
     ·have mem:∀ x∈r.toList,x∈l2\/x∈m1:=fun x hx=>hAb.mp (dn.1.mem_iff.mp hx)
      have sp:=hB3.mp (el▸sX);have sq:=hB3.mp (em▸sY);have am:∀ y∈m2,y∈Y:=fun y hy=>by rw[em];exact hA8 _ hy
      refine hB3.mpr ⟨sp.1,hB3.mpr ⟨dn.2,sq.2.1,fun x hx y hy=>?_⟩,fun x hx y hy=>?_⟩
      ·rcases mem x hx with k | k
       ·exact Int.le_trans (topz x (i1 x k)) (u2 y hy)
       ·exact sq.2.2 x k y hy
      ·rcases hAb.mp hy with k | k
       ·rcases mem y k with k | k
        ·exact sp.2.2 x hx y k
        ·exact Int.le_trans (r1 x hx) (sb0 y (i2 y k))
       ·exact Int.le_trans (r1 x hx) (sb0 y (am y k))
   by_cases sm:X.length - l1.length<=m1.length
   ·rw[if_pos sm];refine wpS_bind (wpS_mergeLo ak hk (fun x hx=>dX x (i1 x (ex▸hx))) (fun x hx=>dY x (i2 x (ey▸hx))) (ex.symm▸s2) (ey.symm▸t2') (by omega) (by omega) (by rw[ex,ey];exact lo) (by rw[ex,ey,sx];exact hi) fun r st' g dn=>?_);rw[ex,ey]at dn;exact post r st' g dn
   ·rw[if_neg sm];refine wpS_bind (wpS_mergeHi ak hk (fun x hx=>dX x (i1 x (ex▸hx))) (fun x hx=>dY x (i2 x (ey▸hx))) (ex.symm▸s2) (ey.symm▸t2') (by omega) (by omega) (by rw[ex,ey];exact lo) (by rw[ex,ey,sx];exact hi) fun r st' g dn=>?_);rw[ex,ey]at dn;exact post r st' g dn
end
end L2
namespace L2
open PySem PySem.Spec PyProof.Rows
noncomputable def kr (rk:Keyed->Int) (xs:Array Keyed) (i:Nat):Int:=match xs[i]? with
 | some p=>rk p
 | none=>0
theorem kr_congr (h:xs[i]?=ys[j]?):kr rk xs i=kr rk ys j:=by unfold kr;rw[h]
theorem kr_rev (hj:j<=xs.size) (k:Nat):kr rk (mirror xs i j ((j - i) / 2)) k=if i<=k/\k<j then kr rk xs (i+j - 1 - k) else kr rk xs k:=by
 have e:=getElem?_mirror_all (i:=i) hj k;split
 ·rename_i h;rw[if_pos h]at e;exact kr_congr e
 ·rename_i h;rw[if_neg h]at e;exact kr_congr e
theorem kr_bub (hs:src<xs.size) (hd:d<=src) (k:Nat):kr rk (bubble xs src d) k=if k=src - d then kr rk xs src else if src - d<k/\k<=src then kr rk xs (k - 1) else kr rk xs k:=by
 have e:=getElem?_bubble hs d hd k;split
 ·rename_i h;rw[if_pos h]at e;exact kr_congr e
 ·rename_i h;rw[if_neg h]at e;split
  ·rename_i h;rw[if_pos h]at e;exact kr_congr e
  ·rename_i h;rw[if_neg h]at e;exact kr_congr e
def Up (rk:Keyed->Int) (xs:Array Keyed) (lo n:Nat):Prop:=∀ i j,i<=j->j<n->kr rk xs (lo+i)<=kr rk xs (lo+j)
def Dw (rk:Keyed->Int) (xs:Array Keyed) (lo n:Nat):Prop:=∀ i j,i<=j->j<n->kr rk xs (lo+j)<=kr rk xs (lo+i)
structure Sf (a₀:Array Keyed) (lo:Nat) (kd:SortKind) (pd:Array (Nat×Nat×Nat)) (st:SortSt):Prop where
 perm:(arrOf st).Perm a₀
 kind:kindOf st=kd
 failed:failedOf st=none
 pend:pendingOf st=pd
 low:∀ i,i<lo->(arrOf st)[i]?=a₀[i]?
section
variable {prog:Program} {w:World} {A:Around} {E:Value->Shared->Prop} {s:Shared} {rk:Keyed->Int} {kd:SortKind} {D:Keyed->Prop} {a₀:Array Keyed} {lo:Nat} {pd:Array (Nat×Nat×Nat)}
theorem Sf.size {st:SortSt} (h:Sf a₀ lo kd pd st):(arrOf st).size=a₀.size:=h.perm.size_eq
theorem Sf.arr {st:SortSt} (h:Sf a₀ lo kd pd st) {xs:Array Keyed} (p:xs.Perm (arrOf st)) (l:∀ i,i<lo->xs[i]?=(arrOf st)[i]?):Sf a₀ lo kd pd (setArr st xs):=⟨p.trans h.perm,h.kind,h.failed,h.pend,fun i hi=>(l i hi).trans (h.low i hi)⟩
theorem Sf.rev {st:SortSt} (h:Sf a₀ lo kd pd st) {i j:Nat} (hi:lo<=i) (hj:j<=a₀.size):Sf a₀ lo kd pd (setArr st (mirror (arrOf st) i j ((j - i) / 2))):=h.arr (mirror_perm _ _ _ _) fun k hk=>by
 rw[getElem?_mirror_all (by rw[h.size];exact hj),if_neg (by omega)]
theorem qFv (ak:qGw prog w A E s rk kd D) (d:∀ x∈a₀.toList,D x) {st:SortSt} {i j:Nat} {Q:Option Bool->SortSt->Prop} (F:Sf a₀ lo kd pd st) (hi:i<a₀.size) (hj:j<a₀.size)
  (h:Q (some (decide (kr rk (arrOf st) i<kr rk (arrOf st) j))) st):wpS (model prog w) A E s (ltAt' i j) Q st:=by
 have get:∀ k,k<a₀.size->∃ p,(arrOf st)[k]?=some p/\D p:=fun k hk=>by
  have hk':k<(arrOf st).size:=by rw[F.size];exact hk
  exact⟨(arrOf st)[k],getElem?_pos _ k hk',d _ ((hBw.mp F.perm).mem_iff.mp (by simp))⟩
 obtain⟨p,e1,d1⟩:=get i hi;obtain⟨q,e2,d2⟩:=get j hj;rw[ltAt'_eq];refine wpS_bind (wpS_get ?_);refine wpS_bind (qAx e1 ?_);refine wpS_bind (qAx e2 ?_);refine ak p q d1 d2 st Q F.kind ?_;unfold kr at h;rw[e1,e2]at h;exact h
noncomputable def ascO (lo a nrem:Nat):StateT SortSt Sem AscSt :=
 forIn [a:nrem] ((none,a):AscSt) fun _ c=>do
  let some smaller ← ltAt' (lo+c.2) (lo+c.2 - 1) | pure (ForInStep.done (some none,c.2))
  if smaller then pure (ForInStep.done (none,c.2)) else pure (ForInStep.yield (none,c.2+1))
noncomputable def tailO (lo n0 nrem:Nat):StateT SortSt Sem (Option Nat):=do
 reverseSlice' lo (lo+n0)
 let mut n:=n0
 for _ in [n:nrem] do
  let some smaller ← ltAt' (lo+n) (lo+n - 1) | return none
  if smaller then break
  n:=n+1
 return some n
noncomputable def descO (lo n0 nrem:Nat):StateT SortSt Sem (Option Nat):=do
 rule "list.sort.descending-run"
 let mut n:=n0+1
 let mut neq:=0
 for _ in [n:nrem] do
  let some smaller ← ltAt' (lo+n) (lo+n - 1) | return none
  if smaller then
   if neq > 0 then reverseSlice' (lo+n - (neq+1)) (lo+n)
   neq:=0
  else
   let some larger ← ltAt' (lo+n - 1) (lo+n) | return none
   if larger then break
   neq:=neq+1
  n:=n+1
 if neq > 0 then reverseSlice' (lo+n - (neq+1)) (lo+n)
 reverseSlice' lo (lo+n)
 for _ in [n:nrem] do
  let some smaller ← ltAt' (lo+n) (lo+n - 1) | return none
  if smaller then break
  n:=n+1
 return some n
theorem wp_ascO (ak:qGw prog w A E s rk kd D) (d:∀ x∈a₀.toList,D x) {st:SortSt} {a nrem:Nat} {Q:AscSt->SortSt->Prop} (hn:lo+nrem<=a₀.size) (ha:1<=a) (han:a<=nrem) (F:Sf a₀ lo kd pd st) (u:Up rk (arrOf st) lo a)
  (h:∀ n,a<=n->n<=nrem->Up rk (arrOf st) lo n->(n=nrem\/kr rk (arrOf st) (lo+n)<kr rk (arrOf st) (lo+(n - 1)))->Q (none,n) st):wpS (model prog w) A E s (ascO lo a nrem) Q st:=by
 unfold ascO;refine wpS_forRange (I:=fun x c st'=>st'=st/\c=(none,x)/\Up rk (arrOf st) lo x) ?step ?fin ⟨rfl,rfl,u⟩
 case fin =>
  rintro c st' ⟨rfl,rfl,u'⟩;rw[show max a nrem=nrem by omega]at u' ⊢;exact h nrem han (hA5 _) u' (.inl rfl)
 case step =>
  rintro x c st' hax hxn ⟨rfl,rfl,u'⟩;refine wpS_bind (qFv ak d F (by show lo+x<_;omega) (by show lo+x - 1<_;omega) ?_);dsimp only;rw[show lo+x - 1=lo+(x - 1) by omega];by_cases c:kr rk (arrOf st') (lo+x)<kr rk (arrOf st') (lo+(x - 1))
  ·rw[decide_eq_true c];exact wpS_pure (h x hax (by omega) u' (.inr c))
  ·rw[decide_eq_false c];refine wpS_pure ⟨rfl,rfl,fun i j hij hj=>?_⟩;by_cases e:j<x
   ·exact u' i j hij e
   ·have e':j=x:=by omega
    subst e';by_cases e2:i=j
    ·subst e2;exact hD5 _
    ·have:=u' i (j - 1) (by omega) (by omega);omega
theorem wp_tailO (ak:qGw prog w A E s rk kd D) (d:∀ x∈a₀.toList,D x) {st:SortSt} {n nrem:Nat} {Q:Option Nat->SortSt->Prop} (hn:lo+nrem<=a₀.size) (h1:1<=n) (hnn:n<=nrem) (F:Sf a₀ lo kd pd st) (u:Dw rk (arrOf st) lo n)
  (h:∀ m st',Sf a₀ lo kd pd st'->1<=m->m<=nrem->Up rk (arrOf st') lo m->Q (some m) st'):wpS (model prog w) A E s (tailO lo n nrem) Q st:=by
 unfold tailO;have sz:=F.size;refine wpS_bind (wpS_reverse ?_);have F':=F.rev (i:=lo) (j:=lo+n) (hA5 _) (by omega);refine wpS_bind (wpS_mono (m:=ascO lo n nrem) (wp_ascO ak d (Q:=fun c st'=>∃ m,c=(none,m)/\Sf a₀ lo kd pd st'/\1<=m/\m<=nrem/\Up rk (arrOf st') lo m) hn h1 hnn F' (fun i j hij hj=>?_) fun m hm1 hm2 hu _=>⟨m,rfl,F',by omega,hm2,hu⟩) ?_)
 ·show kr rk (mirror (arrOf st) lo (lo+n) ((lo+n - lo) / 2)) _<=kr rk (mirror (arrOf st) lo (lo+n) ((lo+n - lo) / 2)) _;rw[kr_rev (by omega),kr_rev (by omega),if_pos (by omega),if_pos (by omega)];have:=u (n - 1 - j) (n - 1 - i) (by omega) (by omega);rw[show lo+(lo+n) - 1 - (lo+i)=lo+(n - 1 - i) by omega,show lo+(lo+n) - 1 - (lo+j)=lo+(n - 1 - j) by omega];exact this
 ·rintro c st' ⟨m,rfl,F2,a1,a2,a3⟩;exact wpS_pure (h m st' F2 a1 a2 a3)
theorem dw_snoc (u:Dw rk xs lo n) (h1:1<=n) (h:kr rk xs (lo+n)<=kr rk xs (lo+(n - 1))):Dw rk xs lo (n+1):=fun i j hij hj=>by
 by_cases e:j<n
 ·exact u i j hij e
 ·have e':j=n:=by omega
  subst e';by_cases e2:i=j
  ·subst e2;exact hD5 _
  ·have:=u i (j - 1) (by omega) (by omega);omega
theorem qGk (hj:j<=xs.size) (h:∀ k,i<=k->k<j->kr rk xs k=kr rk xs (j - 1)) (k:Nat):kr rk (mirror xs i j ((j - i) / 2)) k=kr rk xs k:=by
 rw[kr_rev hj];split
 ·rw[h _ (by omega) (by omega),h k (by omega) (by omega)]
 ·rfl
theorem wp_descO (ak:qGw prog w A E s rk kd D) (d:∀ x∈a₀.toList,D x) {st:SortSt} {n nrem:Nat} {Q:Option Nat->SortSt->Prop} (hn:lo+nrem<=a₀.size) (hnn:n+1<=nrem) (F:Sf a₀ lo kd pd st) (u:Dw rk (arrOf st) lo (n+1))
  (h:∀ m st',Sf a₀ lo kd pd st'->1<=m->m<=nrem->Up rk (arrOf st') lo m->Q (some m) st'):wpS (model prog w) A E s (descO lo n nrem) Q st:=by
 unfold descO;refine wpS_bind (wpS_lift (wpAny_rule ⟨rfl,?_⟩));refine wpS_bind (wpS_mono (wpS_forRange (I:=fun x c st'=>∃ neq,c=(none,x,neq)/\Sf a₀ lo kd pd st'/\1<=x/\x<=nrem/\Dw rk (arrOf st') lo x/\neq+1<=x/\∀ k,lo+x - (neq+1)<=k->k<lo+x->kr rk (arrOf st') k=kr rk (arrOf st') (lo+x - 1))
  (Q:=fun c st'=>∃ x neq,c=(none,x,neq)/\Sf a₀ lo kd pd st'/\1<=x/\x<=nrem/\Dw rk (arrOf st') lo x/\neq+1<=x/\∀ k,lo+x - (neq+1)<=k->k<lo+x->kr rk (arrOf st') k=kr rk (arrOf st') (lo+x - 1)) ?_ ?_ ⟨0,rfl,F,by omega,hnn,u,by omega,fun k k1 k2=>by congr 1;omega⟩) ?_)
 ·rintro x c st' hx1 hx2 ⟨neq,rfl,F',x1,xn,u',q1,q2⟩;have sz:=F'.size;refine wpS_bind (qFv ak d F' (by show lo+x<_;omega) (by show lo+x - 1<_;omega) ?_);dsimp only;have ex:lo+x - 1=lo+(x - 1):=by omega
  by_cases c:kr rk (arrOf st') (lo+x)<kr rk (arrOf st') (lo+x - 1)
  ·rw[decide_eq_true c];have u2:∀ ys:Array Keyed,(∀ k,kr rk ys k=kr rk (arrOf st') k)->Dw rk ys lo (x+1):=fun ys hy i j hij hj=>by
    rw[hy,hy];exact dw_snoc u' x1 (by rw[<-ex];omega) i j hij hj
   show wpS _ _ _ _ (if neq > 0 then _ else _) _ _;by_cases n0:neq > 0
   ·rw[if_pos n0];refine wpS_bind (wpS_reverse (wpS_pure ⟨0,rfl,F'.rev (by omega) (by omega),by omega,by omega,u2 _ (qGk (by omega) q2),by omega,fun k k1 k2=>by congr 1;omega⟩))
   ·rw[if_neg n0];exact wpS_pure ⟨0,rfl,F',by omega,by omega,u2 _ (fun _=>rfl),by omega,fun k k1 k2=>by congr 1;omega⟩
  ·rw[decide_eq_false c];refine wpS_bind (qFv ak d F' (by show lo+x - 1<_;omega) (by show lo+x<_;omega) ?_);dsimp only;by_cases c2:kr rk (arrOf st') (lo+x - 1)<kr rk (arrOf st') (lo+x)
   ·rw[decide_eq_true c2];exact wpS_pure ⟨x,neq,rfl,F',x1,xn,u',q1,q2⟩
   ·rw[decide_eq_false c2];have e:kr rk (arrOf st') (lo+x)=kr rk (arrOf st') (lo+x - 1):=by omega
    refine wpS_pure ⟨neq+1,rfl,F',by omega,by omega,dw_snoc u' x1 (by rw[<-ex];omega),by omega,fun k k1 k2=>?_⟩;rw[show lo+(x+1) - 1=lo+x by omega];by_cases ek:k=lo+x
    ·subst ek;rfl
    ·rw[e];exact q2 k (by omega) (by omega)
 ·rintro c st' ⟨neq,rfl,F',x1,xn,u',q1,q2⟩;exact⟨_,neq,rfl,F',x1,xn,u',q1,q2⟩
 ·rintro c st' ⟨x,neq,rfl,F',x1,xn,u',q1,q2⟩;have sz:=F'.size;show wpS _ _ _ _ (if neq > 0 then _ else _) _ _;by_cases n0:neq > 0
  ·rw[if_pos n0];refine wpS_bind (wpS_reverse ?_);refine wpS_mono (m:=tailO lo x nrem) (wp_tailO ak d hn x1 xn (F'.rev (i:=lo+x - (neq+1)) (j:=lo+x) (by omega) (by omega)) (fun i j hij hj=>?_) h) fun _ _ q=>q
   show kr rk (mirror (arrOf st') _ _ _) _<=kr rk (mirror (arrOf st') _ _ _) _;rw[qGk (i:=lo+x - (neq+1)) (j:=lo+x) (by omega) q2,qGk (i:=lo+x - (neq+1)) (j:=lo+x) (by omega) q2];exact u' i j hij hj
  ·rw[if_neg n0];exact wpS_mono (m:=tailO lo x nrem) (wp_tailO ak d hn x1 xn F' u' h) fun _ _ q=>q
theorem wp_count (ak:qGw prog w A E s rk kd D) (d:∀ x∈a₀.toList,D x) {st:SortSt} {nrem:Nat} {Q:Option Nat->SortSt->Prop} (hn:lo+nrem<=a₀.size) (h1:1<=nrem) (F:Sf a₀ lo kd pd st)
  (h:∀ m st',Sf a₀ lo kd pd st'->1<=m->m<=nrem->Up rk (arrOf st') lo m->Q (some m) st'):wpS (model prog w) A E s (countRun' lo nrem) Q st:=by
 rw[countRun'_eq];have sz:=F.size;refine wpS_bind (wpS_mono (m:=ascO lo 1 nrem) (wp_ascO ak d (Q:=fun c st'=>st'=st/\∃ n,c=(none,n)/\1<=n/\n<=nrem/\Up rk (arrOf st) lo n/\(n=nrem\/kr rk (arrOf st) (lo+n)<kr rk (arrOf st) (lo+(n - 1)))) hn (hA5 _) h1 F (fun i j hij hj=>?_) fun n a1 a2 a3 a4=>⟨rfl,n,rfl,a1,a2,a3,a4⟩) ?_)
 ·have:i=j:=by omega
  subst this;exact hD5 _
 rintro c st' ⟨rfl,n,rfl,n1,n2,u,hor⟩;show wpS _ _ _ _ (if (n == nrem)=true then _ else _) _ _;by_cases e:(n == nrem)=true
 ·rw[if_pos e];exact wpS_pure (h n _ F n1 n2 u)
 ·rw[if_neg e];have e':n≠nrem:=by simpa using e
  have lt:=hor.resolve_left e';by_cases g:n > 1
  ·show wpS _ _ _ _ (if n > 1 then _ else _) _ _;rw[if_pos g];refine wpS_bind (qFv ak d F (by omega) (by omega) ?_);have ex:lo+n - 1=lo+(n - 1):=by omega
   by_cases c:kr rk (arrOf st') lo<kr rk (arrOf st') (lo+n - 1)
   ·rw[decide_eq_true c];exact wpS_pure (h n _ F n1 n2 u)
   ·rw[decide_eq_false c];have all:∀ k,lo<=k->k<lo+n->kr rk (arrOf st') k=kr rk (arrOf st') (lo+n - 1):=fun k k1 k2=>by
     have a1:=u 0 (k - lo) (by omega) (by omega);have a2:=u (k - lo) (n - 1) (by omega) (by omega);rw[show lo+(k - lo)=k by omega]at a1 a2;rw[Nat.add_zero]at a1;rw[ex]at c ⊢;omega
    refine wpS_bind (wpS_reverse ?_);refine wpS_mono (m:=descO lo n nrem) (wp_descO ak d hn (by omega) (F.rev (hA5 _) (by omega)) (fun i j hij hj=>?_) h) fun _ _ q=>q
    show kr rk (mirror (arrOf st') _ _ _) _<=kr rk (mirror (arrOf st') _ _ _) _;rw[qGk (i:=lo) (j:=lo+n) (by omega) all,qGk (i:=lo) (j:=lo+n) (by omega) all];by_cases ej:j<n
    ·rw[all (lo+i) (by omega) (by omega),all (lo+j) (by omega) (by omega)];exact hD5 _
    ·have ej':j=n:=by omega
     subst ej';by_cases ei:i=j
     ·subst ei;exact hD5 _
     ·rw[all (lo+i) (by omega) (by omega),ex];omega
  ·show wpS _ _ _ _ (if n > 1 then _ else _) _ _;rw[if_neg g];have e1:n=1:=by omega
   subst e1;refine wpS_mono (m:=descO lo 1 nrem) (wp_descO ak d hn (by omega) F (fun i j hij hj=>?_) h) fun _ _ q=>q
   by_cases ei:i=j
   ·subst ei;exact hD5 _
   ·have ei':i=0:=by omega
    have ej':j=1:=by omega
    subst ei' ej';exact hDh lt
theorem wp_bins (ak:qGw prog w A E s rk kd D) (d:∀ x∈a₀.toList,D x) {st:SortSt} {n ok:Nat} {Q:Bool->SortSt->Prop} (hn:lo+n<=a₀.size) (hok:ok<=n) (F:Sf a₀ lo kd pd st) (u:Up rk (arrOf st) lo ok)
  (h:∀ st',Sf a₀ lo kd pd st'->Up rk (arrOf st') lo n->Q true st'):wpS (model prog w) A E s (binarySort' lo n ok) Q st:=by
 rw[binarySort'_eq];refine wpS_bind (wpS_mono (wpS_forRange (I:=fun k c st'=>c=(none,())/\Sf a₀ lo kd pd st'/\Up rk (arrOf st') lo (min k n))
  (Q:=fun c st'=>c=(none,())/\Sf a₀ lo kd pd st'/\Up rk (arrOf st') lo n) ?_ ?_ ⟨rfl,F,fun i j hij hj=>?_⟩) ?_)
 ·rintro k c st' hak hkn ⟨rfl,F',u'⟩;rw[show min k n=k by omega]at u';have sz:=F'.size;refine wpS_bind (wpS_mono (wpS_forRange (I:=fun x c st''=>st''=st'/\∃ l r,c=(none,l,r)/\l<=r/\r<=k/\r - l<=k - x/\(∀ i,i<l->kr rk (arrOf st') (lo+i)<=kr rk (arrOf st') (lo+k))/\(∀ i,r<=i->i<k->kr rk (arrOf st') (lo+k)<kr rk (arrOf st') (lo+i)))
   (Q:=fun c st''=>st''=st'/\∃ l r,c=(none,l,r)/\l<=k/\(∀ i,i<l->kr rk (arrOf st') (lo+i)<=kr rk (arrOf st') (lo+k))/\(∀ i,l<=i->i<k->kr rk (arrOf st') (lo+k)<kr rk (arrOf st') (lo+i))) ?_ ?_ ⟨rfl,0,k,rfl,by omega,by omega,by omega,fun i hi=>by omega,fun i h1 h2=>by omega⟩) ?_)
  ·rintro x c st2 _ hx ⟨rfl,l,r,rfl,lr,rk',m,a1,a2⟩;show wpS _ _ _ _ (if l >= r then _ else _) _ _;by_cases g:l >= r
   ·rw[if_pos g];have:l=r:=by omega
    subst this;exact wpS_pure ⟨rfl,l,l,rfl,rk',a1,a2⟩
   ·rw[if_neg g];refine wpS_bind (qFv ak d F' (by omega) (by show lo+(l+r) / 2<_;omega) ?_);dsimp only;by_cases c:kr rk (arrOf st2) (lo+k)<kr rk (arrOf st2) (lo+(l+r) / 2)
    ·rw[decide_eq_true c];refine wpS_pure ⟨rfl,l,(l+r) / 2,rfl,by omega,by omega,by omega,a1,fun i h1 h2=>?_⟩;exact Int.lt_of_lt_of_le c (u' _ _ h1 h2)
    ·rw[decide_eq_false c];refine wpS_pure ⟨rfl,(l+r) / 2+1,r,rfl,by omega,by omega,by omega,fun i h1=>?_,a2⟩;exact Int.le_trans (u' i ((l+r) / 2) (by omega) (by omega)) (Int.not_lt.mp c)
  ·rintro c st2 ⟨rfl,l,r,rfl,lr,rk',m,a1,a2⟩;have:l=r:=by omega
   subst this;exact⟨rfl,l,l,rfl,rk',a1,a2⟩
  ·rintro c st2 ⟨rfl,l,r,rfl,lk,a1,a2⟩;show wpS _ _ _ _ (do moveDown' (lo+k) (lo+l);pure (ForInStep.yield (none,()))) _ _;rw[moveDown'_eq];have ed:lo+k - (lo+l)=k - l:=by omega
   refine wpS_bind (wpS_modify (wpS_pure ⟨rfl,F'.arr (bubble_perm _ _ _) fun i hi=>?_,fun i j hij hj=>?_⟩))
   ·rw[getElem?_bubble (by omega) _ (by omega),if_neg (by omega),if_neg (by omega)]
   ·rw[show min (k+1) n=k+1 by omega]at hj;show kr rk (bubble (arrOf st2) (lo+k) (lo+k - (lo+l))) _<=kr rk (bubble (arrOf st2) (lo+k) (lo+k - (lo+l))) _;rw[kr_bub (by omega) (by omega),kr_bub (by omega) (by omega),ed,show lo+k - (k - l)=lo+l by omega];have p1:∀ z,z<k+1->lo+z - 1=lo+(z - 1)\/z=0:=fun z hz=>by omega
    by_cases ej:j=l
    ·subst ej;rw[if_pos rfl];by_cases ei:i=j
     ·subst ei;rw[if_pos rfl];exact hD5 _
     ·rw[if_neg (by omega),if_neg (by omega)];exact a1 i (by omega)
    ·rw[if_neg (c:=lo+j=lo+l) (by omega)];by_cases ej2:l<j
     ·rw[if_pos (c:=lo+l<lo+j/\lo+j<=lo+k) (by omega),show lo+j - 1=lo+(j - 1) by omega];by_cases ei:i=l
      ·subst ei;rw[if_pos rfl];exact hDh (a2 _ (by omega) (by omega))
      ·rw[if_neg (c:=lo+i=lo+l) (by omega)];by_cases ei2:l<i
       ·rw[if_pos (by omega),show lo+i - 1=lo+(i - 1) by omega];exact u' _ _ (by omega) (by omega)
       ·rw[if_neg (by omega)];exact u' _ _ (by omega) (by omega)
     ·rw[if_neg (c:=lo+l<lo+j/\lo+j<=lo+k) (by omega),if_neg (by omega),if_neg (by omega)];exact u' _ _ (by omega) (by omega)
 ·rintro c st' ⟨hc,F',u'⟩;refine⟨hc,F',?_⟩
  rwa [show min (max (max ok 1) n) n=n by omega]at u'
 ·by_cases o0:ok=0
  ·have:i=j:=by omega
   subst this;exact hD5 _
  ·exact u i j hij (by omega)
 ·rintro c st' ⟨rfl,F',u'⟩;exact wpS_pure (h st' F' u')
end
end L2
namespace L2
open PySem PySem.Spec PyProof.Rows
noncomputable def offs:Nat->List (List Keyed)->List (Nat×Nat)
 | _,[]=>[]
 | k,R :: Rs=>(k,R.length) :: offs (k+R.length) Rs
theorem qFp:∀ (k:Nat) (U V:List (List Keyed)),offs k (U++V)=offs k U++offs (k+U.flatten.length) V
 | k,[],V=>by simp[offs]
 | k,R :: U,V=>by
  show(k,R.length) :: offs (k+R.length) (U++V)=(k,R.length) :: (offs (k+R.length) U++_);rw[qFp (k+R.length) U V];congr 3;simp;omega
theorem offs_len:∀ (k:Nat) (U:List (List Keyed)),(offs k U).length=U.length
 | _,[]=>rfl
 | k,R :: U=>by simp[offs,offs_len]
noncomputable def pr2 (t:Nat×Nat×Nat):Nat×Nat:=(t.1,t.2.1)
def RI (rk:Keyed->Int) (kd:SortKind) (a₀:Array Keyed) (rest:List Keyed) (m:Nat) (st:SortSt):Prop:=∃ Rs:List (List Keyed),(arrOf st).toList=Rs.flatten++rest/\(pendingOf st).toList.map pr2=offs 0 Rs/\(∀ R∈Rs,R≠[]/\Srd rk R)/\Rs.length=m/\kindOf st=kd/\failedOf st=none/\(arrOf st).toList.Perm a₀.toList
section
variable {prog:Program} {w:World} {A:Around} {E:Value->Shared->Prop} {s:Shared} {rk:Keyed->Int} {kd:SortKind} {D:Keyed->Prop} {a₀:Array Keyed} {rest:List Keyed}
theorem RI.psize {m:Nat} {st:SortSt} (h:RI rk kd a₀ rest m st):(pendingOf st).size=m:=by
 obtain⟨Rs,_,e,_,rfl,_⟩:=h;have:=congrArg List.length e;rw[offs_len]at this
 simpa using this
theorem qEt (ak:qGw prog w A E s rk kd D) (d:∀ x∈a₀.toList,D x) {i m:Nat} {st:SortSt} {Q:Bool->SortSt->Prop} (h:RI rk kd a₀ rest m st) (hi:i+1<m) (hq:∀ st',RI rk kd a₀ rest (m - 1) st'->Q true st'):wpS (model prog w) A E s (mergeAt' i) Q st:=by
 obtain⟨Rs,e,ep,hR,rfl,hk,hf,hp⟩:=h;obtain⟨U,X,Y,V,rfl,hU⟩:∃ U X Y V,Rs=U++X :: Y :: V/\U.length=i:=by
  refine⟨Rs.take i,Rs[i],Rs[i+1],Rs.drop (i+2),?_,by simp;omega⟩;rw[<-hD1,<-hD1,List.take_append_drop]
 rw[qFp]at ep;obtain⟨pu,pt,ept,epu,e2⟩:=List.map_eq_append_iff.mp ep;obtain⟨p,pt2,rfl,ep1,e3⟩:=List.map_eq_cons_iff.mp e2;obtain⟨q,pv,rfl,eq1,e4⟩:=List.map_eq_cons_iff.mp e3;obtain⟨a,b,c⟩:=p;obtain⟨a',b',c'⟩:=q;injection ep1 with ea eb
 injection eq1 with ea' eb'
 have eb:b=X.length:=eb;have ea:a=0+U.flatten.length:=ea;have ea':a'=0+U.flatten.length+X.length:=ea';have eb':b'=Y.length:=eb';rw[Nat.zero_add]at ea ea';subst ea eb ea' eb';have lu:pu.length=i:=by
  have:=congrArg List.length epu;rw[offs_len]at this
  simpa [hU] using this
 have g1:(pendingOf st)[i]?=some (U.flatten.length,X.length,c):=by
  rw[<-hBa,ept,hC6 (by omega),lu,Nat.sub_self];rfl
 have g2:(pendingOf st)[i+1]?=some (U.flatten.length+X.length,Y.length,c'):=by
  rw[<-hBa,ept,hC6 (by omega),lu,show i+1 - i=1 by omega];rfl
 have hX:=hR X (by simp);have hY:=hR Y (by simp);refine wpS_mergeAt ak (P:=U.flatten) (X:=X) (Y:=Y) (S:=V.flatten++rest) hk hf (by rw[e];simp) (fun x hx=>d x (hp.mem_iff.mp hx)) g1 g2 hX.2 hY.2 hX.1 hY.1 fun st' M hk' hf' hp' ea' dn=>?_
 refine hq st' ⟨U++M :: V,by rw[ea'];simp,?_,fun R hR'=>?_,by simp,hk',hf',?_⟩
 ·rw[hp',Array.toList_eraseIdxIfInBounds,Array.toList_setIfInBounds,ept,qFp,List.set_append_right _ _ (by omega),lu,Nat.sub_self,List.eraseIdx_append_of_length_le (by omega),lu,show i+1 - i=1 by omega];rw[hA3,epu];congr 1;show(pr2 (U.flatten.length,X.length+Y.length,c)) :: pv.map pr2=(0+U.flatten.length,M.length) :: offs (0+U.flatten.length+M.length) V;have lm:M.length=X.length+Y.length:=by rw[dn.1.length_eq];simp
  rw[e4,lm];unfold pr2;rw[Nat.zero_add,Nat.add_assoc]
 ·rcases hAb.mp hR' with z | z
  ·exact hR R (by simp[z])
  ·rcases hAh.mp z with z | z
   ·subst z;refine⟨fun z=>hX.1 ?_,dn.2⟩;have:=dn.1.length_eq;rw[z]at this;simp at this;exact hBh.mp (by omega)
   ·exact hR R (by simp[z])
 ·rw[ea'];refine List.Perm.trans ?_ hp;rw[e];have:(U++X :: Y :: V).flatten++rest=U.flatten++((X++Y)++(V.flatten++rest)):=by simp
  rw[this];exact hCz _ (List.Perm.append_right _ dn.1)
theorem up_srd (e:xs.toList=P++T) (u:Up rk xs P.length n) (hn:n<=T.length):Srd rk (T.take n):=by
 refine List.pairwise_iff_getElem.mpr fun i j hi hj hij=>?_
 rw[hAi]at hi hj;have g:∀ k,(h:k<T.length)->kr rk xs (P.length+k)=rk T[k]:=fun k h=>by
  unfold kr;rw[<-hBa,e,hC6 (by omega),show P.length+k - P.length=k by omega,hA2 h]
 have:=u i j (by omega) (by omega);rw[g i (by omega),g j (by omega)]at this;rw[List.getElem_take,List.getElem_take];exact this
theorem RI.found {m n:Nat} {st st':SortSt} {pd:Array (Nat×Nat×Nat)} {lo:Nat} (h:RI rk kd a₀ rest m st) (hl:lo+rest.length=a₀.size) (F:Sf (arrOf st) lo kd (pendingOf st) st') (u:Up rk (arrOf st') lo n) (hn:n<=rest.length) :
  ∃ rest',RI rk kd a₀ rest' m st'/\rest'.length=rest.length/\Srd rk (rest'.take n):=by
 obtain⟨Rs,e,ep,hR,rfl,hk,hf,hp⟩:=h;have sz:(arrOf st).toList.length=a₀.size:=by rw[hp.length_eq];simp
 have lf:Rs.flatten.length=lo:=by rw[e]at sz;simp at sz ⊢;omega
 have et:(arrOf st').toList.take lo=Rs.flatten:=by
  refine hDu fun k=>?_
  by_cases c:k<lo
  ·rw[List.getElem?_take_of_lt c,hBa,F.low k c,<-hBa,e,List.getElem?_append_left (by omega)]
  ·rw[List.getElem?_take_eq_none (by omega),hCe (by omega)]
 have ed:(arrOf st').toList=Rs.flatten++(arrOf st').toList.drop lo:=by rw[<-et,List.take_append_drop]
 have pt:(arrOf st').toList.Perm (arrOf st).toList:=hBw.mp F.perm;have ld:((arrOf st').toList.drop lo).length=rest.length:=by
  have:=pt.length_eq;rw[hCa,this,sz];omega
 refine⟨(arrOf st').toList.drop lo,⟨Rs,ed,by rw[F.pend];exact ep,hR,rfl,F.kind,F.failed,pt.trans hp⟩,ld,?_⟩;exact up_srd (P:=Rs.flatten) ed (by rw[lf];exact u) (by rw[ld];exact hn)
theorem RI.pushed {m n:Nat} {st:SortSt} {lo:Nat} (h:RI rk kd a₀ rest m st) (hl:lo+rest.length=a₀.size) (sr:Srd rk (rest.take n)) (h1:1<=n) (hn:n<=rest.length):RI rk kd a₀ (rest.drop n) (m+1) (setPending st ((pendingOf st).push (lo,n,0))):=by
 obtain⟨Rs,e,ep,hR,rfl,hk,hf,hp⟩:=h;have sz:(arrOf st).toList.length=a₀.size:=by rw[hp.length_eq];simp
 have lf:Rs.flatten.length=lo:=by rw[e]at sz;simp at sz ⊢;omega
 refine⟨Rs++[rest.take n],?_,?_,fun R hR'=>?_,by simp,hk,hf,hp⟩
 ·show(arrOf st).toList=_;rw[e];simp
 ·show((pendingOf st).push (lo,n,0)).toList.map pr2=_;rw[hC4,hA3,ep,qFp,lf];simp[offs,pr2];try omega
 ·rcases hAb.mp hR' with z | z
  ·exact hR R z
  ·rw[hA4.mp z];refine⟨fun z=>?_,sr⟩;have:=congrArg List.length z;rw[hAi,List.length_nil]at this;omega
theorem RI.power {m pw:Nat} {st:SortSt} (h:RI rk kd a₀ rest m st):RI rk kd a₀ rest m (setPending st ((pendingOf st).modify ((pendingOf st).size - 1) fun (st,len,_)=>(st,len,pw))):=by
 obtain⟨Rs,e,ep,hR,rfl,hk,hf,hp⟩:=h;refine⟨Rs,e,?_,hR,rfl,hk,hf,hp⟩;rw[<-ep];show((pendingOf st).modify ((pendingOf st).size - 1) fun (st,len,_)=>(st,len,pw)).toList.map pr2=_;refine hDu fun k=>?_
 rw[hAs,hAs,hBa,hBa,Array.getElem?_modify];split
 ·rename_i z;cases(pendingOf st)[k]? with
  | none=>rfl
  | some t=>rfl
 ·rfl
theorem qHc:∀ (f n r:Nat),1<=n->1<=minRun' f n r
 | 0,n,r,h=>by show 1<=n+r;omega
 | f+1,n,r,h=>by
  rw[minRun'_succ];split
  ·omega
  ·exact qHc f _ _ (by omega)
theorem wp_sortRuns (ak:qGw prog w A E s rk kd D) (d:∀ x∈a₀.toList,D x) {st:SortSt} {Q:Unit->SortSt->Prop} (h0:arrOf st=a₀) (hk:kindOf st=kd) (hf:failedOf st=none) (hp:pendingOf st=#[])
  (h:∀ st',failedOf st'=none->Dn rk a₀.toList (arrOf st').toList->Q () st'):wpS (model prog w) A E s sortRuns' Q st:=by
 rw[sortRuns'_eq];refine wpS_bind (wpS_get ?_);rw[h0];have I0:RI rk kd a₀ a₀.toList 0 st:=⟨[],by rw[h0];rfl,by rw[hp];rfl,fun R hR=>(by cases hR),rfl,hk,hf,by rw[h0]⟩;refine wpS_bind (wpS_mono (wpS_forRange (I:=fun x c st'=>∃ rest m lo,c=(none,lo)/\RI rk kd a₀ rest m st'/\lo+rest.length=a₀.size/\x<=lo)
  (Q:=fun c st'=>∃ m lo,c=(none,lo)/\RI rk kd a₀ [] m st') ?_ ?_ ⟨_,0,0,rfl,I0,by simp,hA5 _⟩) ?_)
 ·rintro x c st' _ hx ⟨rest,m,lo,rfl,R,hl,hxl⟩;by_cases g:lo >= a₀.size
  ·show wpS _ _ _ _ (if lo >= a₀.size then _ else _) _ _;rw[if_pos g];have:rest=[]:=hBh.mp (by omega);subst this;exact wpS_pure ⟨m,lo,rfl,R⟩
  ·show wpS _ _ _ _ (if lo >= a₀.size then _ else _) _ _;rw[if_neg g];obtain⟨Rs,eR,ep,hR,eM,hk',hf',hp'⟩:=R;have R:RI rk kd a₀ rest m st':=⟨Rs,eR,ep,hR,eM,hk',hf',hp'⟩;have sz:(arrOf st').size=a₀.size:=by
    have:=hp'.length_eq
    simpa using this
   have F:Sf (arrOf st') lo kd (pendingOf st') st':=⟨Array.Perm.refl _,hk',hf',rfl,fun _ _=>rfl⟩;refine wpS_bind (wp_count ak (fun x hx=>d x (hp'.mem_iff.mp hx)) (lo:=lo) (nrem:=a₀.size - lo) (by omega) (by omega) F fun n st2 F2 n1 n2 u2=>?_);have mp:=qHc a₀.size a₀.size 0 (by omega);have key:∀ (n:Nat) (st2:SortSt),Sf (arrOf st') lo kd (pendingOf st') st2->Up rk (arrOf st2) lo n->1<=n->n<=rest.length->∃ rest',RI rk kd a₀ rest' m st2/\rest'.length=rest.length/\Srd rk (rest'.take n)/\1<=n/\n<=rest'.length:=fun n st2 F2 u2 h1 hn=>by
    obtain⟨rest',R2,l2,s2⟩:=R.found (pd:=#[]) hl F2 u2 hn;exact⟨rest',R2,l2,s2,h1,by omega⟩
   by_cases c:n<minRun' a₀.size a₀.size 0
   ·show wpS _ _ _ _ (if n<minRun' a₀.size a₀.size 0 then _ else _) _ _;rw[if_pos c];refine wpS_bind (wpS_lift (wpAny_rule ⟨rfl,?_⟩));refine wpS_bind (wp_bins ak (fun x hx=>d x (hp'.mem_iff.mp hx)) (lo:=lo) (n:=min (a₀.size - lo) (minRun' a₀.size a₀.size 0)) (by omega) (by omega) F2 u2 fun st3 F3 u3=>?_);rw[if_neg (by decide)];obtain⟨rest',R2,l2,s2,b1,b2⟩:=key _ st3 F3 u3 (by omega) (by omega);dsimp only;generalize min (a₀.size - lo) (minRun' a₀.size a₀.size 0)=nn at s2 b1 b2 ⊢;refine wpS_bind (wpS_get ?_);have fin:∀ (m':Nat) (st4:SortSt),RI rk kd a₀ rest' m' st4->∃ rest m lo',((none,lo+nn):Option Unit×Nat)=(none,lo')/\RI rk kd a₀ rest m (setPending st4 ((pendingOf st4).push (lo,nn,0)))/\lo'+rest.length=a₀.size/\x+1<=lo':=fun m' st4 R4=>⟨_,_,_,rfl,RI.pushed R4 (by omega) s2 b1 b2,by rw[hCa];omega,by omega⟩
    generalize (pendingOf st3).back?=bk;rcases bk with _ | ⟨s1,n1,p3⟩
    ·refine wpS_bind (wpS_modify ?_);exact wpS_pure (fin _ _ R2)
    ·dsimp only;refine wpS_bind (wpS_mono (wpS_forRange (I:=fun _ c st'=>c=(none,())/\∃ m,RI rk kd a₀ rest' m st') (Q:=fun c st'=>c=(none,())/\∃ m,RI rk kd a₀ rest' m st') ?_ (fun _ _ z=>z) ⟨rfl,m,R2⟩) ?_)
     ·rintro x c st5 _ hx ⟨rfl,m',R'⟩;refine wpS_bind (wpS_get ?_);have sz:=R'.psize;have m2:∀ t,(if (pendingOf st5).size > 1 then (pendingOf st5)[(pendingOf st5).size - 2]? else none)=some t->2<=m':=fun t eo=>by
       rcases hE2 1 (pendingOf st5).size with z | z
       ·omega
       ·rw[if_neg (by omega)]at eo;cases eo
      revert m2;generalize (if (pendingOf st5).size > 1 then (pendingOf st5)[(pendingOf st5).size - 2]? else none)=bo;intro m2;rcases bo with _ | ⟨q1,q2,older⟩
      ·exact wpS_pure ⟨rfl,m',R'⟩
      ·dsimp only;split
       ·exact wpS_pure ⟨rfl,m',R'⟩
       ·have:=m2 _ rfl;refine wpS_bind (qEt ak d R' (by omega) fun st2 R2=>?_);rw[if_neg (by decide)];exact wpS_pure ⟨rfl,m' - 1,R2⟩
     ·rintro c st5 ⟨rfl,m',R'⟩;refine wpS_bind (wpS_modify ?_);refine wpS_bind (wpS_modify ?_);exact wpS_pure (fin _ _ R'.power)
   ·show wpS _ _ _ _ (if n<minRun' a₀.size a₀.size 0 then _ else _) _ _;rw[if_neg c];obtain⟨rest',R2,l2,s2,b1,b2⟩:=key _ st2 F2 u2 (by omega) (by omega);dsimp only;refine wpS_bind (wpS_get ?_);have fin:∀ (m':Nat) (st4:SortSt),RI rk kd a₀ rest' m' st4->∃ rest m lo',((none,lo+n):Option Unit×Nat)=(none,lo')/\RI rk kd a₀ rest m (setPending st4 ((pendingOf st4).push (lo,n,0)))/\lo'+rest.length=a₀.size/\x+1<=lo':=fun m' st4 R4=>⟨_,_,_,rfl,RI.pushed R4 (by omega) s2 b1 b2,by rw[hCa];omega,by omega⟩
    generalize (pendingOf st2).back?=bk;rcases bk with _ | ⟨s1,n1,p3⟩
    ·refine wpS_bind (wpS_modify ?_);exact wpS_pure (fin _ _ R2)
    ·dsimp only;refine wpS_bind (wpS_mono (wpS_forRange (I:=fun _ c st'=>c=(none,())/\∃ m,RI rk kd a₀ rest' m st') (Q:=fun c st'=>c=(none,())/\∃ m,RI rk kd a₀ rest' m st') ?_ (fun _ _ z=>z) ⟨rfl,m,R2⟩) ?_)
     ·rintro x c st3 _ hx ⟨rfl,m',R'⟩;refine wpS_bind (wpS_get ?_);have sz:=R'.psize;have m2:∀ t,(if (pendingOf st3).size > 1 then (pendingOf st3)[(pendingOf st3).size - 2]? else none)=some t->2<=m':=fun t eo=>by
       rcases hE2 1 (pendingOf st3).size with z | z
       ·omega
       ·rw[if_neg (by omega)]at eo;cases eo
      revert m2;generalize (if (pendingOf st3).size > 1 then (pendingOf st3)[(pendingOf st3).size - 2]? else none)=bo;intro m2;rcases bo with _ | ⟨q1,q2,older⟩
      ·exact wpS_pure ⟨rfl,m',R'⟩
      ·dsimp only;split
       ·exact wpS_pure ⟨rfl,m',R'⟩
       ·have:=m2 _ rfl;refine wpS_bind (qEt ak d R' (by omega) fun st2 R2=>?_);rw[if_neg (by decide)];exact wpS_pure ⟨rfl,m' - 1,R2⟩
     ·rintro c st3 ⟨rfl,m',R'⟩;refine wpS_bind (wpS_modify ?_);refine wpS_bind (wpS_modify ?_);exact wpS_pure (fin _ _ R'.power)
 ·rintro c st' ⟨rest,m,lo,rfl,R,hl,hxl⟩;have:rest=[]:=hBh.mp (by omega);subst this;exact⟨m,lo,rfl,R⟩
 ·rintro c st' ⟨m,lo,rfl,R⟩;have mle:m<=a₀.size:=by
   obtain⟨Rs,eR,ep,hR,rfl,hk',hf',hp'⟩:=R;have:∀ (L:List (List Keyed)),(∀ R∈L,R≠[])->L.length<=L.flatten.length:=fun L=>by
    induction L with
    | nil=>intro _;simp
    | cons a L ih =>
     intro h;have:=ih fun R hR=>h R (hAc _ hR)
     have:=List.length_pos_iff.mpr (h a (hAe ..));simp at *;omega
   have h1:=this Rs fun R hR'=>(hR R hR').1
   have h2:=hp'.length_eq;rw[eR]at h2;simp at h1 h2;omega
  refine wpS_bind (wpS_mono (wpS_forRange (I:=fun x c st'=>c=(none,())/\∃ m,RI rk kd a₀ [] m st'/\(m+x<=a₀.size\/m<=1)) (Q:=fun c st'=>c=(none,())/\∃ m,RI rk kd a₀ [] m st'/\m<=1) ?_ ?_ ⟨rfl,m,R,.inl (by omega)⟩) ?_)
  ·rintro x c st2 _ hx ⟨rfl,m',R',hm⟩;have sz:=R'.psize;refine wpS_bind (wpS_get ?_);show wpS _ _ _ _ (if (pendingOf st2).size<=1 then _ else _) _ _;by_cases g:(pendingOf st2).size<=1
   ·rw[if_pos g];exact wpS_pure ⟨rfl,m',R',by omega⟩
   ·rw[if_neg g];refine wpS_bind (qEt ak d R' ?_ fun st3 R3=>?_)
    ·have le:∀ (c:Prop) [Decidable c] (i:Nat),(if c then i - 1 else i)<=i:=fun c _ i=>by split <;> omega
     exact hCy (hCt (le _ _)) (by omega)
    ·exact wpS_pure ⟨rfl,m' - 1,R3,by omega⟩
  ·rintro c st2 ⟨rfl,m',R',hm⟩;exact⟨rfl,m',R',by omega⟩
  ·rintro c st2 ⟨rfl,m',R',hm⟩;refine wpS_pure (h _ ?_ ?_)
   ·obtain⟨Rs,eR,ep,hR,eM,hk',hf',hp'⟩:=R';exact hf'
   ·obtain⟨Rs,eR,ep,hR,rfl,hk',hf',hp'⟩:=R';refine⟨hp',?_⟩;rw[eR]
    match Rs,hm,hR with
    | [],_,_=>exact List.Pairwise.nil
    | [X],_,hR=>simpa using (hR X (by simp)).2
    | _ :: _ :: _,hm,_=>simp at hm
end
end L2
namespace L2
open PySem PySem.Spec PyProof.Rows PySem.W
section
variable {P:Program} {w:World} {A:Around} {E:Value->Shared->Prop} {s:Shared} {rk:Keyed->Int} {kd:SortKind} {D:Keyed->Prop}
theorem asks_of (h:∀ x y:Keyed,D x->D y->∀ Q:Bool->Shared->Prop,Q (decide (rk x<rk y)) s->wpAny (model P w) A (keyLt' kd x.1 y.1) Q (fun _ _=>False) s):qGw P w A E s rk kd D:=fun x y dx dy st Q hk hq=>by
 rw[lt'_eq];refine wpS_bind (wpS_get ?_);rw[hk];refine wpS_bind (wpS_lift (wpAny_attempt (wpAny_mono (h x y dx dy (fun b s'=>s'=s/\b=decide (rk x<rk y)) ⟨rfl,rfl⟩) (fun b s' z=>?_) fun _ _ (z:False)=>z.elim)));obtain⟨rfl,rfl⟩:=z;exact⟨rfl,wpS_pure hq⟩
theorem run_sort (ak:qGw P w A E s rk kd D) (d:∀ x∈pz.toList,D x) (h:∀ st',failedOf st'=none->Dn rk pz.toList (arrOf st').toList->Q ((),st') s) :
  wpAny (model P w) A (sortRuns'.run (SortSt.mk' kd pz #[] 7 none)) Q E s:=by
 have:=wp_sortRuns (a₀:=pz) (st:=SortSt.mk' kd pz #[] 7 none) (Q:=fun _ st'=>Q ((),st') s) ak d rfl rfl rfl rfl h;unfold wpS at this;exact wpAny_mono this (fun r s' ⟨e,q⟩=>by subst e;exact q) fun _ _ e=>e
end
noncomputable def kLt (x y:List Str):Bool:=decide (x.length<y.length) || (decide (x.length=y.length) && ltL x y)
theorem kLt_irr (x:List Str):kLt x x=false:=by simp[kLt,ltL_irr]
theorem kLt_trans (h:kLt x y=true) (h':kLt y z=true):kLt x z=true:=by
 simp only[kLt,hDc,hBo,decide_eq_true_eq]at *;rcases h with h | ⟨h,q⟩
 ·rcases h' with h' | ⟨h',q'⟩
  ·exact .inl (by omega)
  ·exact .inl (by omega)
 ·rcases h' with h' | ⟨h',q'⟩
  ·exact .inl (by omega)
  ·exact .inr ⟨by omega,qEk _ _ _ q q'⟩
theorem kLt_tri (x y:List Str):kLt x y=true\/x=y\/kLt y x=true:=by
 simp only[kLt,hDc,hBo,decide_eq_true_eq];rcases Nat.lt_trichotomy x.length y.length with h | h | h
 ·exact .inl (.inl h)
 ·rcases ltL_tri x y with q | q | q
  ·exact .inl (.inr ⟨h,q⟩)
  ·exact .inr (.inl q)
  ·exact .inr (.inr (.inr ⟨h.symm,q⟩))
 ·exact .inr (.inr (.inl h))
theorem cnt_le:∀ (l:List α),(∀ x∈l,p x=true->q x=true)->l.countP p<=l.countP q
 | [],_=>hA5 _
 | a :: l,h=>by
  rw[List.countP_cons,List.countP_cons];have:=cnt_le l fun x hx=>h x (hAc _ hx)
  have:=h a (hAe ..);cases hp:p a <;> cases hq:q a <;> simp_all <;> omega
theorem cnt_lt:∀ (l:List α),(∀ x∈l,p x=true->q x=true)->(∃ x∈l,q x=true/\p x=false)->l.countP p<l.countP q
 | [],_,⟨_,h,_⟩=>by cases h
 | a :: l,h,⟨x,hx,h1,h2⟩=>by
  rw[List.countP_cons,List.countP_cons];have le:=cnt_le l fun x hx=>h x (hAc _ hx)
  have ha:=h a (hAe ..);rcases hAh.mp hx with e | e
  ·subst e;rw[h1,h2];simp;omega
  ·have:=cnt_lt l (fun x hx=>h x (hAc _ hx)) ⟨x,e,h1,h2⟩;cases hp:p a <;> cases hq:q a <;> simp_all <;> omega
noncomputable def rankT (ts:List (List Str)) (t:List Str):Nat:=ts.countP fun u=>kLt u t
theorem qFo (hx:x∈ts) (h:kLt x y=true):rankT ts x<rankT ts y:=cnt_lt ts (fun u _ q=>kLt_trans q h) ⟨x,hx,h,kLt_irr x⟩
theorem rankT_eq (hx:x∈ts) (hy:y∈ts):decide ((rankT ts x:Int)<(rankT ts y:Int))=kLt x y:=by
 rcases kLt_tri x y with h | h | h
 ·have:=qFo hx h;rw[h];simp;omega
 ·subst h;rw[kLt_irr];simp
 ·have:=qFo hy h;have z:kLt x y=false:=by
   cases q:kLt x y with
   | false=>rfl
   | true=>have:=kLt_trans q h;rw[kLt_irr]at this;cases this
  rw[z];simp;omega
theorem qGe (h:m.Perm l0):∀ l:List α,l0=l.map f->∃ l':List α,l'.Perm l/\l'.map f=m:=by
 induction h with
 | nil =>
  intro l e;cases l with
  | nil=>exact⟨[],List.Perm.nil,rfl⟩
  | cons _ _=>cases e
 | cons x p ih =>
  intro l e;cases l with
  | nil=>cases e
  | cons a l =>
   injection e with e1 e2
   obtain⟨l',p',q⟩:=ih l e2;exact⟨a :: l',p'.cons a,by rw[hBf,q,<-e1]⟩
 | swap x y l1 =>
  intro l e
  match l,e with
  | a :: b :: l,e =>
   injection e with e1 e2
   injection e2 with e2 e3
   exact⟨b :: a :: l,List.Perm.swap a b l,by rw[hBf,hBf,<-e1,<-e2,e3]⟩
 | trans p1 p2 ih1 ih2 =>
  intro l e;obtain⟨l1,q1,q2⟩:=ih2 l e;obtain⟨l2,q3,q4⟩:=ih1 l1 q2.symm;exact⟨l2,q3.trans q1,q4⟩
def qB6 (h:Heap) (v:Value) (t:List Str):Prop:=∃ (k a:Addr) (tok:Tok) (its:Array Value),v = .ref k/\IsTup h k #[.int t.length tok,.ref a]/\h.IsList a its/\StrsAre its.toList t
theorem qB6.uniq (a:qB6 h v t) (b:qB6 h v u):t=u:=by
 obtain⟨k,p,tok,its,rfl,⟨o,e,c,n,d⟩,⟨o1,e1,c1,n1,d1⟩,st⟩:=a;obtain⟨k2,p2,tok2,its2,ek,⟨o',e',c',n',d'⟩,⟨o2,e2,c2,n2,d2⟩,st2⟩:=b;cases ek;rw[e]at e';cases e';rw[d]at d';injection d' with d' _
 have:[Value.int t.length tok,Value.ref p]=[Value.int u.length tok2,Value.ref p2]:=congrArg Array.toList d';injection this with _ h2
 injection h2 with h2 _
 cases h2;rw[e1]at e2;cases e2;rw[d1]at d2;injection d2 with d2 _
 subst d2;rw[<-st.strs,<-st2.strs]
section
variable {P:Program} {w:World} {A:Around} {E:Value->Shared->Prop} {s:Shared}
open SeqAt in
theorem eqAt_strs (hu:A.units<cLine) (ha:s.heap.IsList a i1) (hb:s.heap.IsList b i2) (hx:StrsAre i1.toList x) (hy:StrsAre i2.toList y):EqAt A s (.ref a) (.ref b) (decide (x=y)):=by
 by_cases e:a=b
 ·subst e;obtain⟨o1,e1,c1,n1,d1⟩:=ha;obtain⟨o2,e2,c2,n2,d2⟩:=hb;rw[e1]at e2;cases e2;rw[d1]at d2;injection d2 with d2 _
  subst d2;have:x=y:=by rw[<-hx.strs,<-hy.strs]
  rw[decide_eq_true this];exact EqAt.same _
 ·have l1:i1.size=x.length:=by rw[<-hx.strs];simp
  have l2:i2.size=y.length:=by rw[<-hy.strs];simp
  by_cases hs:i1.size=i2.size
  ·have q:=RcAt.lists (e:=fun j=>x.getD j "" == y.getD j "") ha hb hs hu fun j h1 h2=>by
    obtain⟨t1,q1⟩:=strs_at hx (i:=j) (by simpa using h1);obtain⟨t2,q2⟩:=strs_at hy (i:=j) (by simpa using h2);rw[hBa,Array.getElem?_eq_getElem h1]at q1;rw[hBa,Array.getElem?_eq_getElem h2]at q2;rw[hAu q1,hAu q2];exact EqAt.str_str _ _ _ _
   have eb:(List.range i1.size).all (fun j=>x.getD j "" == y.getD j "")=decide (x=y):=by
    rw[hD9];simp only[hDy,hAt,beq_iff_eq,decide_eq_true_eq];constructor
    ·intro h;refine List.ext_getElem (by omega) fun j h1 h2=>?_
     have:=h j (by omega);rw[hAk,hAk,hA2 h1,hA2 h2]at this;exact this
    ·intro h j _;rw[h]
   rw[eb]at q;exact EqAt.of_refs e q
  ·have ne:x≠y:=fun z=>hs (by rw[l1,l2,z])
   rw[decide_eq_false ne];exact EqAt.of_refs e (RcAt.lists_lengths ha hb (by simpa using hs) hu)
theorem ltAt_strs (hu:A.units<cLine) (hl:s.heap.IsList l items) (hb:s.heap.IsList b items2) (hx:StrsAre items.toList x) (hy:StrsAre items2.toList y)
  (h:Q (ltL x y) s):wpAny (model P w) A (oneLt' false (.ref l) (.ref b)) Q E s:=by
 obtain⟨⟨cls,dd,data,sl⟩,ho,hc,n,hd⟩:=hl;obtain⟨⟨cls2,dd2,data2,sl2⟩,ho2,hc2,n2,hd2⟩:=hb;simp only at hc hd hc2 hd2;subst hc hd hc2 hd2;rw[oneLt'_eq];simp only[hBv,if_false];refine wpAny_bind (richCompare_meets_room (op:=.Lt) ⟨_,ho,rfl⟩ ⟨_,ho2,rfl⟩ F.slot_list_lt F.entry_list_lt (F.args_list_lt_2 _ _) (list_ltS l b items items2 n n2 dd dd2 sl sl2 x y hx hy) ⟨⟨ho,ho2⟩,?_⟩ hu);refine⟨(fun z=>nomatch z),?_⟩;exact wpAny_truthy_bool h
theorem keyLt_T (hu:A.units<cLine) (hx:qB6 s.heap x t) (hy:qB6 s.heap y u) (h:Q (kLt t u) s):wpAny (model P w) A (keyLt' (tuples' true) x y) Q E s:=by
 obtain⟨k,a,tok,its,rfl,⟨o,e,c,n,d⟩,ha,st⟩:=hx;obtain⟨k2,a2,tok2,its2,rfl,⟨o',e',c',n',d'⟩,ha2,st2⟩:=hy;refine kat_lt e d e' d' (kat_cons (wpAny_eqBool_int (kat_go (fun q=>kat_yes (kat_cons (eqAt_strs hu ha ha2 st st2 _ _ _ _ (kat_go (fun q2=>kat_yes (kat_nil ?_)) fun q2=>kat_no ?_)))) fun q=>kat_no ?_)))
 ·have e1:t.length=u.length:=Int.ofNat.inj (eq_of_beq q);have e2:t=u:=of_decide_eq_true q2;subst e2;rw[kLt_irr]at h;exact h
 ·have e1:t.length=u.length:=Int.ofNat.inj (eq_of_beq q);refine ltAt_strs hu ha ha2 st st2 ?_;have:kLt t u=ltL t u:=by simp[kLt,e1]
  rw[this]at h;exact h
 ·have e1:t.length≠u.length:=by
   intro z;rw[z]at q;simp at q
  refine oneLt_int ?_;have:kLt t u=decide ((t.length:Int)<(u.length:Int)):=by
   simp only[kLt];rw[decide_eq_false e1];simp
  rw[this]at h;exact h
end
end L2
namespace L2
open PySem PySem.Spec PyProof.Rows PySem.W
def ExtH (H H':Hp):Prop:=∀ b o,H b=some o->H' b=some o
theorem sq_ext {K:PySem.W.Frag} {H H':Hp} {l:Addr} {xs:List V} (e:ExtH H H') (hq:SqL K H l xs):SqL K H' l xs:=by
 rcases hq with (hq | ⟨o,hq⟩) | hq
 ·exact .inl (.inl (e _ _ hq))
 ·exact .inl (.inr ⟨o,e _ _ hq⟩)
 ·exact .inr hq
theorem qEz:∀ {l:List α} {m:List β},Paired R l m->l.length=m.length
 | _,_,.nil=>rfl
 | _,_,.cons _ t=>by rw[hCi,hCi,qEz t]
theorem qG8 {α β:Type} {R R':α->β->Prop} (h:∀ a b,R a b->R' a b):∀ {l:List α} {m:List β},Paired R l m->Paired R' l m
 | _,_,.nil=>.nil
 | _,_,.cons a t=>.cons (h _ _ a) (qG8 h t)
theorem paired_mem:∀ {l:List α} {m:List β},Paired R l m->(∀ a b,b∈m->R a b->R' a b)->Paired R' l m
 | _,_,.nil,_=>.nil
 | _,_,.cons a t,h=>.cons (h _ _ (hAe ..) a) (paired_mem t fun a b hb=>h a b (hAc _ hb))
theorem qGf:∀ {l:List α} {m:List β},Paired R l m->R a b->Paired R (l++[a]) (m++[b])
 | _,_,.nil,h=>.cons h .nil
 | _,_,.cons q t,h=>.cons q (qGf t h)
theorem qCo:∀ {l:List α} {m:List β},Paired R l m->∀ z∈l.zip m,R z.1 z.2
 | _,_,.nil,z,h=>by cases h
 | _,_,.cons q t,z,h=>by
  rcases hAh.mp h with e | e
  ·rw[e];exact q
  ·exact qCo t z e
theorem qD0:∀ {kA:List Value} {ps:List (Addr×List Str)},Paired (fun v p=>qB6 h v p.2) kA ps->∃ fs:List Value,KatTups h kA fs/\fs.length=kA.length/\∀ f∈fs,∃ n t,f=Value.int n t
 | _,_,.nil=>⟨[],KatTups.nil,rfl,fun f hf=>by cases hf⟩
 | _,_,.cons a t=>by
  obtain⟨fs,k1,k2,k3⟩:=qD0 t;obtain⟨k,p,tok,its,rfl,⟨o,e,c,n,d⟩,_,_⟩:=a;refine⟨_ :: fs,KatTups.cons e c d rfl k1,by rw[hCi,hCi,k2],fun f hf=>?_⟩;rcases hAh.mp hf with z | z
  ·exact⟨_,tok,z⟩
  ·exact k3 f z
section
variable {X:Cx}
theorem sk_endT
  (I:Inv X ((kS,seqObj "list" kA.toArray en) :: (a,seqObj "list" #[] e1) :: pins) σ H s) (hk:kS≠a) (Hk:H kS=none) (Ha:H a=none) (wa:Aw X pins a) (wk:Aw X pins kS) (hu:A.units<cLine)
  (keys:Paired (fun v p=>qB6 s.heap v p.2) kA ps) (hn:ps.length<=5000)
  (h:∀ (s':Shared) (ps':List (Addr×List Str)),ps'.Perm ps->ps'.Pairwise (fun p q=>kLt q.2 p.2=false)->Inv X pins σ (upd H a (.lst (ps'.map fun p=>V.ref p.1))) s'->P (.done (.ret .none)) s') :
  wpAny (model X.prog X.w) A (ksk_end a false (ps.map fun p=>Value.ref p.1).toArray e1 (.ref kS) kA.toArray) P E' s:=by
 have lk:=qEz keys;have ok:s.heap.get? kS=some (seqObj "list" kA.toArray en):=(I.pin (kS,_) (hA8 _ (.head _))).1;have ez:(kA.toArray.zip (ps.map fun p=>Value.ref p.1).toArray).toList=(kA.zip ps).map fun z=>((z.1,Value.ref z.2.1):Keyed):=by
  rw[hDz];show kA.zip (ps.map fun p=>Value.ref p.1)=_;rw[List.zip_map_right];rfl
 have fin:∀ (st:SortSt) (Z:List (Value×(Addr×List Str))),(arrOf st).toList=Z.map (fun z=>((z.1,Value.ref z.2.1):Keyed))->Z.Perm (kA.zip ps)->(Z.map Prod.snd).Pairwise (fun p q=>kLt q.2 p.2=false)->failedOf st=none->wpAny (model X.prog X.w) A (ksk_tail a false e1 (.ref kS) st) P E' s:=by
  intro st Z hZ hp ho hf;have lz:Z.length=ps.length:=by rw[hp.length_eq,List.length_zip];omega
  have es:((arrOf st).map (·.2)).toList=(Z.map Prod.snd).map fun p=>Value.ref p.1:=by
   rw[hDm,hZ,hAo,hAo];rfl
  have sz:(arrOf st).size=ps.length:=by rw[<-hC1,hZ,hA1,lz]
  obtain⟨n1,I1,_⟩:=Inv.repinL (fun _=>(#[]:Array Value)) I.unpin (wk.cons (Ne.symm hk)) Hk ok;have oa1:(s.heap.update kS (Obj.mapSeq fun _=>(#[]:Array Value))).get? a=some (seqObj "list" #[] e1):=(I1.pin (a,_) (hA8 _ (.head _))).1;obtain⟨n2,I2,oa2⟩:=Inv.repinL (s:={ s with heap:=s.heap.update kS (Obj.mapSeq fun _=>(#[]:Array Value)) }) (fun _=>(arrOf st).map (·.2)) I1.unpin wa Ha oa1;unfold ksk_tail;try dsimp only
  refine wpAny_bind (listUpdate_at ok rfl ?_ (by rw[hAa,sizeLine_eq];omega) (hAp _));refine wpAny_bind (wpAny_letGo ?_);refine wpAny_bind (seqEpoch_at oa1 rfl ?_);refine wpAny_bind (listUpdate_at oa1 rfl ?_ (hAp _) (by simp only[hBv,if_false,Array.size_map];rw[sz,sizeLine_eq];omega));rw[hf];simp only[bne_self_eq_false,hBv,if_false];refine wpAny_pure (h _ (Z.map Prod.snd) ?_ ho ?_)
  ·have:=hp.map Prod.snd;rw[hCu (by omega)]at this;exact this
  ·refine I2.adoptL (its:=(Z.map Prod.snd).map fun p=>Value.ref p.1) (n:=n2) wa Ha ?_ (by rw[hA1,hA1,lz,sizeLine_eq];omega) ?_
   ·have:=qD4 ((Z.map Prod.snd).map Prod.fst);rw[hAo,hAo (g:=Value.ref)]at this;exact this
   ·rw[<-es,Array.toArray_toList];exact oa2
 unfold ksk_end;try dsimp only
 simp only[hBv,if_false];by_cases h2:((ps.map fun p=>Value.ref p.1).toArray).size<2
 ·rw[if_pos h2,if_pos h2];refine wpAny_bind (wpAny_pure ?_);rw[StateT.run_pure];refine wpAny_bind (wpAny_pure ?_);try dsimp only
  refine fin (SortSt.mk' general' (kA.toArray.zip (ps.map fun p=>Value.ref p.1).toArray) #[] 7 none) (kA.zip ps) ez (hCo _) ?_ rfl;rw[hCu (by omega)];rw[hAa,hA1]at h2
  match ps,h2 with
  | [],_=>exact List.Pairwise.nil
  | [p],_=>exact hC5 ..
 ·rw[if_neg h2,if_neg h2];rw[hAa,hA1]at h2;obtain⟨fs,kt,fl,fa⟩:=qD0 keys;refine wpAny_bind (kat_kind (T:=.type "int") kt (by omega) (fun v hv=>?_) (by decide) ?_)
  ·obtain⟨x,t,rfl⟩:=fa v hv;exact .now
  show wpAny _ _ (sortRuns'.run (SortSt.mk' (tuples' true) _ #[] 7 none) >>= _) _ _ _;have ex:∀ x:Keyed,∃ r:Int,∀ t,qB6 s.heap x.1 t->r=(rankT (ps.map Prod.snd) t:Int):=fun x=>by
   by_cases c:∃ t,qB6 s.heap x.1 t
   ·obtain⟨t,ht⟩:=c;exact⟨(rankT (ps.map Prod.snd) t:Int),fun u hu=>by rw[ht.uniq hu]⟩
   ·exact⟨0,fun t ht=>absurd ⟨t,ht⟩ c⟩
  obtain⟨rk,hrk⟩:∃ rk:Keyed->Int,∀ x t,qB6 s.heap x.1 t->rk x=(rankT (ps.map Prod.snd) t:Int):=⟨fun x=>Classical.choose (ex x),fun x=>Classical.choose_spec (ex x)⟩;have at_:∀ z∈kA.zip ps,qB6 s.heap z.1 z.2.2/\z.2.2∈ps.map Prod.snd:=fun z hz=>⟨qCo keys z hz,hA9.mpr ⟨z.2,(hDq hz).2,rfl⟩⟩
  have ak:qGw X.prog X.w A E' s rk (tuples' true) (fun x=>∃ t∈ps.map Prod.snd,qB6 s.heap x.1 t):=asks_of fun x y ⟨t,ht,kx⟩ ⟨u,hu',ky⟩ Q hq=>by
   rw[hrk x t kx,hrk y u ky,rankT_eq ht hu']at hq;exact keyLt_T hu kx ky hq
  refine wpAny_bind (run_sort ak (fun x hx=>?_) fun st' hf dn=>?_)
  ·rw[ez]at hx;obtain⟨z,hz,rfl⟩:=hA9.mp hx;exact⟨_,(at_ z hz).2,(at_ z hz).1⟩
  ·obtain⟨Z,pZ,eZ⟩:=qGe dn.1 (kA.zip ps) ez;refine fin st' Z eZ.symm pZ ?_ hf;have so:=dn.2;rw[<-eZ]at so;have so:=hAz.mp so;refine hAz.mpr (so.imp_of_mem fun {x y} hx hy le=>?_);have ax:=at_ x (pZ.mem_iff.mp hx);have ay:=at_ y (pZ.mem_iff.mp hy);rw[hrk _ _ ax.1,hrk _ _ ay.1]at le;cases c:kLt y.2.2 x.2.2 with
   | false=>rfl
   | true =>
    have:=qFo ay.2 c;omega
theorem sortKeyT_core {pins:List (Addr×Obj)} {σ:St} {H1:Hp} {s1:Shared} {l f:Addr} {ps:List (Addr×List Str)} {Q:VK} (I1:Inv X pins σ H1 s1) (hq:SqL X.K H1 l (ps.map fun p=>V.ref p.1)) (hrow:∀ p∈ps,SqL X.K H1 p.1 (p.2.map V.str)) (hn:ps.length<=5000) (hu:X.A.in1.in1.units<cLine)
  (hcall:∀ p∈ps,∀ (pins':List (Addr×Obj)) (s':Shared) (H':Hp),(∀ q∈pins,q∈pins')->ExtH H1 H'->Inv X pins' σ H' s'->wpAny (model X.prog X.w) X.A.in1.in1 (call (.ref f) [.ref p.1]) (EP X pins' σ (fun v H2=>∃ k,v = .ref k/\H' k=none/\H2=upd H' k (.tup [.int p.2.length,.ref p.1]))) (fun _ _=>False) s')
  (q:∀ (r:Addr) (ps':List (Addr×List Str)) (H2:Hp),H1 r=none->ExtH H1 H2->H2 r=some (.lst (ps'.map fun p=>V.ref p.1))->ps'.Perm ps->ps'.Pairwise (fun p q=>kLt q.2 p.2=false)->Q (.ref r) H2) :
  wpAny (model X.prog X.w) X.A (call (.builtin "sorted") [.ref l] [(Str.ofString "key",.ref f)]) (EP X pins σ Q) X.xe s1:=by
 obtain⟨its,rv,pl,hz⟩:=I1.list hq;have ei:its=ps.map fun p=>Value.ref p.1:=by
  have rv':qA9 ((ps.map Prod.fst).map V.ref) its:=by rw[hAo];exact rv
  have:=refs_of rv';rw[hAo]at this;exact this
 have hl:its.length=ps.length:=by rw[ei,hA1]
 refine call_function_entry_kw kind_sorted plain_sorted entry_sorted (ksk_s1 _ _) ?_;unfold Builtin.«sorted»;refine wpAny_bind (m:=checkCount "sorted" 1 1 _) (wpAny_pure ?_);refine wpAny_bind (collect_list pl.isList ?_ (by rw[sizeLine_eq];omega));refine wpAny_bind (wpAny_newList ?_ (by rw[sizeLine_eq];omega));have hsz:((s1.heap.push (seqObj "list" #[] 0)).update s1.heap.objs.size (Obj.mapSeq (·++its.toArray))).objs.size=s1.heap.objs.size+1:=by
  rw[Heap.size_update,size_push']
 have keep:∀ b o,s1.heap.get? b=some o->((s1.heap.push (seqObj "list" #[] 0)).update s1.heap.objs.size (Obj.mapSeq (·++its.toArray))).get? b=some o:=fun b o q=>by
  have hlt:b<s1.heap.objs.size:=Heap.lt_size q;rw[Heap.get?_update_ne _ _ _ _ (hB0 hlt),Heap.get?_push_ne _ _ _ (hB0 hlt)];exact q
 have hoL:(((s1.heap.push (seqObj "list" #[] 0)).update s1.heap.objs.size (Obj.mapSeq (·++its.toArray))).push (seqObj "list" its.toArray 0)).get? (s1.heap.objs.size+1)=some (seqObj "list" its.toArray 0):=by
  rw[<-hsz];exact Heap.get?_push_size _ rfl
 have I2:Inv X pins σ H1 { s1 with heap:=((s1.heap.push (seqObj "list" #[] 0)).update s1.heap.objs.size (Obj.mapSeq (·++its.toArray))).push (seqObj "list" its.toArray 0) } :=
  I1.kept (t':=s1.toks) fun b o q=>Heap.get?_push_of_some _ (keep b o q)
 show wpAny _ _ _ _ _ { s1 with heap:=((s1.heap.push (seqObj "list" #[] 0)).update s1.heap.objs.size (Obj.mapSeq (·++its.toArray))).push (seqObj "list" its.toArray 0) };rw[hsz];have nA:H1 (s1.heap.objs.size+1)=none:=I1.hok.fresh (hBl _);have wA:Aw X pins (s1.heap.objs.size+1):=I1.aw (hBl _);generalize s1.heap.objs.size+1=a at hoL nA wA;generalize hS:({ s1 with heap:=((s1.heap.push (seqObj "list" #[] 0)).update s1.heap.objs.size (Obj.mapSeq (·++its.toArray))).push (seqObj "list" its.toArray 0) }:Shared)=s2 at I2;have ho2:s2.heap.get? a=some (seqObj "list" its.toArray 0):=by rw[<-hS];exact hoL
 clear hoL hS;refine wpAny_bind (wpAny_holding (wpAny_call_entry_kw slot_list_sort ⟨_,ho2,rfl⟩ entry_list_sort ?body (ksk_l1 _ _)));show wpAny (model X.prog X.w) X.A.in1.in1 (Builtin.«list.sort» ⟨[.ref a],[(Str.ofString "key",.ref f)]⟩) _ _ _;rw[ksk_t1];unfold ksk_tree;refine wpAny_bind (listItems_at ho2 rfl ?_);refine wpAny_bind (listUpdate_at ho2 rfl ?_ (by rw[hAa,sizeLine_eq];omega) (hAp _));obtain⟨e1,I3,ho3⟩:=I2.repinL (fun _=>#[]) wA nA ho2;refine wpAny_bind (seqEpoch_at ho3 rfl ?_);refine wpAny_bind (wpAny_newTuple ?_ (by show its.length<=_;rw[sizeLine_eq];omega));refine wpAny_bind (wpAny_newList ?_ (hAp _));refine wpAny_holding ?_;have I4:Inv X pins σ H1 { s2 with heap:=((s2.heap.update a (Obj.mapSeq fun _=>(#[]:Array Value))).push (seqObj "tuple" its.toArray 0)) }:=I3.kept (t':=s2.toks) fun b o q=>Heap.get?_push_of_some _ q
 have nK:=I4.fresh;have wK:=I4.aw (hA5 _);have ho4:((s2.heap.update a (Obj.mapSeq fun _=>(#[]:Array Value))).push (seqObj "tuple" its.toArray 0)).get? a=some (seqObj "list" #[] e1):=Heap.get?_push_of_some _ ho3;have nka:((s2.heap.update a (Obj.mapSeq fun _=>(#[]:Array Value))).push (seqObj "tuple" its.toArray 0)).objs.size≠a:=hCn (Heap.lt_size ho4);have I5:Inv X pins σ H1 { s2 with heap:=((s2.heap.update a (Obj.mapSeq fun _=>(#[]:Array Value))).push (seqObj "tuple" its.toArray 0)).push (seqObj "list" #[] 0) }:=I4.kept (t':=s2.toks) fun b o q=>Heap.get?_push_of_some _ q
 have ho5:(((s2.heap.update a (Obj.mapSeq fun _=>(#[]:Array Value))).push (seqObj "tuple" its.toArray 0)).push (seqObj "list" #[] 0)).get? a=some (seqObj "list" #[] e1):=Heap.get?_push_of_some _ ho4;have hk5:(((s2.heap.update a (Obj.mapSeq fun _=>(#[]:Array Value))).push (seqObj "tuple" its.toArray 0)).push (seqObj "list" #[] 0)).get? ((s2.heap.update a (Obj.mapSeq fun _=>(#[]:Array Value))).push (seqObj "tuple" its.toArray 0)).objs.size=some (seqObj "list" #[] 0):=Heap.get?_push_size _ rfl;show wpAny _ _ (ksk_rest a (.ref f) false its.toArray e1 (.ref ((s2.heap.update a (Obj.mapSeq fun _=>(#[]:Array Value))).push (seqObj "tuple" its.toArray 0)).objs.size)) _ _ { s2 with heap:=((s2.heap.update a (Obj.mapSeq fun _=>(#[]:Array Value))).push (seqObj "tuple" its.toArray 0)).push (seqObj "list" #[] 0) }
 change H1 ((s2.heap.update a (Obj.mapSeq fun _=>(#[]:Array Value))).push (seqObj "tuple" its.toArray 0)).objs.size=none at nK
 change Aw X pins ((s2.heap.update a (Obj.mapSeq fun _=>(#[]:Array Value))).push (seqObj "tuple" its.toArray 0)).objs.size at wK
 have I6:=(I5.pinL wA nA ho5).pinL (wK.cons (Ne.symm nka)) nK hk5;generalize ((s2.heap.update a (Obj.mapSeq fun _=>(#[]:Array Value))).push (seqObj "tuple" its.toArray 0)).objs.size=kS at nK wK nka I6 ⊢;generalize ({ s2 with heap:=((s2.heap.update a (Obj.mapSeq fun _=>(#[]:Array Value))).push (seqObj "tuple" its.toArray 0)).push (seqObj "list" #[] 0) }:Shared)=s6 at I6 ⊢;unfold ksk_rest;refine wpAny_bind (wpAny_rule ?_)
 first
  | rw[List.forIn_toArray]
  | (rw[<-Array.forIn_toList];simp only[List.toList_toArray])
  | rw[<-Array.forIn_toList]
 refine wpAny_bind (ksk_fold (fun i s'=>∃ (kA:List Value) (e:Nat) (H':Hp),Inv X ((kS,seqObj "list" kA.toArray e) :: (a,seqObj "list" #[] e1) :: pins) σ H' s'/\ExtH H1 H'/\Paired (fun v p=>∃ k,v=Value.ref k/\H' k=some (.tup [.int (p.2.length:Int),.ref p.1])) kA (ps.take i)) its 0 s6 ⟨[],0,H1,I6,fun _ _ z=>z,by simpa using Paired.nil⟩ ?step ?done)
 case step =>
  rintro j x s' hx ⟨kA,e,H',I',ex,hk⟩;simp only[Nat.zero_add]at hk ⊢;have hj:j<its.length:=(hAv.mp hx).1;have hjn:j<ps.length:=by omega
  have hxe:x = .ref ps[j].1:=by
   rw[ei,hAs,hA2 hjn]at hx;exact(hAu hx).symm
  subst hxe;have hz:kA.length<=its.length:=by
   have h1:=qEz hk;rw[hAi]at h1;omega
  refine wpAny_bind (wpAny_attempt (wpAny_mono (hcall ps[j] (hBp hjn) _ s' H' (fun p hp=>hAc _ (hAc _ hp)) ex I') (fun v s'' he=>?_) fun _ _ (hF:False)=>hF.elim));obtain⟨w,H'',I8,rw',k,rfl,nk,e8⟩:=he;cases rw';subst e8;try dsimp only
  have ok2:s''.heap.get? kS=some (seqObj "list" kA.toArray e):=(I8.pin (kS,_) (hA8 _ (.head _))).1;have nK8:upd H' k (.tup [.int ps[j].2.length,.ref ps[j].1]) kS=none:=(I8.pin (kS,_) (hA8 _ (.head _))).2.1;obtain⟨n3,I3,ok3⟩:=I8.unpin.repinL (·.push (.ref k)) (wK.cons (Ne.symm nka)) nK8 ok2;have ek:ps.take (j+1)=ps.take j++[ps[j]]:=by rw[List.take_add_one,hA2 hjn];rfl
  refine wpAny_bind (listUpdate_at ok2 rfl ?_ (by rw[hAa,sizeLine_eq];omega) (hAr (Nat.le_of_eq (Array.size_push ..)) (by rw[hAa,sizeLine_eq];omega)));have ea:kA.toArray.push (Value.ref k)=(kA++[Value.ref k]).toArray:=by simp
  rw[ea]at ok3;refine wpAny_pure ⟨rfl,kA++[.ref k],n3,_,I3.pinL (wK.cons (Ne.symm nka)) nK8 ok3,fun b o z=>?_,?_⟩
  ·have:=ex b o z;rw[upd_ne (qAe this nk)];exact this
  ·rw[ek];refine qGf (qG8 (fun v p ⟨k2,z1,z2⟩=>⟨k2,z1,?_⟩) hk) ⟨k,rfl,upd_same⟩;rw[upd_ne (qAe z2 nk)];exact z2
 case done =>
  rintro s' ⟨kA,e,H',I',ex,hk⟩;have e3:ps.take (0+its.length)=ps:=hA6 (by omega);rw[e3]at hk;have ok2:s'.heap.get? kS=some (seqObj "list" kA.toArray e):=(I'.pin (kS,_) (hA8 _ (.head _))).1;have nK':H' kS=none:=(I'.pin (kS,_) (hA8 _ (.head _))).2.1;have nA':H' a=none:=(I'.pin (a,_) (hA8 _ (.tail _ (.head _)))).2.1;try dsimp only
  refine wpAny_bind (listItems_at ok2 rfl ?_);have keys:Paired (fun v p=>qB6 s'.heap v p.2) kA ps:=paired_mem hk fun v p hp ⟨k,ev,hH⟩=>by
   obtain⟨i1,r1,t1,_⟩:=I'.tuple (Or.inl (.inl hH));obtain⟨i2,r2,⟨o,n,g1,g2,_,g4⟩,_⟩:=I'.list (sq_ext ex (hrow p hp));cases r1 with
   | cons r1 rr =>
    cases rr with
    | cons r3 rr =>
     cases rr;obtain⟨tok,rfl⟩:=r1;cases r3;exact⟨k,p.1,tok,i2.toArray,ev,t1,⟨o,g1,g2,n,g4⟩,by simpa using qDj r2⟩
  subst ei;refine sk_endT I' nka nK' nA' wA wK hu keys hn fun s7 ps' hp ho I7=>⟨_,rfl,?_⟩
  refine wpAny_pure ⟨_,rfl,⟨.ref a,_,I7,rfl,q a ps' _ nA (fun b o z=>?_) upd_same hp ho⟩⟩;have:=ex b o z;rw[upd_ne (qAe this nA')];exact this
end
end L2
namespace L2
open PySem PySem.Spec PyProof.Rows PySem.W
theorem zip_dup:∀ vs:List Value,vs.zip vs=vs.map fun v=>((v,v):Keyed)
 | []=>rfl
 | v :: vs=>by rw[List.zip_cons_cons,hBf,zip_dup vs]
section
variable {P:Program} {w:World} {A:Around} {E:Value->Shared->Prop} {s:Shared}
theorem sort_intsN (ho:s.heap.get? a=some (seqObj "list" vs.toArray n)) (hi:IntsAre vs ns) (hn:vs.length<=5000)
  (h:∀ (out:List Value),out.Perm vs->(out.map numOf).Pairwise (·<=·)->R (.done (.ret .none)) { s with heap:=sortedHeap s.heap a vs out.toArray }):wpAny (model P w) A (Builtin.«list.sort» ⟨[.ref a],[]⟩) R E s:=by
 rw[list_sort_plain];have ha:a<s.heap.objs.size:=Heap.lt_size ho;refine wpAny_bind (listItems_at ho rfl (wpAny_bind (listUpdate_at ho rfl ?_ (by rw[hAa,sizeLine_eq];omega) (hAp _))));obtain⟨e1,ho1⟩:∃ e1,(s.heap.update a (Obj.mapSeq fun _=>#[])).get? a=some (seqObj "list" #[] e1):=⟨_,get?_update_seq ho (fun _=>#[])⟩;refine wpAny_bind (seqEpoch_at ho1 rfl (wpAny_bind (wpAny_newTuple ?_ (by show vs.length<=_;rw[sizeLine_eq];omega))));refine wpAny_bind (wpAny_newList ?_ (hAp _));refine wpAny_holding ?_;have ho6:(((s.heap.update a (Obj.mapSeq fun _=>#[])).push (seqObj "tuple" vs.toArray 0)).push (seqObj "list" #[] 0)).get? a=some (seqObj "list" #[] e1):=Heap.get?_push_of_some _ (Heap.get?_push_of_some _ ho1);have keep:∀ b o,b≠a->s.heap.get? b=some o->(((s.heap.update a (Obj.mapSeq fun _=>#[])).push (seqObj "tuple" vs.toArray 0)).push (seqObj "list" #[] 0)).get? b=some o:=fun b o hb e=>by
  refine Heap.get?_push_of_some _ (Heap.get?_push_of_some _ ?_);rw[Heap.get?_update_ne _ _ _ _ hb];exact e
 show wpAny (model P w) A _ R E { s with heap:=((s.heap.update a (Obj.mapSeq fun _=>#[])).push (seqObj "tuple" vs.toArray 0)).push (seqObj "list" #[] 0) };dsimp only;have fin:∀ (st':SortSt) (out:List Value),(arrOf st').map (·.2)=out.toArray->failedOf st'=none->out.Perm vs->(out.map numOf).Pairwise (·<=·)->wpAny (model P w) A (do
   let touched:=(← seqEpoch a) != e1
   Builtin.List.listUpdate (.ref a) fun _=>(arrOf st').map (·.2)
   if let some e:=failedOf st' then rule "list.sort.comparison-raised";throw e
   if touched then rule "list.sort.modified";raiseError "ValueError" "list modified during sort"
   ret .none) R E { s with heap:=((s.heap.update a (Obj.mapSeq fun _=>#[])).push (seqObj "tuple" vs.toArray 0)).push (seqObj "list" #[] 0) }:=by
  intro st' out e hf hp hs;refine wpAny_bind (seqEpoch_at ho6 rfl ?_);refine wpAny_bind (listUpdate_at ho6 rfl ?_ (hAp _) (by rw[e,hAa,hp.length_eq,sizeLine_eq];omega));rw[hf];simp only[bne_self_eq_false,hBv,if_false];rw[e];exact wpAny_pure (h out hp hs)
 have ez:(vs.toArray.zip vs.toArray).toList=vs.map fun v=>((v,v):Keyed):=by
  rw[hDz];exact zip_dup vs
 by_cases h2:vs.toArray.size<2
 ·rw[if_pos h2,if_pos h2];refine wpAny_bind (wpAny_pure ?_);rw[StateT.run_pure];refine wpAny_bind (wpAny_pure (fin _ vs ?_ rfl (hCo _) ?_))
  ·show(vs.toArray.zip vs.toArray).map (·.2)=vs.toArray;apply hDl.mp;rw[hDm,hDz];exact hCu (hA5 _)
  ·rw[hAa]at h2
   match vs,h2 with
   | [],_=>exact List.Pairwise.nil
   | [p],_=>exact hC5 ..
 ·rw[if_neg h2,if_neg h2];have hl2:2<=vs.length:=by rw[hAa]at h2;omega
  rw[ksk_kind (keys:=vs.toArray) (kz:=ns) (by simpa using hi) (by rw[hAa];omega)];refine wpAny_bind (wpAny_pure ?_);have ak:qGw P w A E { s with heap:=((s.heap.update a (Obj.mapSeq fun _=>#[])).push (seqObj "tuple" vs.toArray 0)).push (seqObj "list" #[] 0) } (fun x=>numOf x.1) oneType' (fun x=>∃ n t,x.1=Value.int n t):=asks_of fun x y ⟨n,t,ex⟩ ⟨m,u,ey⟩ Q hq=>by
   rw[ex,ey]at hq;rw[ex,ey,keyLt'_oneType];exact oneLt_int hq
  refine wpAny_bind (run_sort ak (fun x hx=>?_) fun st' hf dn=>?_)
  ·rw[ez]at hx;obtain⟨v,hv,rfl⟩:=hA9.mp hx;exact hi.all v hv
  ·obtain⟨L,pL,eL⟩:=qGe dn.1 vs ez;refine fin st' L ?_ hf pL ?_
   ·apply hDl.mp;rw[hDm,<-eL,hAo];show L.map _=L;exact hE5 L
   ·have so:=dn.2;rw[<-eL]at so;have so2:=hAz.mp so;exact hAz.mpr so2
end
section
variable {X:Cx}
theorem call_sortedN:qB9 X (.builtin "sorted") (fun xs H Q=>∃ (p:Addr) (ns:List Int),xs=[.ref p]/\SqL X.K H p (ns.map V.int)/\ns.length<=5000/\∀ (r:Addr) (ns':List Int),H r=none->ns'.Perm ns->ns'.Pairwise (·<=·)->Q (.ref r) (upd H r (.lst (ns'.map V.int)))):=by
 intro pins s σ H xs us Q I r h;obtain⟨p,ns,rfl,hq,hn,q⟩:=h;obtain⟨u,rfl,rx⟩:=qCs r;cases rx;obtain⟨its,rv,pl,hz⟩:=I.list hq;have hi:=qCy rv;have hl:=hi.length;refine Calls.call_function_entry kind_sorted plain_sorted entry_sorted (args_sorted1 _) ?_;unfold Builtin.«sorted»;refine wpAny_bind (m:=checkCount "sorted" 1 1 _) (wpAny_pure (wpAny_bind (collect_list pl.isList ?_ (by rw[sizeLine_eq];omega))));refine wpAny_bind (wpAny_newList ?_ (by rw[sizeLine_eq];omega));have hsz:((s.heap.push (seqObj "list" #[] 0)).update s.heap.objs.size (Obj.mapSeq (·++its.toArray))).objs.size=s.heap.objs.size+1:=by rw[Heap.size_update,size_push']
 have hoL:(((s.heap.push (seqObj "list" #[] 0)).update s.heap.objs.size (Obj.mapSeq (·++its.toArray))).push (seqObj "list" its.toArray 0)).get? (s.heap.objs.size+1)=some (seqObj "list" its.toArray 0):=by
  rw[<-hsz];exact Heap.get?_push_size _ rfl
 have keep:∀ b o,s.heap.get? b=some o->(((s.heap.push (seqObj "list" #[] 0)).update s.heap.objs.size (Obj.mapSeq (·++its.toArray))).push (seqObj "list" its.toArray 0)).get? b=some o:=fun b o e=>by
  have hlt:b<s.heap.objs.size:=Heap.lt_size e;rw[Heap.get?_push_ne _ _ _ (by rw[hsz];exact hB0 (hDb hlt)),Heap.get?_update_ne _ _ _ _ (hB0 hlt),Heap.get?_push_ne _ _ _ (hB0 hlt)];exact e
 show wpAny _ _ _ _ _ { s with heap:=((s.heap.push (seqObj "list" #[] 0)).update s.heap.objs.size (Obj.mapSeq (·++its.toArray))).push (seqObj "list" its.toArray 0) };rw[hsz];refine wpAny_bind (wpAny_holding (wpAny_call_entry slot_list_sort ⟨_,hoL,rfl⟩ entry_list_sort (sort_intsN hoL hi (by omega) fun out hp hs=>⟨_,rfl,?_⟩) (args_list_sort _)));have nz:H (s.heap.objs.size+1)=none:=I.hok.fresh (hBl _);obtain⟨e,he⟩:=sortedAll_at s.heap its out.toArray;have ho:IntsAre out (out.map numOf):=intsAre_map out fun v hv=>hi.all v (hp.mem_iff.mp hv)
 have hpn:(out.map numOf).Perm ns:=by
  have:=hp.map numOf;rw[hi.nums]at this;exact this
 refine wpAny_pure ⟨_,rfl,.ref (s.heap.objs.size+1),_,I.laid (t':=s.toks) (a:=s.heap.objs.size+1) (o:=.lst ((out.map numOf).map V.int)) (h':=sortedAll s.heap its out.toArray) (fun b o eb=>sortedAll_old eb) (hBl _) ⟨?_,out,e,qFw ho,he⟩,rfl,q _ (out.map numOf) nz hpn hs⟩;rw[hA1,hA1,hp.length_eq,sizeLine_eq];omega
end
def tSortLamT (K:PySem.W.Frag) (P:Addr) (lpos:Pos) (q:Str) (t:TA):TE:=fun σ H Q=>t σ H fun vs H1=>∃ (p:Addr) (ps:List (Addr×List Str)),vs=[.ref p]/\SqL K H1 p (ps.map fun p=>V.ref p.1)/\(∀ x∈ps,SqL K H1 x.1 (x.2.map V.str))/\ps.length<=5000/\TabW H1 P lpos q /\
 ∀ (r:Addr) (ps':List (Addr×List Str)) (H2:Hp),H1 r=none->ExtB P H1 H2->H2 r=some (.lst (ps'.map fun p=>V.ref p.1))->ps'.Perm ps->ps'.Pairwise (fun p q=>kLt q.2 p.2=false)->TabW H2 P lpos q->Q (.ref r) H2
section
variable {X:Cx} {k:Nat}
theorem pe_sortLamT (L:LamAt X c P) (hr:Room (k+2) X.A) (hg:Gl X "sorted") (hm:X.mg "sorted" = none) (ha:PA X [e] t)
  (S:FnScope [x] [x] scope) (hcl:closureFor scope X.env=pure []) (hdef:defaultsOf params X.env=([],[]))
  (hb:∀ (nm ql:Str) (pm cd ct u:Value),bindArgs { name:=nm,qualname:=ql,params,body:=.expr body,scope,globals:=mainGlobals,closure:=[],defaults:=.none,kwdefaults:=.none,doc:=.none,pyModule:=pm,annotations:=none,code:=cd,closureTuple:=ct,builtins:=builtinsNs } ⟨[u],[]⟩=pure [(x,u)])
  (hbody:∀ (A:Around) (s:Shared) (H:Hp) (f:Addr) (cd:Value) (qual:Str),PE (qBy CX0 X.prog X.w X.K X.mg X.base [x] qual scope f cd A X.stack s H E0) body te)
  (hte:∀ (a:Addr) (t:List Str) (H:Hp) (Q:VK),SqL X.K H a (t.map V.str)->(∀ k,H k=none->Q (.ref k) (upd H k (.tup [.int t.length,.ref a])))->te [some (.ref a)] H Q)
  (he:backTo pos (starEach [e] X.env)=(false,eval e X.env) :: backTo pos (starEach [] X.env):=by rfl)
  (hplain:(backTo pos (starEach [e] X.env)).any (·.1)=false:=by rfl):PE X (.Call (.Name "sorted" p) [e] [⟨some "key",.Lambda params body scope lpos,kp⟩] pos) (tSortLamT X.K P lpos (X.env.qual++"<lambda>") t):=by
 intro pins s σ H Q I h;refine wpAny_Call_Name_kw (qEm I hg hm (by decide +kernel:bootBuiltins "sorted" = some (.builtin "sorted")) ?_ (by decide) (by decide));refine PyProof.Rows.callWith_kw (thn (ha pos pins s σ H _ I h) fun us s1 ⟨vs,H1,I1,r1,q1⟩=>?_) he hplain;obtain⟨l,ps,rfl,hq,hrow,hn,tw,q⟩:=q1;obtain⟨u,rfl,rx⟩:=qCs r1;cases rx;have hgs:s1.heap.Ns mainGlobals X.mg:=I1.ok.mod.glob.keeps I1.bk;obtain⟨bm,ob,b1,b2,b3,b4,b5,b6⟩:=L.bl;have rest:∀ (c':Addr) (ctv:Value) (h':Heap) (tk:Nat) (H2:Hp),Inv X pins σ H2 { s1 with heap:=h'.push (PySem.W.kla_obj "<lambda>" (X.env.qual++"<lambda>") params body scope [] ((X.mg "__name__").getD .none) c' ctv),toks:=tk }->H2 c'=some (codeO c' (X.env.qual++"<lambda>"))->H2 h'.objs.size=none->Aw X pins h'.objs.size->(∃ ps,H1 P=some (.tbl ps))->ExtB P H1 H2->TabW H2 P lpos (X.env.qual++"<lambda>")->(∀ r,H2 r=none->H1 r=none) ->
   wpAny (model X.prog X.w) X.A (call (.builtin "sorted") [.ref l] [(Str.ofString "key",.ref h'.objs.size)]) (EP X pins σ Q) X.xe { s1 with heap:=h'.push (PySem.W.kla_obj "<lambda>" (X.env.qual++"<lambda>") params body scope [] ((X.mg "__name__").getD .none) c' ctv),toks:=tk }:=by
  intro c' ctv h' tk H2 I2 hc' nF wF ⟨ps,hP⟩ eB tw2 back;have I3:Inv X ((h'.objs.size,PySem.W.kla_obj "<lambda>" (X.env.qual++"<lambda>") params body scope [] ((X.mg "__name__").getD .none) c' ctv) :: pins) σ H2
    { s1 with heap:=h'.push (PySem.W.kla_obj "<lambda>" (X.env.qual++"<lambda>") params body scope [] ((X.mg "__name__").getD .none) c' ctv),toks:=tk }:=I2.pins_of fun p hp=>by
   rcases hAh.mp hp with rfl | hp
   ·exact⟨Heap.get?_push_size _ rfl,nF,wF.loc,wF.fs,fun v z=>by cases z⟩
   ·exact I2.pin p (hA8 _ hp)
  refine wpAny_mono (sortKeyT_core (Q:=Q) I3 (sq_B hP eB hq) (fun p hp=>sq_B hP eB (hrow p hp)) hn (by have:=(Room.in1 (Room.in1 hr)).un;omega) (fun p hp pins' s' H' sub ex I'=>?_) (fun r ps' H3 nr ex e3 hp ho=>?_)) (fun v s' ⟨y,H',J,ry,qq⟩=>⟨y,H',J.unpin,ry,qq⟩) fun _ _ z=>z
  ·have ho:=(I'.pin _ (hA8 _ (sub _ (.head _)))).1;have hcr:s'.heap.CodeRec (.ref c') (X.env.qual++"<lambda>"):=(I'.hok c' _ (ex _ _ hc')).1;refine wpAny_call (codeAny_mono (run_lam (v:=.ref p.1) (t:=te) (Q:=fun v H2=>∃ k,v = .ref k/\H' k=none/\H2=upd H' k (.tup [.int p.2.length,.ref p.1])) (Room.in1 (Room.in1 hr)) I'.env0.in1.in1 ho hcr S (hb _ _ _ _ _ _) rfl (hbody _ _ _ _ _ _) (hte p.1 p.2 H' _ (sq_ext ex (sq_B hP eB (hrow p hp))) fun k nk=>⟨k,rfl,nk,rfl⟩)) fun r s'' hq=>?_);cases r with
   | error e=>exact False.elim hq
   | ok fl =>
    cases fl with
    | ret u=>exact I'.after hq
    | next=>exact False.elim hq
    | brk=>exact False.elim hq
    | cont=>exact False.elim hq
  ·exact q r ps' H3 (back r nr) (fun b o hb e=>ex b o (eB b o hb e)) e3 hp ho (tw2.ext ex)
 rcases tw with hP | ⟨c',hP,hc'⟩
 ·have hPh:s1.heap.get? P=some (PySem.W.tabObj #[]):=I1.hok P _ hP;have hgP:mainGlobals≠P:=fun z=>by
   obtain⟨o,es,ep,e1,hd,_⟩:=hgs;rw[z,hPh]at e1;cases e1;cases hd
  refine hDs (PySem.W.kla_eval hdef (PySem.W.kla_makeFunction (mg:=X.mg) hcl I1.ok.glob hgs L.code (L.hd.keeps I1.bk) hPh trivial rfl hgP ⟨bm,ob,b1,b2,b3,b4,I1.bk _ _ b5,b6⟩ fun c' ctv h' tk hx hge hlt hrec htb=>hDw ?_));have hsz:s1.heap.objs.size<=h'.objs.size:=hBd (hCy hge hlt);have I2:=I1.grown (more:=#[rawInt lpos.line,rawInt lpos.col,.ref c']) (tk:=tk) (h':=h'.push (PySem.W.kla_obj "<lambda>" (X.env.qual++"<lambda>") params body scope [] ((X.mg "__name__").getD .none) c' ctv)) hP (fun b o hb e=>Heap.get?_push_of_some _ (hx b o hb e)) (Heap.get?_push_of_some _ htb);have hPlt:P<s1.heap.objs.size:=Heap.lt_size hPh;have nC1:H1 c'=none:=I1.hok.fresh hge;have nC:upd H1 P (.tbl (#[]++#[rawInt lpos.line,rawInt lpos.col,.ref c'])) c'=none:=by
   rw[upd_ne (hCn (hAl hPlt hge))];exact nC1
  have wC:Aw X pins c':=I1.aw hge;have I3:=I2.adoptX wC nC (codeO_ok (hrec.keeps fun b o e=>Heap.get?_push_of_some _ e));have nF1:H1 h'.objs.size=none:=I1.hok.fresh hsz;refine rest c' ctv h' tk _ I3 upd_same ?_ (I1.aw hsz) ⟨_,hP⟩ (fun b o hb e=>?_) (.inr ⟨c',?_,upd_same⟩) fun r hr0=>?_
  ·rw[upd_ne (hCn hlt),upd_ne (hCn (hAl hPlt hsz))];exact nF1
  ·rw[upd_ne (qAe e nC1),upd_ne hb];exact e
  ·rw[upd_ne (hB0 (hAl hPlt hge)),upd_same];simp
  ·by_cases h1:r=c'
   ·rw[h1];exact nC1
   ·rw[upd_ne h1]at hr0;by_cases h2:r=P
    ·rw[h2,upd_same]at hr0;cases hr0
    ·rw[upd_ne h2]at hr0;exact hr0
 ·have hPh:s1.heap.get? P=some (PySem.W.tabObj #[rawInt lpos.line,rawInt lpos.col,.ref c']):=I1.hok P _ hP;refine hDs (PySem.W.kla_eval hdef (PySem.W.kla_makeFunctionHit (mg:=X.mg) hcl I1.ok.glob hgs L.code (L.hd.keeps I1.bk) hPh ?tri (among3 lpos _) ⟨bm,ob,b1,b2,b3,b4,I1.bk _ _ b5,b6⟩ fun ctv h' tk hk hsz=>hDw ?_))
  case tri=>trivial
  have I2:Inv X pins σ H1 { s1 with heap:=h'.push (PySem.W.kla_obj "<lambda>" (X.env.qual++"<lambda>") params body scope [] ((X.mg "__name__").getD .none) c' ctv),toks:=tk }:=I1.kept (t':=tk) fun b o e=>Heap.get?_push_of_some _ (hk b o e)
  exact rest c' ctv h' tk H1 I2 hc' (I1.hok.fresh hsz) (I1.aw hsz) ⟨_,hP⟩ (fun b o _ e=>e) (.inr ⟨c',hP,hc'⟩) fun r z=>z
end
end L2
namespace My
open PySem L2
noncomputable def sumF (N:List Nat):List Nat:=N.foldl (fun S x=>S++S.map fun z=>z^^^x) [0]
theorem qCc (N:List Nat) (x:Nat):sumF (N++[x])=sumF N++(sumF N).map fun z=>z^^^x:=by unfold sumF;rw[hBz];rfl
theorem spn_snocI {l:List Nat} {x z:Nat}:Spn (l++[x]) z↔Spn l z\/Spn l (z^^^x):=by
 constructor
 ·intro h
  induction h with
  | zero=>exact .inl .zero
  | add hm _ ih =>
   rename_i m y _;rcases hAb.mp hm with w | w
   ·rcases ih with i | i
    ·exact .inl (.add w i)
    ·refine .inr ?_;have:=Spn.add w i;rw[<-hD0]at this;exact this
   ·rw[hA4]at w;subst w;rcases ih with i | i
    ·refine .inr ?_;rw[Nat.xor_comm m y,qBc];exact i
    ·refine .inl ?_;rw[Nat.xor_comm m y];exact i
 ·have up:∀ {y},Spn l y->Spn (l++[x]) y:=fun hy=>hy.mono fun u hu=>.mem (hAg _ hu)
  rintro(h | h)
  ·exact up h
  ·have:=(up h).xor (Spn.mem (by simp:x∈l++[x]));rw[qBc]at this;exact this
theorem qD6 (N:List Nat):∀ z,z∈sumF N↔Spn N z:=by
 refine qEw (P:=fun N=>∀ z,z∈sumF N↔Spn N z) (fun z=>?_) (fun l x ih z=>?_) N
 ·constructor
  ·intro h;have:z=0:=by simpa [sumF] using h
   rw[this];exact .zero
  ·intro h;have:z=0:=by
    cases h with
    | zero=>rfl
    | add hm _=>cases hm
   rw[this];simp[sumF]
 ·rw[qCc,hAb,spn_snocI,ih,hA9];refine or_congr Iff.rfl ⟨fun ⟨y,hy,e⟩=>?_,fun h=>⟨z^^^x,(ih _).mpr h,qBc z x⟩⟩;rw[<-e,qBc];exact(ih y).mp hy
theorem qCu (N:List Nat):(sumF N).length=2^N.length:=by
 refine qEw (P:=fun N=>(sumF N).length=2^N.length) rfl (fun l x ih=>?_) N;rw[qCc,hA7,hA1,ih,hA7];show _=2^(l.length+1);rw[Nat.pow_succ];omega
theorem sum_rv (m:Nat) (N:List Nat):(sumF N).map (rv m)=sumF (N.map (rv m)):=by
 refine qEw (P:=fun N=>(sumF N).map (rv m)=sumF (N.map (rv m))) ?_ (fun l x ih=>?_) N
 ·show [rv m 0]=[0];rw[qDx]
 ·rw[qCc,hA3,hA3,hBf,List.map_nil,qCc,<-ih];congr 1;rw[hAo,hAo];refine hBs fun z _=>?_
  exact rv_xor m z x
abbrev RwO (F:List (List Str)):Prop:=F.Pairwise fun a b=>kLt b a=false
theorem rwo_uniq:∀ {F D:List (List Str)},RwO F->RwO D->F.Perm D->F=D
 | [],D,_,_,p=>(List.Perm.nil_eq p)
 | a :: F,[],_,_,p=>absurd p.symm.nil_eq (by simp)
 | a :: F,b :: D,hF,hD,p=>by
  have e:a=b:=by
   have ha:a∈b :: D:=p.mem_iff.mp hAe;have hb:b∈a :: F:=p.mem_iff.mpr hAe;rcases hAh.mp ha with h | h
   ·exact h
   ·rcases hAh.mp hb with h' | h'
    ·exact h'.symm
    ·have h1:=(hBr.mp hD).1 a h;have h2:=(hBr.mp hF).1 b h';rcases kLt_tri a b with q | q | q
     ·rw[h1]at q;cases q
     ·exact q
     ·rw[h2]at q;cases q
  subst e;rw[rwo_uniq (hBr.mp hF).2 (hBr.mp hD).2 p.cons_inv]
structure Kp (H H':Hp):Prop where
 k:∀ b o,(∀ ps,o≠.tbl ps)->H b=some o->H' b=some o
 n:∀ b,H' b=none->H b=none
theorem Kp.refl (H:Hp):Kp H H:=⟨fun _ _ _ h=>h,fun _ h=>h⟩
theorem Kp.trans {H H1 H2:Hp} (a:Kp H H1) (b:Kp H1 H2):Kp H H2:=⟨fun c o n h=>b.k c o n (a.k c o n h),fun c h=>a.n c (b.n c h)⟩
theorem Ext.kp {H H':Hp} (e:Ext H H'):Kp H H':=⟨fun b o _ h=>e b o h,fun b h=>e.none h⟩
theorem kp_B {P:Addr} {H H':Hp} {ps ps':Array Value} (e:ExtB P H H') (h:H P=some (.tbl ps)) (h':H' P=some (.tbl ps')):Kp H H':=by
 refine⟨fun b o n q=>e b o (fun z=>by rw[z,h]at q;cases q;exact n _ rfl) q,fun b q=>?_⟩;cases r:H b with
 | none=>rfl
 | some o =>
  have:=e b o (fun z=>by rw[z,h']at q;cases q) r;rw[q]at this;cases this
theorem Kp.over {H H':Hp} {p:Addr} (e:Kp H H') (h:H p=none) (o:HO):Kp H (upd H' p o):=⟨fun b u n q=>by rw[upd_ne (qAe q h)];exact e.k b u n q,fun b q=>by
 by_cases z:b=p
 ·rw[z];exact h
 ·rw[upd_ne z]at q;exact e.n b q⟩
theorem Kp.ls {H H':Hp} (e:Kp H H') {a:Addr} {r:List Str} (h:LsS H a r):LsS H' a r:=e.k _ _ (fun _ z=>by cases z) h
theorem Kp.lst {H H':Hp} (e:Kp H H') {a:Addr} {r:List V} (h:H a=some (.lst r)):H' a=some (.lst r):=e.k _ _ (fun _ z=>by cases z) h
theorem Kp.rows {H H':Hp} (e:Kp H H') {p:Addr} {F:List (List Str)} (h:qC4 H p F):qC4 H' p F:=by
 obtain⟨as,h1,h2⟩:=h;exact⟨as,e.lst h1,Paired.mapP h2 fun a r z=>e.ls z⟩
theorem Kp.tab {H H':Hp} (e:Kp H H') {T:Addr} {names:List Str} {rows:List (List Str)} (h:qC5 H T names rows):qC5 H' T names rows:=by
 obtain⟨a,b,h1,h2,h3⟩:=h;exact⟨a,b,e.k _ _ (fun _ z=>by cases z) h1,e.ls h2,e.rows h3⟩
end My
namespace My
open PySem L2
theorem add_dis:∀ (n a b:Nat),a<=n->a&&&b=0->a+b=a ||| b
 | 0,a,b,ha,_=>by
  have:a=0:=by omega
  subst this;simp
 | n+1,a,b,ha,h=>by
  by_cases z:a=0
  ·subst z;simp
  have h2:a / 2&&&b / 2=0:=by rw[<-Nat.and_div_two,h]
  have ih:=add_dis n (a / 2) (b / 2) (by omega) h2;have h0:(a&&&b).testBit 0=false:=by rw[h];exact hBq 0
  rw[hBg,hAx,hAx]at h0;have e0:(a ||| b).testBit 0=(decide (a % 2=1) || decide (b % 2=1)):=by rw[hCp,hAx,hAx]
  rw[hAx]at e0;have e1:(a ||| b) / 2=a / 2+b / 2:=by rw[Nat.or_div_two,ih]
  rw[show a+b=a ||| b↔a ||| b=a+b from eq_comm];generalize (a ||| b)=q at e0 e1 ⊢;have ma:a % 2=0\/a % 2=1:=by omega
  have mb:b % 2=0\/b % 2=1:=by omega
  rcases ma with ma | ma <;> rcases mb with mb | mb <;> rw[ma,mb]at h0 e0 <;> simp at h0 e0 <;> omega
theorem add_bit {a b:Nat} (h:a&&&b=0) (i:Nat):(a+b).testBit i=(a.testBit i || b.testBit i):=by
 rw[add_dis a a b (hA5 _) h,hCp]
abbrev Dis (hs:List Nat):Prop:=hs.Pairwise fun a b=>a&&&b=0
theorem sum_bit:∀ {hs:List Nat},Dis hs->∀ i,hs.sum.testBit i=true↔∃ h∈hs,h.testBit i=true
 | [],_,i=>by
  rw[List.sum_nil,hBq];exact⟨fun h=>(by cases h),fun ⟨_,h,_⟩=>(by cases h)⟩
 | a :: l,d,i=>by
  obtain⟨d1,d2⟩:=hBr.mp d;have ih:=sum_bit d2;have z:a&&&l.sum=0:=hAn fun j=>by
   rw[hBg,hBq];by_cases w:l.sum.testBit j=true
   ·obtain⟨h,hh,hb⟩:=(ih j).mp w;have:=congrArg (fun x=>Nat.testBit x j) (d1 h hh);simp only[hBg,hBq,hb,Bool.and_true]at this;rw[this];rfl
   ·rw[hCk]at w;rw[w,Bool.and_false]
  rw[List.sum_cons,add_bit z,hDc,ih i];constructor
  ·rintro(h | ⟨u,hu,h⟩)
   ·exact⟨a,hAe,h⟩
   ·exact⟨u,hAc _ hu,h⟩
  ·rintro⟨u,hu,h⟩;rcases hAh.mp hu with rfl | hu
   ·exact .inl h
   ·exact .inr ⟨u,hu,h⟩
noncomputable def blS (hs:List Nat) (n:Nat):List Nat:=(hs.filter fun h=>decide (h&&&n=0))++[(hs.filter fun h=>!decide (h&&&n=0)).sum]
structure BlI (m:Nat) (hs:List Nat):Prop where
 dis:Dis hs
 lt:∀ h∈hs,∀ i,h.testBit i=true->i<m
theorem qDf {a b:Nat} (h:∀ i,a.testBit i=true->b.testBit i=true->False):a&&&b=0:=hAn fun i=>by
 rw[hBg,hBq];cases ha:a.testBit i with
 | false=>rfl
 | true =>
  cases hb:b.testBit i with
  | false=>rfl
  | true=>exact(h i ha hb).elim
theorem qBk {a b:Nat} (h:a&&&b=0) {i:Nat} (ha:a.testBit i=true) (hb:b.testBit i=true):False:=by
 have:=congrArg (fun x=>Nat.testBit x i) h;simp only[hBg,ha,hb,hBq]at this;cases this
theorem dis_of:∀ {hs:List Nat},Dis hs->∀ {a c:Nat},a∈hs->c∈hs->a≠c->a&&&c=0
 | h :: hs,d,a,c,ha,hc,ne=>by
  obtain⟨d1,d2⟩:=hBr.mp d;rcases hAh.mp ha with z1 | z1
  ·rcases hAh.mp hc with z2 | z2
   ·exact(ne (z1.trans z2.symm)).elim
   ·rw[z1];exact d1 c z2
  ·rcases hAh.mp hc with z2 | z2
   ·rw[Nat.and_comm,z2];exact d1 a z1
   ·exact dis_of d2 z1 z2 ne
theorem BlI.step {m:Nat} {hs:List Nat} (I:BlI m hs) (n:Nat):BlI m (blS hs n):=by
 have df:Dis (hs.filter fun h=>!decide (h&&&n=0)):=I.dis.sublist hBb;have sb:=sum_bit df;refine⟨hB3.mpr ⟨I.dis.sublist hBb,hC5 _ _,fun a ha b hb=>?_⟩,fun h hh i hi=>?_⟩
 ·rw[hA4]at hb;subst hb;obtain⟨a1,a2⟩:=hAf.mp ha;refine qDf fun i h1 h2=>?_
  obtain⟨c,hc,hi⟩:=(sb i).mp h2;obtain⟨c1,c2⟩:=hAf.mp hc;have ne:a≠c:=fun z=>by
   subst z;rw[a2]at c2;cases c2
  have:=dis_of I.dis a1 c1 ne;exact qBk this h1 hi
 ·rcases hAb.mp hh with z | z
  ·exact I.lt h (hAf.mp z).1 i hi
  ·rw[hA4]at z;subst z;obtain⟨c,hc,hci⟩:=(sb i).mp hi;exact I.lt c (hAf.mp hc).1 i hci
theorem BlI.first (m:Nat):BlI m ((List.range m).map fun k=>2^k):=by
 refine⟨?_,fun h hh i hi=>?_⟩
 ·refine hAz.mpr ((hCg (n:=m)).imp fun {a b} ne=>qDf fun i h1 h2=>?_);rw[hB7,decide_eq_true_iff]at h1 h2;exact ne (h1.trans h2.symm)
 ·obtain⟨k,hk,rfl⟩:=hA9.mp hh;rw[hB7,decide_eq_true_iff]at hi;rw[hAt]at hk;omega
end My
namespace My
open PySem L2
structure Prt (m:Nat) (hs:List Nat):Prop where
 bl:BlI m hs
 cov:∀ i,i<m->∃ h∈hs,h.testBit i=true
 nz:∀ h∈hs,h≠0
def Inn (z k:Nat):Prop:=∀ i,z.testBit i=true->k.testBit i=true
theorem inn_of {z k:Nat} (h:z&&&k=z):Inn z k:=fun i hi=>by
 rw[<-h,hBg,hBo]at hi;exact hi.2
theorem qGn {z k:Nat} (h:Inn z k):z&&&k=z:=hAn fun i=>by
 rw[hBg];cases q:z.testBit i with
 | false=>rfl
 | true=>rw[h i q];rfl
theorem has_bit {z:Nat} (h:z≠0):∃ i,z.testBit i=true:=⟨z.log2,hCb h⟩
theorem qFs {a b:Nat} (h:¬a&&&b=0):∃ i,a.testBit i=true/\b.testBit i=true:=by
 obtain⟨i,hi⟩:=has_bit h;rw[hBg,hBo]at hi;exact⟨i,hi⟩
theorem not_meet {a b i:Nat} (ha:a.testBit i=true) (hb:b.testBit i=true):¬a&&&b=0:=fun z=>qBk z ha hb
theorem Prt.len {m:Nat}:∀ {hs:List Nat},Prt m hs->hs.length<=m:=fun {hs} p=>by
 have nd:(hs.map Nat.log2).Nodup:=by
  rw[List.Nodup,hAz];refine hC0 (fun {a b} ha hb d e=>?_) p.bl.dis;have h1:=hCb (p.nz a ha);have h2:=hCb (p.nz b hb);rw[e]at h1;exact qBk d h1 h2
 have:=len_lt nd (m:=m) fun x hx=>by
  obtain⟨h,hh,rfl⟩:=hA9.mp hx;exact p.bl.lt h hh _ (hCb (p.nz h hh))
 rw[hA1]at this;exact this
theorem Prt.first (m:Nat):Prt m ((List.range m).map fun k=>2^k):=by
 refine⟨BlI.first m,fun i hi=>⟨2^i,hA9.mpr ⟨i,hAt.mpr hi,rfl⟩,by rw[hB7,decide_eq_true rfl]⟩,fun h hh=>?_⟩;obtain⟨k,_,rfl⟩:=hA9.mp hh;exact hCn (hDj (by decide))
theorem mem_blS {hs:List Nat} {t h:Nat}:h∈blS hs t↔(h∈hs/\h&&&t=0)\/h=(hs.filter fun h=>!decide (h&&&t=0)).sum:=by
 unfold blS;rw[hAb,hAf,hA4,decide_eq_true_iff]
theorem qEj {m:Nat} {hs:List Nat} (p:Prt m hs) (t i:Nat):(hs.filter fun h=>!decide (h&&&t=0)).sum.testBit i=true↔∃ h∈hs,¬h&&&t=0/\h.testBit i=true:=by
 rw[sum_bit (p.bl.dis.sublist hBb)];constructor
 ·rintro⟨h,hh,hi⟩;obtain⟨h1,h2⟩:=hAf.mp hh;exact⟨h,h1,by simpa using h2,hi⟩
 ·rintro⟨h,h1,h2,hi⟩;exact⟨h,hAf.mpr ⟨h1,by simpa using h2⟩,hi⟩
theorem Prt.has {m:Nat} {hs:List Nat} (p:Prt m hs) {t:Nat} (lt:t<2^m):Inn t (hs.filter fun h=>!decide (h&&&t=0)).sum:=fun i hi=>by
 have il:i<m:=by
  by_cases q:i<m
  ·exact q
  ·rw[qCt lt (by omega)]at hi;cases hi
 obtain⟨h,hh,hb⟩:=p.cov i il;exact(qEj p t i).mpr ⟨h,hh,not_meet hb hi,hb⟩
theorem Prt.step {m:Nat} {hs:List Nat} (p:Prt m hs) {t:Nat} (lt:t<2^m) (nz:t≠0):Prt m (blS hs t):=by
 refine⟨p.bl.step t,fun i hi=>?_,fun h hh=>?_⟩
 ·obtain⟨h,hh,hb⟩:=p.cov i hi;by_cases e:h&&&t=0
  ·exact⟨h,mem_blS.mpr (.inl ⟨hh,e⟩),hb⟩
  ·exact⟨_,mem_blS.mpr (.inr rfl),(qEj p t i).mpr ⟨h,hh,e,hb⟩⟩
 ·rcases mem_blS.mp hh with ⟨h1,_⟩ | rfl
  ·exact p.nz h h1
  ·obtain⟨i,hi⟩:=has_bit nz;have:=p.has lt i hi;intro z;rw[z,hBq]at this;cases this
theorem Prt.grow {m:Nat} {hs:List Nat} (p:Prt m hs) (t:Nat) {h:Nat} (hh:h∈hs):∃ g∈blS hs t,Inn h g:=by
 by_cases e:h&&&t=0
 ·exact⟨h,mem_blS.mpr (.inl ⟨hh,e⟩),fun _ z=>z⟩
 ·exact⟨_,mem_blS.mpr (.inr rfl),fun i hi=>(qEj p t i).mpr ⟨h,hh,e,hi⟩⟩
theorem qDe {a b c:Nat} (h:Inn a b) (h':Inn b c):Inn a c:=fun i hi=>h' i (h i hi)
theorem prt_all {m:Nat}:∀ {L hs:List Nat},Prt m hs->(∀ t∈L,t<2^m/\t≠0)->Prt m (L.foldl blS hs)/\(∀ h∈hs,∃ g∈L.foldl blS hs,Inn h g)/\∀ t∈L,∃ g∈L.foldl blS hs,Inn t g
 | [],hs,p,_=>⟨p,fun h hh=>⟨h,hh,fun _ z=>z⟩,fun t ht=>(by cases ht)⟩
 | t :: L,hs,p,hL=>by
  obtain⟨lt,nz⟩:=hL t hAe;obtain⟨a,b,c⟩:=prt_all (L:=L) (hs:=blS hs t) (p.step lt nz) fun u hu=>hL u (hAc _ hu)
  refine⟨a,fun h hh=>?_,fun u hu=>?_⟩
  ·obtain⟨g,hg,i1⟩:=p.grow t hh;obtain⟨g2,hg2,i2⟩:=b g hg;exact⟨g2,hg2,qDe i1 i2⟩
  ·rcases hAh.mp hu with rfl | hu
   ·obtain⟨g2,hg2,i2⟩:=b _ (mem_blS.mpr (.inr rfl));exact⟨g2,hg2,qDe (p.has lt) i2⟩
   ·exact c u hu
theorem inn_rv {m a b:Nat} (h:Inn a b):Inn (rv m a) (rv m b):=fun i hi=>by
 rw[qBj,hBo]at hi ⊢;exact⟨hi.1,h _ hi.2⟩
def Lst (N:List Nat) (t:Nat):Prop:=Spn N t/\t≠0/\∀ o,Spn N o->o≠0->Inn o t->o=t
theorem rr_least {S:List Nat} (r:RR S) {s:Nat} (hs:s∈S):Lst S s:=by
 refine⟨.mem hs,r.nz s hs,fun o ho nz hi=>?_⟩;obtain⟨u,hu,e⟩:=spn_lead r ho nz;have b:=hi _ (hCb nz);have eu:u=s:=by
  by_cases q:u=s
  ·exact q
  ·have:=r.ne hs hu fun z=>q z.symm
   rw[e,b]at this;cases this
 subst eu;have z:o^^^u=0:=by
  refine spn_zero r (ho.xor (.mem hs)) fun T hT=>?_
  rw[hB2];by_cases q:T=u
  ·subst q;rw[r.self hT,e,hCb nz];rfl
  ·have h1:=r.ne hs hT fun z=>q z.symm
   rw[h1];cases h2:o.testBit T.log2 with
   | false=>rfl
   | true=>rw[hi _ h2]at h1;cases h1
 have:=congrArg (fun x=>x^^^u) z;simp only[qBc,Nat.zero_xor]at this;exact this
end My
namespace My
open PySem L2
theorem sumF_nd (S:List Nat):RR S->(sumF S).Nodup:=by
 refine qEw (P:=fun S=>RR S->(sumF S).Nodup) (fun _=>by show [0].Nodup;simp) (fun l x ih r=>?_) S;have rl:RR l:=⟨fun s hs=>r.nz s (hAg _ hs),r.ap.sublist (hDf l [x])⟩;have hx:x∈l++[x]:=hA8 _ (hA4.mpr rfl);have hap:=hB3.mp r.ap;have bit:∀ s∈l,s.testBit x.log2=false:=fun s hs=>(hap.2.2 s hs x (hA4.mpr rfl)).2
 have sb:∀ z∈sumF l,z.testBit x.log2=false:=fun z hz=>spn_bit bit ((qD6 l z).mp hz)
 rw[qCc,List.nodup_append];refine⟨ih rl,?_,fun a ha b hb e=>?_⟩
 ·refine hAz.mpr ((ih rl).imp fun {a b} ne e=>ne ?_);have:=congrArg (fun z=>z^^^x) e;simp only[qBc]at this;exact this
 ·obtain⟨c,hc,rfl⟩:=hA9.mp hb;have h1:=sb a ha;rw[e,hB2,sb c hc,r.self hx]at h1;cases h1
theorem nd_of_map {f:Nat->Nat} {l:List Nat} (h:(l.map f).Nodup):l.Nodup:=by
 rw[List.Nodup,hAz]at h;exact h.imp fun {a b} ne e=>ne (by rw[e])
theorem TabOk.spnS {names:List Str} {rows:List (List Str)} (h:TabOk names rows) {S:List Nat} (pS:S.Perm (red (rows.map (qAt names)))) (z:Nat):Spn S z↔z<2^names.length/\Spn (numL names rows) (rv names.length z):=by
 obtain⟨g,e⟩:=h.num;rw[<-spn_rv fun x hx=>(g x hx).1,e];exact⟨fun a=>a.mono fun u hu=>.mem (pS.mem_iff.mp hu),fun a=>a.mono fun u hu=>.mem (pS.mem_iff.mpr hu)⟩
noncomputable def rmOk (told:List Nat) (m:Nat):Bool:=!decide (m=0) && !(told.any fun o=>decide (o&&&m=o))
noncomputable def rmS (told:List Nat) (m:Nat):List Nat:=if rmOk told m=true then told++[m] else told
noncomputable def rmF (L:List Nat):List Nat:=L.foldl rmS []
theorem qD9 (L:List Nat) (m:Nat):rmF (L++[m])=rmS (rmF L) m:=by unfold rmF;rw[hBz];rfl
theorem rmF_mem (L:List Nat):∀ z∈rmF L,z∈L/\z≠0:=by
 refine qEw (P:=fun L=>∀ z∈rmF L,z∈L/\z≠0) (fun z hz=>by cases hz) (fun l m ih z hz=>?_) L;rw[qD9]at hz;unfold rmS at hz;split at hz
 ·rename_i c;rcases hAb.mp hz with h | h
  ·exact⟨hAg _ (ih z h).1,(ih z h).2⟩
  ·rw[hA4.mp h];refine⟨by simp,fun e=>?_⟩;unfold rmOk at c;rw[e]at c;simp at c
 ·exact⟨hAg _ (ih z hz).1,(ih z hz).2⟩
theorem rmF_len (L:List Nat):(rmF L).length<=L.length:=by
 refine qEw (P:=fun L=>(rmF L).length<=L.length) (hA5 _) (fun l m ih=>?_) L;rw[qD9];unfold rmS;split
 ·rw[hA7,hA7];exact Nat.add_le_add_right ih 1
 ·rw[hA7];omega
theorem inn_le {a b:Nat} (h:Inn a b):a<=b:=by
 have:=qGn h;rw[<-this];exact Nat.and_le_right
theorem rmF_sub (L:List Nat):(rmF L).Sublist L:=by
 refine qEw (P:=fun L=>(rmF L).Sublist L) (hDg _) (fun l m ih=>?_) L;rw[qD9];unfold rmS;split
 ·exact ih.append (hDg _)
 ·exact ih.trans (hDf _ _)
theorem least_ex (P:List Nat):∀ (n y:Nat),y<n->y∈P->y≠0->∃ z∈P,z≠0/\Inn z y/\∀ w∈P,w≠0->Inn w z->w=z
 | 0,y,h,_,_=>absurd h (hCs _)
 | n+1,y,h,hy,nz=>by
  by_cases c:∀ w∈P,w≠0->Inn w y->w=y
  ·exact⟨y,hy,nz,fun _ z=>z,c⟩
  ·obtain⟨w,hw⟩:=Classical.not_forall.mp c;have hw:w∈P/\w≠0/\Inn w y/\w≠y:=by
    by_cases a:w∈P
    ·by_cases b:w≠0
     ·by_cases d:Inn w y
      ·exact⟨a,b,d,fun e=>hw fun _ _ _=>e⟩
      ·exact absurd (fun _ _ q=>absurd q d) hw
     ·exact absurd (fun _ q _=>absurd q b) hw
    ·exact absurd (fun q _ _=>absurd q a) hw
   have lt:w<y:=Nat.lt_of_le_of_ne (inn_le hw.2.2.1) hw.2.2.2;obtain⟨z,z1,z2,z3,z4⟩:=least_ex P n w (by omega) hw.1 hw.2.1;exact⟨z,z1,z2,qDe z3 hw.2.2.1,z4⟩
theorem mem_rmF (L:List Nat):L.Pairwise (· < ·)->∀ z,z∈rmF L↔z∈L/\z≠0/\∀ y∈L,y≠0->Inn y z->y=z:=by
 refine qEw (P:=fun L=>L.Pairwise (· < ·)->∀ z,z∈rmF L↔z∈L/\z≠0/\∀ y∈L,y≠0->Inn y z->y=z) (fun _ z=>⟨fun h=>(by cases h),fun h=>(by cases h.1)⟩) (fun l m ih hp z=>?_) L;obtain⟨p1,_,p3⟩:=hB3.mp hp;have below:∀ y∈l,y<m:=fun y hy=>p3 y hy m (hA4.mpr rfl)
 have ih:=ih p1;have any:(rmF l).any (fun o=>decide (o&&&m=o))=true↔∃ o∈rmF l,Inn o m:=by
  rw[List.any_eq_true];exact⟨fun ⟨o,h1,h2⟩=>⟨o,h1,inn_of (of_decide_eq_true h2)⟩,fun ⟨o,h1,h2⟩=>⟨o,h1,decide_eq_true (qGn h2)⟩⟩
 have ok:rmOk (rmF l) m=true↔m≠0/\¬∃ o∈rmF l,Inn o m:=by
  unfold rmOk;rw[hBo,<-any];simp
 have hS:z∈rmS (rmF l) m↔z∈rmF l\/(z=m/\rmOk (rmF l) m=true):=by
  unfold rmS;split
  ·rename_i c;rw[hAb,hA4];exact⟨fun h=>h.imp id fun e=>⟨e,c⟩,fun h=>h.imp id fun e=>e.1⟩
  ·rename_i c;exact⟨fun h=>.inl h,fun h=>h.elim id fun e=>absurd e.2 c⟩
 rw[qD9,hS,ok];constructor
 ·rintro(h | ⟨rfl,h1,h2⟩)
  ·obtain⟨a,b,c⟩:=(ih z).mp h;refine⟨hAg _ a,b,fun y hy nz hi=>?_⟩;rcases hAb.mp hy with q | q
   ·exact c y q nz hi
   ·rw[hA4.mp q]at hi;have:=inn_le hi;have:=below z a;omega
  ·refine⟨by simp,h1,fun y hy nz hi=>?_⟩;rcases hAb.mp hy with q | q
   ·obtain⟨w,w1,w2,w3,w4⟩:=least_ex l (y+1) y (by omega) q nz;exact absurd ⟨w,(ih w).mpr ⟨w1,w2,w4⟩,qDe w3 hi⟩ h2
   ·exact hA4.mp q
 ·rintro⟨a,b,c⟩;rcases hAb.mp a with q | q
  ·exact .inl ((ih z).mpr ⟨q,b,fun y hy=>c y (hAg _ hy)⟩)
  ·have e:=hA4.mp q;subst e;refine .inr ⟨rfl,b,?_⟩;rintro⟨o,h1,h2⟩;obtain⟨o1,o2,_⟩:=(ih o).mp h1;have:=c o (hAg _ o1) o2 h2;have:=below o o1;omega
end My
namespace My
open PySem L2
def spSums:Sp:=fun vs H Q _=>∃ (p:Addr) (N:List Nat),vs=[.ref p]/\LsN H p N/\N.length<=12/\∀ r H',Ext H H'->H r=none->LsN H' r (sumF N)->Q (.ref r) H'
noncomputable def lpI:Pos:=match (qAl qE8).getD 0 (.Pass ⟨0,0,0,0⟩) with
 | .Return (some (.Call _ _ [⟨_,.Lambda _ _ _ p,_⟩] _)) _=>p
 | _=>⟨0,0,0,0⟩
noncomputable abbrev qI:Str:=("in_order" : Str)++".<locals>."++"<lambda>"
theorem Ext.toB {P:Addr} {H H':Hp} (e:Ext H H'):ExtB P H H':=fun b o _ h=>e b o h
theorem _root_.L2.ExtB.trans {P:Addr} {H H1 H2:Hp} (a:ExtB P H H1) (b:ExtB P H1 H2):ExtB P H H2:=fun c o n h=>b c o n (a c o n h)
theorem TabW.extE {H H':Hp} {P:Addr} {lpos:Pos} {q:Str} (h:TabW H P lpos q) (e:Ext H H'):TabW H' P lpos q:=h.ext e
theorem TabW.tb {H:Hp} {P:Addr} {lpos:Pos} {q:Str} (h:TabW H P lpos q):∃ ps,H P=some (.tbl ps):=by
 rcases h with h | ⟨c,h,_⟩
 ·exact⟨_,h⟩
 ·exact⟨_,h⟩
theorem TabW.put {H:Hp} {P x:Addr} {lpos:Pos} {q:Str} {xs:List V} (h:TabW H P lpos q) (hx:H x=some (.lst xs)) (o:HO):TabW (upd H x o) P lpos q:=by
 rcases h with h | ⟨c,h1,h2⟩
 ·exact .inl (by rw[upd_ne (fun z=>by rw[<-z,h]at hx;cases hx)];exact h)
 ·exact .inr ⟨c,by rw[upd_ne (fun z=>by rw[<-z,h1]at hx;cases hx)];exact h1,by rw[upd_ne (fun z=>by rw[<-z,h2]at hx;cases hx)];exact h2⟩
def spInOrd (Pt:Addr):Sp:=fun vs H Q _=>∃ (p:Addr) (as:List Addr) (F:List (List Str)),vs=[.ref p]/\H p=some (.lst (as.map V.ref))/\Paired (LsS H) as F/\F.length<=5000/\TabW H Pt lpI qI/\∀ (r:Addr) (as':List Addr) (F':List (List Str)) (H':Hp),ExtB Pt H H'->H r=none->H' r=some (.lst (as'.map V.ref))->Paired (LsS H') as' F'->as'.Perm as->F'.Perm F->RwO F'->TabW H' Pt lpI qI->Q (.ref r) H'
def rLenS (K:PySem.W.Frag):List V->Hp->VK->Prop:=fun xs H Q=>∃ p ys,xs=[.ref p]/\(SqL K H p ys\/SqT K H p ys)/\Q (.int ys.length) H
theorem lam_te (K:PySem.W.Frag) (a:Addr) (t:List Str) (H:Hp) (Q:VK) (hs:SqL K H a (t.map V.str)) (q:∀ k,H k=none->Q (.ref k) (upd H k (.tup [.int t.length,.ref a]))):(tTup (qCb (tCB (rLenS K) (qCb (tVar 0) tNil)) (qCb (tVar 0) tNil))) [some (.ref a)] H Q:=by
 refine⟨_,rfl,a,_,rfl,.inl hs,_,rfl,(by show 2<=sizeLine;decide),fun k hk=>?_⟩;rw[hA1];exact q k hk
theorem qEy {α β:Type} {R:α->β->Prop}:∀ {l:List (α×β)},(∀ x∈l,R x.1 x.2)->Paired R (l.map Prod.fst) (l.map Prod.snd)
 | [],_=>.nil
 | x :: l,h=>.cons (h x hAe) (qEy fun y hy=>h y (hAc _ hy))
theorem rr_len {M:List Nat} {m:Nat} (h:RR M) (lt:∀ x∈M,x<2^m):M.length<=m:=by
 have:=len_lt (ld_nd h) (m:=m) fun x hx=>by
  obtain⟨s,hs,rfl⟩:=hA9.mp hx;exact(Nat.log2_lt (h.nz s hs)).mpr (lt s hs)
 rw[hA1]at this;exact this
theorem masks_lt {names:List Str} (rows:List (List Str)):∀ x∈rows.map (qAt names),x<2^names.length:=fun x hx=>by
 obtain⟨r,_,rfl⟩:=hA9.mp hx;exact qEi names r
theorem step_rr {names:List Str} {rows:List (List Str)} {M:List Nat} (p:M.Perm (red (rows.map (qAt names)))):RR M/\(∀ x∈M,x<2^names.length)/\M.length<=names.length:=by
 have rr:RR M:=(qC1 _).perm p;have lt:∀ x∈M,x<2^names.length:=fun x hx=>qF9 (masks_lt rows) x (p.mem_iff.mp hx)
 exact⟨rr,lt,rr_len rr lt⟩
theorem nat_ints {ns:List Int} {ms:List Nat} (p:ns.Perm (ms.map fun n:Nat=>(n:Int))):∃ hs:List Nat,ns=hs.map (fun n:Nat=>(n:Int))/\hs.Perm ms:=by
 refine⟨ns.map Int.toNat,?_,?_⟩
 ·rw[hAo];refine(hE5 ns).symm.trans (hBs fun x hx=>?_);obtain⟨n,_,rfl⟩:=hA9.mp (p.mem_iff.mp hx);rfl
 ·have:=p.map Int.toNat;rw[hAo]at this;refine this.trans (List.Perm.of_eq ?_);exact(hBs fun x _=>(hB4 x)).trans (hE5 ms)
theorem Ext.over' {H H':Hp} {p:Addr} {o:HO} (e:Ext (upd H p o) H') (h:H p=Option.none):Ext H H':=fun b u q=>e b u (by rw[upd_ne (qAe q h)];exact q)
def spRMas:Sp:=fun vs H Q _=>∃ (p:Addr) (ms:List Nat),vs=[.ref p]/\LsN H p ms/\ms.length<=12/\∀ (r:Addr) (L:List Nat) (H':Hp),Ext H H'->H r=none->L.Perm (sumF ms)->L.Pairwise (·<=·)->LsN H' r (rmF L)->Q (.ref r) H'
def spRounds (Pt:Addr):Sp:=fun vs H Q _=>∃ (T:Addr) (names:List Str) (rows:List (List Str)),vs=[.ref T]/\qC5 H T names rows/\names.length<=12/\rows.length<=24/\TabW H Pt lpI qI/\∀ (r:Addr) (as:List Addr) (F:List (List Str)) (M L:List Nat) (H':Hp),ExtB Pt H H'->H r=none->H' r=some (.lst (as.map V.ref))->Paired (LsS H') as F->as.Nodup->(∀ a∈as,H a=none)->M.Perm (red (rows.map (qAt names)))->L.Perm (sumF M)->L.Pairwise (·<=·)->F.Perm ((rmF L).map (rowM names))->RwO F->TabW H' Pt lpI qI->Q (.ref r) H'
def spWalls (Pt:Addr):Sp:=fun vs H Q _=>∃ (T:Addr) (names:List Str) (rows:List (List Str)),vs=[.ref T]/\qC5 H T names rows/\names.length<=12/\rows.length<=24/\TabW H Pt lpI qI/\∀ (r:Addr) (as:List Addr) (F:List (List Str)) (S C M L:List Nat) (H':Hp),ExtB Pt H H'->H r=none->H' r=some (.lst (as.map V.ref))->Paired (LsS H') as F->as.Nodup->(∀ a∈as,H a=none)->S.Perm (red (rows.map (qAt names)))->C.Perm (red (crAll S names.length))->M.Perm (red ((C.map (rowM names)).map (qAt names)))->L.Perm (sumF M)->L.Pairwise (·<=·)->F.Perm ((rmF L).map (rowM names))->RwO F->TabW H' Pt lpI qI->Q (.ref r) H'
section
variable {P:Program} {w:World} {K:PySem.W.Frag} {mg:Str->Option Value} {base:Heap} {f f1 f2 f3 f4 f5 c Pt:Addr} {fd fd1 fd2 fd3 fd4 fd5:FuncData}
noncomputable abbrev suN:List Str:=["masks","told","mask"]
theorem scSums:FnScope suN ["masks"] (qAb sSums):=⟨rfl,rfl,rfl,by decide +kernel,rfl,by decide +kernel,by decide +kernel⟩
theorem ok_sums (F:Fun K "sums" "sums" sSums f fd):FnOk P w K mg base CX0 1 f fd ["masks"] spSums:=by
 refine F.ok scSums (fun vs H Q E h=>?_) (fun cdv A outer s H vs Q E hr h=>?_)
 ·obtain⟨p,N,rfl,_⟩:=h;rfl
 obtain⟨p,N,rfl,hN,lN,q⟩:=h;refine⟨_,qAa (qAg (i:=1) scSums.nd rfl (Or.inl rfl) (pe_lst (pa_cons qAc pa_nil))) (qAa (qAz PassesOwn.never rfl (qAn (pv 0)) (qAd (i:=2) scSums.nd rfl (Or.inr rfl)) (pss_one (qAg (i:=1) scSums.nd rfl (Or.inl rfl) (qAh qCf (pv 1) (qBo (N:=suN) (sc:=qAb sSums) (N':=["one","mask"]) (sub:=[none,some 2]) rfl rfl (CmpOk.of (by decide +kernel)) rfl (qAn (pv 1)) (fun C s H fp=>⟨qAd (i:=0) (by show(["one","mask"]:List Str).Nodup;decide) rfl (Or.inl rfl),qAy,(qAh qC2 (pv 0) (pv 1))⟩)))))) (pss_one (ps_ret (pv 1)))),?_⟩;try dsimp only[Cx.wish,qBy]
 refine⟨(by show 1<=sizeLine;decide),fun s0 hs0=>?_⟩;have X3:=Ext.new hs0 (.lst [V.int 0]);refine⟨_,rfl,p,rfl,⟨_,SqL.of (X3 _ _ hN)⟩,?_⟩;refine qA2 (xs:=N.map iV) (fun i σ H'=>∃ (ps:Addr) (x2:Option V),σ=[some (.ref p),some (.ref ps),x2]/\Ext H H'/\H ps=none/\LsN H' ps (sumF (N.take i))) ⟨s0,none,rfl,X3,hs0,upd_same⟩ (fun i σ H' _ h=>by obtain⟨_,_,_,e,_⟩:=h;exact SqL.of (e _ _ hN)) ?_ ?_
 ·rintro i v σ H' hx ⟨ps,x2,rfl,e,ps0,hps⟩;obtain⟨y,rfl,hy⟩:=qA1 hx;have hi:=at_lt hy;have lS:(sumF (N.take i)).length<=2048:=by
   rw[qCu,hAi];exact hAr (hB9 (by decide) (show min i N.length<=11 by omega)) (by decide)
  refine⟨_,rfl,_,rfl,ps,rfl,⟨_,SqL.of hps⟩,?_⟩;refine qAs (xs:=(sumF (N.take i)).map iV) (fun j ys H2=>H2=H'/\ys=(((sumF (N.take i)).take j).map fun z=>z^^^y).map iV) ⟨rfl,rfl⟩ (fun j ys H2 _ h=>by rw[h.1];exact SqL.of hps) ?_ ?_
  ·rintro j v ys H3 hx3 ⟨rfl,rfl⟩;obtain⟨z,rfl,hz⟩:=qA1 hx3;have hj:=at_lt hz;refine⟨Sle.set _ (Sle.refl _) (fun u z=>by cases z),iteT (B:=False) ⟨_,rfl,_,rfl,_,_,rfl,rfl,?_⟩⟩;refine⟨by rw[hA1,hA1,hAi];exact qA3 (by omega),nxt (at_lt hx3) ⟨rfl,?_⟩⟩;rw[qAm hz,hA3,hA3];show _++[V.int (Builtin.bitXor (z:Int) (y:Int))]=_;rw[qBm];rfl
  ·rintro ys H3 ⟨rfl,rfl⟩ l hl;rw[hA1,hA6 (hA5 _)];have Xl:=Ext.new hl (.lst (((sumF (N.take i)).map fun z=>z^^^y).map iV));refine⟨ps,l,_,_,rfl,rfl,Xl _ _ hps,upd_same,by rw[hA1,hA1,hA1];exact hBd (qA3 (by omega)),fun l3 hl3=>?_⟩;have X4:=Ext.new hl3 (.lst ((sumF (N.take i)).map iV++((sumF (N.take i)).map fun z=>z^^^y).map iV));refine⟨l3,_,rfl,(e.trans Xl).trans X4,(e.trans Xl).none hl3,?_⟩;unfold LsN;rw[upd_same,qAm hy,qCc,hA3]
 rintro σ H3 ⟨ps,x2,rfl,e3,ps0,hps⟩;rw[hA1,hA6 (hA5 _)]at hps;exact⟨_,rfl,q ps H3 e3 ps0 hps⟩
theorem scInOrd:FnScope ["rows"] ["rows"] (qAb qE8):=⟨rfl,rfl,rfl,by decide +kernel,rfl,by decide +kernel,by decide +kernel⟩
theorem ok_inOrd (F:Fun K "in_order" "in_order" qE8 f fd) (hcode:fd.code = .ref c) (hC:PySem.W.CodeHd base c Pt) (hB:base.BuiltinsAt mg Pt) (ml:mg "len" = none) (mso:mg "sorted" = none):FnOk P w K mg base CX0 3 f fd ["rows"] (spInOrd Pt):=by
 refine F.okC scInOrd (fun vs H Q E h=>?_) (fun A outer s H vs Q E hr2 h=>?_)
 ·obtain⟨p,as,F,rfl,_⟩:=h;rfl
 obtain⟨p,as,F,rfl,hp,pr,lF,tw,q⟩:=h;have L:LamAt ((qBy CX0 P w K mg base ["rows"] "in_order" (qAb qE8) f fd.code A outer s H E).nox) c Pt:=⟨hcode,hC,hB⟩;refine⟨_,pss_one (ps_ret (pe_sortLamT (k:=0) (x:="row") (te:=(tTup (qCb (tCB (rLenS K) (qCb (tVar 0) tNil)) (qCb (tVar 0) tNil)))) L hr2 rfl mso (pa_cons (pv 0) pa_nil) ⟨rfl,rfl,rfl,by decide +kernel,rfl,by decide +kernel,by decide +kernel⟩ rfl rfl (fun _ _ _ _ _ _=>rfl) (fun _ _ _ _ _ _=>(show PE _ _ (tTup (qCb (tCB (rLenS K) (qCb (tVar 0) tNil)) (qCb (tVar 0) tNil))) from (qCe (pa_cons (qAj (show qB9 _ (.builtin "len") (rLenS K) from qAi) rfl ml hAw (pa_cons (pv 0) pa_nil)) (pa_cons (pv 0) pa_nil))))) (lam_te K))),?_⟩;try dsimp only[Cx.wish,qBy]
 have la:as.length=F.length:=pr.length;have e1:(as.zip F).map (fun p=>V.ref p.1)=as.map V.ref:=by
  have:(as.zip F).map Prod.fst=as:=List.map_fst_zip (by omega);rw[show(fun p:Addr×List Str=>V.ref p.1)=V.ref∘Prod.fst from rfl,<-hAo,this]
 obtain⟨tb,hP⟩:=My.TabW.tb tw;refine⟨_,rfl,p,as.zip F,rfl,SqL.of (by rw[e1];exact hp),fun x hx=>SqL.of (qCo pr x hx),by rw[List.length_zip];omega,tw,fun r ps' H2 r0 eB hr' pm so tw2=>?_⟩;have mem:∀ x∈ps',LsS H2 x.1 x.2:=fun x hx=>by
  have h1:LsS H x.1 x.2:=qCo pr x (pm.mem_iff.mp hx);exact eB _ _ (fun z=>by rw[z]at h1;unfold LsS at h1;rw[hP]at h1;cases h1) h1
 refine q r (ps'.map Prod.fst) (ps'.map Prod.snd) H2 eB r0 (by rw[hAo];exact hr') (qEy mem) ?_ ?_ (hAz.mpr so) tw2
 ·have:=pm.map Prod.fst;rw[List.map_fst_zip (by omega)]at this;exact this
 ·have:=pm.map Prod.snd;rw[hCu (by omega)]at this;exact this
noncomputable abbrev rmN:List Str:=["steps","told","mask"]
theorem scRMas:FnScope rmN ["steps"] (qAb sRMas):=⟨rfl,rfl,rfl,by decide +kernel,rfl,by decide +kernel,by decide +kernel⟩
theorem ok_rmas (F:Fun K "round_masks" "round_masks" sRMas f fd)
  (G1:Cl P w K mg base CX0 1 f1 fd1 ["masks"] spSums "sums")
  (mso:mg "sorted" = none) (man:mg "any" = none):FnOk P w K mg base CX0 2 f fd ["steps"] spRMas:=by
 refine F.ok scRMas (fun vs H Q E h=>?_) (fun cdv A outer s H vs Q E hr1 h=>?_)
 ·obtain⟨p,ms,rfl,_⟩:=h;rfl
 obtain⟨p,ms,rfl,hm,lm,q⟩:=h;refine⟨_,qAa (qAg (i:=1) scRMas.nd rfl (Or.inl rfl) (pe_lst pa_nil)) (qAa (qAz PassesOwn.never rfl (qAn (qAj call_sortedN rfl mso qCh (pa_cons (qAp G1 hr1 rfl .nil qAo (pa_cons (pv 0) pa_nil)) pa_nil))) (qAd (i:=2) scRMas.nd rfl (Or.inr rfl)) (pss_one (qBf (PW.pt (qDq (qAk qDz (pv 2) qAc (qAq _)) (qCl (qG6 (qE9 (qAj (call_anyB rfl) rfl man boot_any' (pa_cons (qBo (N:=rmN) (sc:=qAb sRMas) (N':=["one","mask"]) (sub:=[none,some 2]) rfl rfl (CmpOk.of (by decide +kernel)) rfl (qAn (pv 1)) (fun C s H fp=>⟨qAd (i:=0) (by show(["one","mask"]:List Str).Nodup;decide) rfl (Or.inl rfl),qAy,(qDa qBl (qAh qBg (pv 0) (pv 1)) (pv 0) (qAq _))⟩)) pa_nil))))))) (pss_one (ps_expr (pe_bm hAq hB5 hB6 mt_append (pv 1) (pa_cons (pv 2) pa_nil)))) qAu))) (pss_one (ps_ret (pv 1)))),?_⟩;try dsimp only[Cx.wish,qBy]
 refine⟨hAp _,fun tl htl=>?_⟩;have X0:=Ext.new htl (.lst []);refine⟨_,rfl,p,ms,rfl,X0 _ _ hm,lm,fun sp H1 e1 _ hs1=>?_⟩;have lS:(sumF ms).length<=4096:=by
  rw[qCu];exact hAr (hB9 (by decide) lm) (by decide)
 refine⟨sp,(sumF ms).map (fun n:Nat=>(n:Int)),rfl,SqL.of (by rw[<-qB4];exact hs1),by rw[hA1];omega,fun rl ns' hrl pm so=>?_⟩;obtain⟨L,rfl,pL⟩:=nat_ints pm;have so':L.Pairwise (·<=·):=(hAz.mp so).imp fun {a b} z=>Int.ofNat_le.mp z
 have lL:L.length<=4096:=by rw[pL.length_eq];exact lS
 have X2:=Ext.new hrl (.lst ((L.map fun n:Nat=>(n:Int)).map V.int));have hr2:LsN (upd H1 rl (.lst ((L.map fun n:Nat=>(n:Int)).map V.int))) rl L:=by unfold LsN;rw[upd_same,qB4]
 have ht2:LsN (upd H1 rl (.lst ((L.map fun n:Nat=>(n:Int)).map V.int))) tl []:=X2 _ _ (e1 _ _ upd_same);have E2:=(e1.trans X2).over' htl;revert hr2 ht2 E2;generalize upd H1 rl (.lst ((L.map fun n:Nat=>(n:Int)).map V.int))=H2;intro hr2 ht2 E2;have tr:tl≠rl:=fun z=>by
  have h1:=e1 _ _ (show upd H tl (.lst []) tl=some (.lst []) from upd_same);rw[z,hrl]at h1;cases h1
 refine⟨rl,rfl,⟨_,SqL.of hr2⟩,?_⟩;refine qA2 (xs:=L.map iV) (fun i σ H'=>∃ x2:Option V,σ=[some (.ref p),some (.ref tl),x2]/\Ext H H'/\LsN H' rl L/\LsN H' tl (rmF (L.take i))) ⟨none,rfl,E2,hr2,ht2⟩ (fun i σ H' _ h=>by obtain⟨_,_,_,h,_⟩:=h;exact SqL.of h) ?_ ?_
 ·rintro i v σ H' hx ⟨x2,rfl,e,hr',ht'⟩;obtain⟨m,rfl,hmi⟩:=qA1 hx;have hi:=at_lt hmi;have sz:(rmF (L.take i)).length<=4096:=by
   have:=rmF_len (L.take i);rw[hAi]at this;omega
  rw[qAm hmi,qD9];have nz:(!decide (V.int (m:Int)=V.int 0))=!decide (m=0):=by
   congr 1;exact decide_eq_decide.mpr ⟨fun h=>by have:=V.int.inj h;omega,fun h=>by rw[h];rfl⟩
  refine⟨_,rfl,rfl,_,rfl,?_⟩;rw[nz];cases m0:decide (m=0) with
  | true =>
   have:rmS (rmF (L.take i)) m=rmF (L.take i):=by
    unfold rmS rmOk;rw[m0];rfl
   rw[this];rw[if_neg (by decide)];exact iteF ⟨_,rfl,e,hr',ht'⟩
  | false =>
   rw[if_pos (by decide)];refine⟨_,rfl,tl,rfl,⟨_,SqL.of ht'⟩,?_⟩;refine qAs (xs:=(rmF (L.take i)).map iV) (fun j ys H3=>H3=H'/\ys=(((rmF (L.take i)).take j).map fun o=>decide (o&&&m=o)).map V.bl) ⟨rfl,rfl⟩ (fun j ys H3 _ h=>by rw[h.1];exact SqL.of ht') ?_ ?_
   ·rintro j v ys H3 hx3 ⟨rfl,rfl⟩;obtain⟨o,rfl,ho⟩:=qA1 hx3;have hj:=at_lt ho;refine⟨Sle.set _ (Sle.refl _) (fun u z=>by cases z),iteT (B:=False) ⟨_,rfl,_,rfl,_,_,rfl,rfl,_,rfl,rfl,?_⟩⟩;refine⟨by rw[hA1,hA1,hAi];exact qA3 (by omega),nxt (at_lt hx3) ⟨rfl,?_⟩⟩;rw[qAm ho,hA3,hA3];show _++[V.bl (decide (V.int (Builtin.bitAnd (o:Int) (m:Int))=V.int (o:Int)))]=_;have eo:decide (V.int ((o&&&m:Nat):Int)=V.int (o:Int))=decide (o&&&m=o):=decide_eq_decide.mpr ⟨fun h=>Int.ofNat.inj (V.int.inj h),fun h=>by rw[h]⟩;rw[qBn,eo];rfl
   ·rintro ys H3 ⟨rfl,rfl⟩ bl hbl;rw[hA1,hA6 (hA5 _)];have Xb:=Ext.new hbl (.lst (((rmF (L.take i)).map fun o=>decide (o&&&m=o)).map V.bl));refine⟨bl,_,rfl,SqL.of upd_same,_,rfl,?_⟩;have ea:((rmF (L.take i)).map fun o=>decide (o&&&m=o)).any id=(rmF (L.take i)).any fun o=>decide (o&&&m=o):=by rw[List.any_map];rfl
    rw[ea];have ok:rmOk (rmF (L.take i)) m=!((rmF (L.take i)).any fun o=>decide (o&&&m=o)):=by
     unfold rmOk;rw[m0];rfl
    refine qBw (fun c=>?_) (fun c=>?_)
    ·refine⟨_,rfl,.inl ⟨rfl,_,SqL.of (Xb _ _ ht')⟩,_,rfl,tl,_,_,rfl,rfl,Xb _ _ ht',(by rw[hA1];exact qA3 (by omega)),?_⟩;refine⟨_,rfl,(e.trans Xb).over htl _,?_,?_⟩
     ·unfold LsN;rw[upd_ne (Ne.symm tr)];exact Xb _ _ hr'
     ·unfold LsN rmS;rw[upd_same,ok,if_pos c,hA3];rfl
    ·refine⟨_,rfl,e.trans Xb,Xb _ _ hr',?_⟩;unfold rmS;rw[ok,if_neg c];exact Xb _ _ ht'
 rintro σ H3 ⟨x2,rfl,e3,hr3,ht3⟩;rw[hA1,hA6 (hA5 _)]at ht3;exact⟨_,rfl,q tl L H3 e3 htl pL so' ht3⟩
theorem scRounds:FnScope ["table"] ["table"] (qAb qDw):=⟨rfl,rfl,rfl,by decide +kernel,rfl,by decide +kernel,by decide +kernel⟩
theorem ok_rounds (F:Fun K "rounds" "rounds" qDw f fd)
  (G1:Cl P w K mg base CX0 3 f1 fd1 ["rows"] (spInOrd Pt) "in_order")
  (G2:Cl P w K mg base CX0 2 f2 fd2 ["steps"] spRMas "round_masks")
  (G3:Cl P w K mg base CX0 3 f3 fd3 ["table"] qFy "step_masks")
  (G4:Cl P w K mg base CX0 1 f4 fd4 ["names","mask"] qFz "row_of"):FnOk P w K mg base CX0 4 f fd ["table"] (spRounds Pt):=by
 refine F.ok scRounds (fun vs H Q E h=>?_) (fun cdv A outer s H vs Q E hr3 h=>?_)
 ·obtain⟨T,names,rows,rfl,_⟩:=h;rfl
 obtain⟨T,names,rows,rfl,ti,ln,lr,tw,q⟩:=h;have hr1:=hr3.mono (j:=1) (by decide);have hr2:=hr3.mono (j:=2) (by decide);refine⟨_,pss_one (ps_ret (qAp G1 hr3 rfl .nil qAo (pa_cons (qBo (N:=["table"]) (sc:=qAb qDw) (N':=["mask","table"]) (sub:=[none,some 0]) rfl rfl (CmpOk.of (by decide +kernel)) rfl (qAn (qAp G2 hr2 rfl .nil qAo (pa_cons (qAp G3 hr3 rfl .nil qAo (pa_cons (pv 0) pa_nil)) pa_nil))) (fun C s H fp=>⟨qAd (i:=0) (by show(["mask","table"]:List Str).Nodup;decide) rfl (Or.inl rfl),qAy,(qAp G4 hr1 rfl .nil qAo (pa_cons (qBv (show IxR _ (rIxT K) from qGl) (pv 1) qAc (fun _ _=>rfl)) (pa_cons (pv 0) pa_nil)))⟩)) pa_nil))),?_⟩;try dsimp only[Cx.wish,qBy]
 obtain⟨na,nb,hT,hna,_⟩:=id ti;refine⟨_,rfl,T,names,rows,rfl,ti,lr,fun sm M H1 e1 _ hM pM dM=>?_⟩;obtain⟨_,_,lM⟩:=step_rr pM;refine⟨sm,M,rfl,hM,by omega,fun rm L H2 e2 _ pL soL hL=>?_⟩;have E2:=e1.trans e2;have lL:(rmF L).length<=4096:=by
  refine hAr (rmF_len L) ?_;rw[pL.length_eq,qCu];exact hAr (hB9 (by decide) (show M.length<=12 by omega)) (by decide)
 refine⟨rm,rfl,⟨_,SqL.of hL⟩,?_⟩;refine qAs (xs:=(rmF L).map iV) (fun j ys H3=>Ext H2 H3/\∃ as,ys=as.map V.ref/\Paired (LsS H3) as (((rmF L).take j).map (rowM names))/\as.Nodup/\∀ a∈as,H a=none) ⟨Ext.refl _,[],rfl,.nil,List.nodup_nil,fun a ha=>(by cases ha)⟩ (fun j ys H3 _ h=>SqL.of (h.1 _ _ hL)) ?_ ?_
 ·rintro j v ys H3 hx ⟨e3,as,rfl,pr,nd,new⟩;obtain⟨x,rfl,hx'⟩:=qA1 hx;have hj:=at_lt hx';have la:as.length=_:=pr.length;rw[hA1,hAi]at la;have E3:=E2.trans e3;refine⟨Sle.set _ (Sle.refl _) (fun u z=>by cases z),iteT (B:=False) ⟨_,rfl,T,_,_,_,rfl,rfl,SqT.of (E3 _ _ hT),(by exact qB5 (j:=0) rfl),_,rfl,na,names,x,rfl,E3 _ _ hna,ln,fun r4 H4 e4 r40 h4=>⟨?_,nxt (at_lt hx) ⟨e3.trans e4,as++[r4],by rw[hA3];rfl,?_,?_,?_⟩⟩⟩⟩
  ·rw[hA1];exact qA3 (by omega)
  ·rw[qAm hx',hA3];exact Paired.snoc (Paired.mapP pr fun a t z=>e4 _ _ z) h4
  ·refine List.nodup_append.mpr ⟨nd,hBu.mpr ⟨by simp,List.nodup_nil⟩,fun a ha b hb z=>?_⟩;rw[hA4.mp hb]at z;obtain⟨t,_,ht⟩:=qDy pr a ha;rw[z]at ht;unfold LsS at ht;rw[r40]at ht;cases ht
  ·intro a ha;rcases hAb.mp ha with z | z
   ·exact new a z
   ·rw[hA4.mp z];exact E3.none r40
 ·rintro ys H3 ⟨e3,as,rfl,pr,nd,new⟩ b hb;rw[hA1,hA6 (hA5 _)]at pr;have Xb:=Ext.new hb (.lst (as.map V.ref));have E4:=(E2.trans e3).trans Xb;refine⟨b,as,(rmF L).map (rowM names),rfl,upd_same,Paired.mapP pr fun a t z=>Xb _ _ z,by rw[hA1];omega,My.TabW.extE tw E4,fun r as' F H5 eB r0 hr' prF pA pF soF tw5=>?_⟩;exact q r as' F M L H5 (ExtB.trans E4.toB eB) (E4.none r0) hr' prF (pA.nodup_iff.mpr nd) (fun a ha=>new a (pA.mem_iff.mp ha)) pM pL soL pF soF tw5
theorem scWalls:FnScope ["table"] ["table"] (qAb qG1):=⟨rfl,rfl,rfl,by decide +kernel,rfl,by decide +kernel,by decide +kernel⟩
theorem ok_walls (F:Fun K "walls" "walls" qG1 f fd)
  (G1:Cl P w K mg base CX0 4 f1 fd1 ["table"] (spRounds Pt) "rounds")
  (G2:Cl P w K mg base CX0 4 f2 fd2 ["table"] spCross "crossed"):FnOk P w K mg base CX0 5 f fd ["table"] (spWalls Pt):=by
 refine F.ok scWalls (fun vs H Q E h=>?_) (fun cdv A outer s H vs Q E hr4 h=>?_)
 ·obtain⟨T,names,rows,rfl,_⟩:=h;rfl
 obtain⟨T,names,rows,rfl,ti,ln,lr,tw,q⟩:=h;refine⟨_,pss_one (ps_ret (qAp G1 hr4 rfl .nil qAo (pa_cons (qAp G2 hr4 rfl .nil qAo (pa_cons (pv 0) pa_nil)) pa_nil))),?_⟩;try dsimp only[Cx.wish,qBy]
 refine⟨_,rfl,T,names,rows,rfl,ti,ln,lr,fun T2 S C H1 e1 t0 tf pS pC dC=>?_⟩;obtain⟨rrS,ltS,_⟩:=step_rr pS;have lc:∀ x∈crAll S names.length,x<2^names.length:=fun x hx=>((cr_spn rrS ltS x).mp (.mem hx)).1
 have lC:C.length<=names.length:=rr_len ((qC1 _).perm pC) fun x hx=>qF9 lc x (pC.mem_iff.mp hx)
 refine⟨T2,names,C.map (rowM names),rfl,tf.tin,ln,by rw[hA1];omega,My.TabW.extE tw e1,fun r as F M L H2 eB r0 hr' prF nd new pM pL so pF soF tw2=>?_⟩;exact q r as F S C M L H2 (ExtB.trans e1.toB eB) (e1.none r0) hr' prF nd (fun a ha=>e1.none (new a ha)) pS pC pM pL so pF soF tw2
end
end My
namespace My
open PySem L2
theorem ban0 (z n:Nat):(V.int (Builtin.bitAnd (z:Int) (n:Int))=V.int 0)↔z&&&n=0:=by
 rw[qBn];exact⟨fun h=>by have:=V.int.inj h;omega,fun h=>by rw[h];rfl⟩
theorem ban_ne {z n:Nat} {c:Bool} (h:(!decide (V.int (Builtin.bitAnd (z:Int) (n:Int))=V.int 0))=c):(!decide (z&&&n=0))=c:=by
 rw[<-h,decide_eq_decide.mpr (ban0 z n)]
theorem ban_eq {z n:Nat} {c:Bool} (h:decide (V.int (Builtin.bitAnd (z:Int) (n:Int))=V.int 0)=c):decide (z&&&n=0)=c:=by
 rw[<-h,decide_eq_decide.mpr (ban0 z n)]
end My
namespace My
open PySem L2
theorem lay_ints:∀ xs:List Nat,PyData.canLayAll0 (xs.map fun n:Nat=>PyData.int (n:Int))=true/\PyData.depthAll (xs.map fun n:Nat=>PyData.int (n:Int))=0
 | []=>⟨rfl,rfl⟩
 | x :: r=>by
  obtain⟨h1,h2⟩:=lay_ints r;refine⟨?_,?_⟩
  ·show(true && PyData.canLayAll0 (r.map fun n:Nat=>PyData.int (n:Int)))=true;rw[h1];rfl
  ·show max 0 (PyData.depthAll (r.map fun n:Nat=>PyData.int (n:Int)))=0;rw[h2];rfl
theorem qF3 (xs:List Nat):SeqAt.shaped (.list (xs.map fun n:Nat=>PyData.int (n:Int)))=true:=by
 obtain⟨h3,h4⟩:=lay_ints xs;show(PyData.canLayAll0 (xs.map fun n:Nat=>PyData.int (n:Int)) && decide (PyData.depthAll (xs.map fun n:Nat=>PyData.int (n:Int))+1<=64))=true;rw[h3,h4];rfl
theorem dr_ints {K:PySem.W.Frag} {H:Hp}:∀ xs:List Nat,DRs K H (xs.map iV) (xs.map fun n:Nat=>PyData.int (n:Int))
 | []=>.nil
 | _ :: r=>.cons (.int _) (dr_ints r)
theorem eqv_ints':∀ a b:List Nat,PyData.eqvAll (a.map fun n:Nat=>PyData.int (n:Int)) (b.map fun n:Nat=>PyData.int (n:Int))=decide (a=b)
 | [],[]=>rfl
 | [],_ :: _=>rfl
 | _ :: _,[]=>rfl
 | x :: a,y :: b=>by
  show(PyData.eqv (.int (x:Int)) (.int (y:Int)) && PyData.eqvAll (a.map fun n:Nat=>PyData.int (n:Int)) (b.map fun n:Nat=>PyData.int (n:Int)))=_;rw[eqv_ints' a b];have:PyData.eqv (.int (x:Int)) (.int (y:Int))=decide (x=y):=by
   by_cases e:x=y
   ·subst e;simp[PyData.eqv]
   ·have:¬(x:Int)=(y:Int):=by omega
    simp[PyData.eqv,e,this]
  rw[this];by_cases e:x=y
  ·subst e;simp
  ·simp[e]
theorem eqv_ints (a b:List Nat):PyData.eqv (.list (a.map fun n:Nat=>PyData.int (n:Int))) (.list (b.map fun n:Nat=>PyData.int (n:Int)))=decide (a=b):=eqv_ints' a b
theorem dr_intl {K:PySem.W.Frag} {H:Hp} {p:Addr} {xs:List Nat} (h:LsN H p xs):DR K H (.ref p) (.list (xs.map fun n:Nat=>PyData.int (n:Int))):=.lst (SqL.of h) (dr_ints xs)
def spBlo:Sp:=fun vs H Q _=>∃ (T:Addr) (names:List Str) (rows:List (List Str)),vs=[.ref T]/\qC5 H T names rows/\TabOk names rows/\∀ (r:Addr) (rs:List (List Str)) (S:List Nat) (H':Hp),Ext H H'->H r=none->RowsZ H H' r rs->S.Perm (red (rows.map (qAt names)))->Srt rs->rs.Perm ((S.foldl blS ((List.range names.length).map fun k=>2^k)).map (rowM names))->Q (.ref r) H'
section
variable {P:Program} {w:World} {K:PySem.W.Frag} {mg:Str->Option Value} {base:Heap} {f f1 f2 f3:Addr} {fd fd1 fd2 fd3:FuncData}
noncomputable abbrev boN:List Str:=["table","names","told","step","met"]
theorem scBlo:FnScope boN ["table"] (qAb qCi):=⟨rfl,rfl,rfl,by decide +kernel,rfl,by decide +kernel,by decide +kernel⟩
theorem ok_blo (F:Fun K "blocks" "blocks" qCi f fd)
  (G1:Cl P w K mg base CX0 3 f1 fd1 ["table"] qFy "step_masks")
  (G2:Cl P w K mg base CX0 1 f2 fd2 ["names","mask"] qFz "row_of")
  (mr:mg "range" = none) (ml:mg "len" = none) (msu:mg "sum" = none) (mso:mg "sorted" = none):FnOk P w K mg base CX0 4 f fd ["table"] spBlo:=by
 refine F.ok scBlo (fun vs H Q E h=>?_) (fun cdv A outer s H vs Q E hr h=>?_)
 ·obtain⟨T,names,rows,rfl,_⟩:=h;rfl
 obtain⟨T,names,rows,rfl,ti,tok,q⟩:=h;have hr1:=hr.mono (j:=1) (by decide);have ln:=tok.ln;refine⟨_,(qAa (qAg (i:=1) scBlo.nd rfl (Or.inr rfl) (qBv qGl (pv 0) qAc (fun _ _=>rfl))) (qAa (qFi (i:=2) (N:=boN) (sc:=qAb qCi) (N':=["place"]) (sub:=[none]) rfl rfl (CmpOk.of (by decide +kernel)) rfl (qAw rfl mr (pa_cons (qAj qAi rfl ml hAw (pa_cons (pv 1) pa_nil)) pa_nil)) (fun C s H fp=>⟨qAd (i:=0) (by show(["place"]:List Str).Nodup;decide) rfl (Or.inl rfl),qAy,(qAh qBx qAc (pv 0))⟩) scBlo.nd rfl (Or.inl rfl)) (qAa (qAz PassesOwn.never rfl (qAn (qAp G1 hr rfl .nil qAo (pa_cons (pv 0) pa_nil))) (qAd (i:=3) scBlo.nd rfl (Or.inr rfl)) (qAa (qFi (i:=4) (N:=boN) (sc:=qAb qCi) (N':=["one","step"]) (sub:=[none,some 3]) rfl rfl (CmpOk.of (by decide +kernel)) rfl (qAn (pv 2)) (fun C s H fp=>⟨qAd (i:=0) (by show(["one","step"]:List Str).Nodup;decide) rfl (Or.inl rfl),(qBh (qAk qDz (qAh qBg (pv 0) (pv 1)) qAc (qAq _))),(pv 0)⟩) scBlo.nd rfl (Or.inl rfl)) (pss_one (qAg (i:=2) scBlo.nd rfl (Or.inl rfl) (qAh qCf (qBo (N:=boN) (sc:=qAb qCi) (N':=["one","step"]) (sub:=[none,some 3]) rfl rfl (CmpOk.of (by decide +kernel)) rfl (qAn (pv 2)) (fun C s H fp=>⟨qAd (i:=0) (by show(["one","step"]:List Str).Nodup;decide) rfl (Or.inl rfl),(qBh (qAk qBl (qAh qBg (pv 0) (pv 1)) qAc (qAq _))),(pv 0)⟩)) (pe_lst (pa_cons (qAj (qEo rfl) rfl msu qEq (pa_cons (pv 4) pa_nil)) pa_nil))))))) (pss_one (ps_ret (qAj (call_sortedLO (room2 hr)) rfl mso qCh (pa_cons (qBo (N:=boN) (sc:=qAb qCi) (N':=["mask","names"]) (sub:=[none,some 1]) rfl rfl (CmpOk.of (by decide +kernel)) rfl (qAn (pv 2)) (fun C s H fp=>⟨qAd (i:=0) (by show(["mask","names"]:List Str).Nodup;decide) rfl (Or.inl rfl),qAy,(qAp G2 hr1 rfl .nil qAo (pa_cons (pv 1) (pa_cons (pv 0) pa_nil)))⟩)) pa_nil))))))),?_⟩;try dsimp only[Cx.wish,qBy]
 obtain⟨ta,tb,hT,hta,htb⟩:=id ti;refine⟨_,rfl,T,_,_,_,rfl,rfl,SqT.of hT,(by exact qB5 (j:=0) rfl),?_⟩;refine⟨_,rfl,ta,_,rfl,.inl (SqL.of hta),_,rfl,by omega,by rw[hA1];omega,?_⟩;rw[hA1];refine qBz (lo:=0) (n:=names.length) (fun i ys H2=>H2=H/\ys=((List.range i).map fun k=>2^k).map iV) ⟨rfl,rfl⟩ ?_ ?_
 ·rintro i ys H2 hi ⟨rfl,rfl⟩;refine⟨Sle.set _ (Sle.refl _) (fun u z=>by cases z),iteT (B:=False) ⟨_,rfl,_,_,rfl,rfl,⟨by omega,by omega,by decide⟩,?_⟩⟩;refine⟨by rw[hA1,hA1,hAy];exact qAf (by omega),nxt hi ⟨rfl,?_⟩⟩;rw[hC9,hA3,hA3];show _++[V.int (1*2^(0+(i:Int)).toNat)]=_;rw[show(0+(i:Int))=((i:Nat):Int) by omega,qA8];rfl
 rintro ys H2 ⟨rfl,rfl⟩ h0 hh0;have X0:=Ext.new hh0 (.lst (((List.range names.length).map fun k=>2^k).map iV));have hh:LsN (upd H2 h0 (.lst (((List.range names.length).map fun k=>2^k).map iV))) h0 ((List.range names.length).map fun k=>2^k):=upd_same;refine⟨_,rfl,T,names,rows,rfl,ti.ext X0,by have:=tok.lr;omega,fun ms S H1 e1 ms0 hS pS dS=>?_⟩;have E1:=X0.trans e1;have hh1:=e1 _ _ hh;have hta1:=E1 _ _ hta;have rS:RR S:=(qC1 _).perm pS;have okS:∀ z∈S,z<2^names.length/\z≠0:=fun z hz=>⟨((tok.spnS pS z).mp (.mem hz)).1,rS.nz z hz⟩
 refine⟨ms,rfl,⟨_,SqL.of hS⟩,?_⟩;clear hh e1 X0;refine qA2 (xs:=S.map iV) (fun i σ H'=>∃ (ph:Addr) (x3 x4:Option V),σ=[some (.ref T),some (.ref ta),some (.ref ph),x3,x4]/\Ext H1 H'/\LsN H' ph ((S.take i).foldl blS ((List.range names.length).map fun k=>2^k))/\Prt names.length ((S.take i).foldl blS ((List.range names.length).map fun k=>2^k))) ⟨h0,none,none,rfl,Ext.refl _,hh1,Prt.first _⟩ (fun i σ H' _ h=>by obtain⟨_,_,_,_,e,_⟩:=h;exact SqL.of (e _ _ hS)) ?_ ?_
 ·rintro i v σ H' hx ⟨ph,x3,x4,rfl,e,hph,lh⟩;obtain⟨n,rfl,hn⟩:=qA1 hx;have hi:=at_lt hn;have hsn:(S.take (i+1)).foldl blS ((List.range names.length).map fun k=>2^k)=blS ((S.take i).foldl blS ((List.range names.length).map fun k=>2^k)) n:=by
   rw[qAm hn,hBz];rfl
  rw[hsn];have nm:=okS n (hAd hn);have ls:=lh.step nm.1 nm.2;have lh:=lh.len;revert hph lh ls;generalize (S.take i).foldl blS ((List.range names.length).map fun k=>2^k)=hs;intro hph ls lh;refine⟨_,rfl,ph,rfl,⟨_,SqL.of hph⟩,?_⟩;refine qBs (fun h=>!decide (h&&&n=0)) (fun z=>z) hph (by omega) (fun z hz C B cc bb=>⟨Sle.set _ (Sle.refl _) (fun u z=>by cases z),?_⟩) ?_
  ·refine⟨_,rfl,_,rfl,_,_,rfl,rfl,rfl,_,rfl,?_⟩;exact qBw (fun c=>⟨_,rfl,cc (ban_ne c)⟩) (fun c=>bb (ban_ne (hCk _▸c)))
  intro l1 hl1;rw[hE5];have n1:=Ext.new hl1 (.lst ((hs.filter fun h=>!decide (h&&&n=0)).map iV));refine⟨_,rfl,ph,rfl,⟨_,SqL.of (n1 _ _ hph)⟩,?_⟩;refine qBs (fun h=>decide (h&&&n=0)) (fun z=>z) (n1 _ _ hph) (by omega) (fun z hz C B cc bb=>⟨Sle.set _ (Sle.refl _) (fun u z=>by cases z),?_⟩) ?_
  ·refine⟨_,rfl,_,rfl,_,_,rfl,rfl,rfl,_,rfl,?_⟩;exact qBw (fun c=>⟨_,rfl,cc (ban_eq c)⟩) (fun c=>bb (ban_eq (hCk _▸c)))
  intro l2 hl2;rw[hE5];have n2:=Ext.new hl2 (.lst ((hs.filter fun h=>decide (h&&&n=0)).map iV));have sumE:((hs.filter fun h=>!decide (h&&&n=0)).map fun n:Nat=>(n:Int)).sum=(((hs.filter fun h=>!decide (h&&&n=0)).sum:Nat):Int):=qD5 _;refine⟨_,rfl,l1,(hs.filter fun h=>!decide (h&&&n=0)).map (fun n:Nat=>(n:Int)),rfl,SqL.of (by rw[n2 _ _ upd_same,qB4]),(by show 1<=sizeLine;decide),fun l3 hl3=>?_⟩;have n3:=Ext.new hl3 (.lst [V.int ((hs.filter fun h=>!decide (h&&&n=0)).map fun n:Nat=>(n:Int)).sum]);refine⟨l2,l3,_,_,rfl,rfl,n3 _ _ upd_same,upd_same,by rw[hA1];have:=hAm (fun h=>decide (h&&&n=0)) hs;exact hBd (qAf (by show _+1<=_;omega)),fun l4 hl4=>?_⟩;refine⟨l4,_,_,rfl,e.trans (n1.trans (n2.trans (n3.trans (Ext.new hl4 _)))),?_,ls⟩;unfold LsN blS;rw[upd_same,hA3,sumE];rfl
 rintro σ H3 ⟨ph,x3,x4,rfl,e3,hph,lh⟩;rw[hA1,hA6 (hA5 _)]at hph lh;have lth:=lh.len;revert hph lth;generalize hhs:S.foldl blS ((List.range names.length).map fun k=>2^k)=hs;intro hph lth;have E3:=E1.trans e3;have hta3:=e3 _ _ hta1;refine⟨_,rfl,ph,rfl,⟨_,SqL.of hph⟩,?_⟩;refine qAs (xs:=hs.map iV) (fun j ys H4=>Ext H3 H4/\∃ as,ys=as.map V.ref/\as.Nodup/\Paired (fun a r=>LsS H4 a r/\H2 a=none) as ((hs.take j).map (rowM names))) ⟨Ext.refl _,[],rfl,List.nodup_nil,.nil⟩ (fun j ys H4 _ h=>SqL.of (h.1 _ _ hph)) ?_ ?_
 ·rintro j v ys H4 hx ⟨e4,as,rfl,nd,pr⟩;obtain⟨y,rfl,hy⟩:=qA1 hx;have hj:=at_lt hy;have la:as.length=_:=pr.length;rw[hA1,hAi]at la;refine⟨Sle.set _ (Sle.refl _) (fun u z=>by cases z),iteT (B:=False) ⟨_,rfl,_,rfl,ta,names,y,rfl,e4 _ _ hta3,ln,fun r H5 e5 r0 hr5=>⟨?_,nxt (at_lt hx) ⟨e4.trans e5,as++[r],by rw[hA3];rfl,?_,?_⟩⟩⟩⟩
  ·rw[hA1];exact qAf (by omega)
  ·rw[List.nodup_append];refine⟨nd,by simp,fun a ha b hb z=>?_⟩;rw[hA4]at hb;obtain⟨_,_,h1,_⟩:=qDy pr a ha;unfold LsS at h1;rw[z,hb,r0]at h1;cases h1
  ·rw[qAm hy,hA3];exact Paired.snoc (Paired.mapP pr fun a t z=>⟨e5 _ _ z.1,z.2⟩) ⟨hr5,(E3.trans e4).none r0⟩
 ·rintro ys H4 ⟨e4,as,rfl,nd,pr⟩ l hl';rw[hA1,hA6 (hA5 _)]at pr;have la:as.length=(hs.map (rowM names)).length:=pr.length;have la':as.length=hs.length:=by rw[la,hA1]
  have X1:=Ext.new hl' (.lst (as.map V.ref));refine⟨l,as,hs.map (rowM names),rfl,SqL.of upd_same,Paired.mapP pr fun a t z=>SqL.of (X1 _ _ z.1),by omega,fun r o hr' g sp=>?_⟩;have X2:=X1.trans (Ext.new hr' (.lst ((o.toList.map fun i=>as.getD i 0).map V.ref)));have E4:=E3.trans e4;have gm:∀ i∈o.toList,i<as.length:=fun i hi=>gd_mem g hi
  have nd':=(pick_perm g).nodup_iff.mpr nd;rw[la]at g sp;obtain⟨s1,s2⟩:=order_rows g sp;refine q r _ S _ (E4.trans X2) ((E4.trans X1).none hr') ⟨_,nd',upd_same,Paired.mapP (qGh pr gm) fun a t z=>⟨X2 _ _ z.1,z.2,qAe (X1 _ _ z.1) hr'⟩⟩ pS s1 ?_;rw[hhs];exact s2
end
end My
namespace My
open PySem L2
def OneB (Sp:Nat->Prop) (E:Nat):Prop:=E≠0/\∀ z,Inn z E->(∀ u,Sp u->Sp (u&&&z))->z=0\/z=E
theorem inn_eq {a b:Nat} (h:Inn a b) (h':Inn b a):a=b:=hAn fun i=>by
 cases q:a.testBit i with
 | false =>
  cases q2:b.testBit i with
  | false=>rfl
  | true=>rw[h' i q2]at q;cases q
 | true=>exact(h i q).symm
theorem inn_l (a b:Nat):Inn (a&&&b) a:=fun i hi=>by rw[hBg,hBo]at hi;exact hi.1
theorem OneB.tr1 {Sp Sp':Nat->Prop} {E E':Nat} {φ ψ:Nat->Nat} (i1:∀ u,Sp u->Inn u E) (pφ:∀ z,Inn z E->Inn (φ z) E'/\ψ (φ z)=z) (pψ:∀ z,Inn z E'->Inn (ψ z) E/\φ (ψ z)=z)
  (an:∀ u z,Inn u E->Inn z E->φ (u&&&z)=φ u&&&φ z) (s:∀ u,Inn u E->(Sp u↔Sp' (φ u))) (z0:φ 0=0) (zE:φ E=E') (h:OneB Sp E):OneB Sp' E':=by
 obtain⟨h1,h2⟩:=h;have EE:Inn E E:=fun _ z=>z
 refine⟨fun z=>h1 ?_,fun z hz hc=>?_⟩
 ·have:=(pφ E EE).2;rw[zE,z,<-z0,(pφ 0 (fun i hi=>by rw[hBq]at hi;cases hi)).2]at this;exact this.symm
 ·obtain⟨p1,p2⟩:=pψ z hz;rcases h2 (ψ z) p1 fun u hu=>by
   have iu:=i1 u hu;have q:Inn (u&&&ψ z) E:=fun i hi=>iu i (inn_l _ _ i hi)
   rw[s _ q,an u _ iu p1,p2];exact hc _ ((s u iu).mp hu) with e | e
  ·left;rw[<-p2,e,z0]
  ·right;rw[<-p2,e,zE]
theorem OneB.tr {Sp Sp':Nat->Prop} {E E':Nat} {φ ψ:Nat->Nat} (i1:∀ u,Sp u->Inn u E) (i2:∀ u,Sp' u->Inn u E') (pφ:∀ z,Inn z E->Inn (φ z) E'/\ψ (φ z)=z) (pψ:∀ z,Inn z E'->Inn (ψ z) E/\φ (ψ z)=z)
  (an:∀ u z,Inn u E->Inn z E->φ (u&&&z)=φ u&&&φ z) (s:∀ u,Inn u E->(Sp u↔Sp' (φ u))) (z0:φ 0=0) (zE:φ E=E'):OneB Sp E↔OneB Sp' E':=by
 refine⟨OneB.tr1 i1 pφ pψ an s z0 zE,OneB.tr1 i2 pψ pφ (fun u z hu hz=>?_) (fun u hu=>?_) ?_ ?_⟩
 ·have a:=pψ u hu;have b:=pψ z hz;have q:Inn (ψ u&&&ψ z) E:=fun i hi=>a.1 i (inn_l _ _ i hi)
  have:=(pφ _ q).2;rw[an _ _ a.1 b.1,a.2,b.2]at this;exact this
 ·have a:=pψ u hu;rw[s _ a.1,a.2]
 ·have:=(pφ 0 (fun i hi=>by rw[hBq]at hi;cases hi)).2;rw[z0]at this;exact this
 ·have:=(pφ E (fun _ z=>z)).2;rw[zE]at this;exact this
theorem OneB.congr {Sp Sp':Nat->Prop} {E:Nat} (h:∀ u,Sp u↔Sp' u):OneB Sp E↔OneB Sp' E:=by
 unfold OneB;simp only[h]
theorem heaps_one {hs N:List Nat} {E:Nat} (dis:Dis hs) (nz:∀ h∈hs,h≠0) (inE:∀ h∈hs,Inn h E) (cov:∀ i,E.testBit i=true->∃ h∈hs,h.testBit i=true) (ls:∀ t∈N,Lst N t) (inN:∀ t∈N,∃ h∈hs,Inn t h)
  (fine:∀ z,(∀ t∈N,Inn t z\/t&&&z=0)->∀ h∈hs,Inn h z\/h&&&z=0):hs.length=1↔OneB (Spn N) E:=by
 constructor
 ·intro hl
  match hs,hl,nz,inE,cov,fine with
  | [h],_,nz,inE,cov,fine =>
   have eh:h=E:=inn_eq (inE h (.head _)) fun i hi=>by
    obtain⟨g,hg,b⟩:=cov i hi;rw[hA4.mp hg]at b;exact b
   subst eh;refine⟨nz h (.head _),fun z hz hc=>?_⟩;have key:∀ t∈N,Inn t z\/t&&&z=0:=fun t ht=>by
    by_cases q:t&&&z=0
    ·exact .inr q
    ·left
     have:=(ls t ht).2.2 _ (hc t (.mem ht)) q (inn_l _ _);exact inn_of this
   rcases fine z key h (.head _) with q | q
   ·exact .inr (inn_eq hz q)
   ·left
    have:=qGn hz;rw[Nat.and_comm]at this;rw[<-this];exact q
 ·rintro⟨h1,h2⟩;have al:∀ h∈hs,h=E:=fun h hh=>by
   refine(h2 h (inE h hh) fun u hu=>?_).resolve_left (nz h hh)
   induction hu with
   | zero=>rw[Nat.zero_and];exact .zero
   | add hm _ ih =>
    rename_i x y _;have e:(x^^^y)&&&h=(x&&&h)^^^(y&&&h):=hAn fun i=>by
     simp only[hBg,hB2];cases x.testBit i <;> cases y.testBit i <;> cases h.testBit i <;> rfl
    rw[e];refine Spn.xor ?_ ih;obtain⟨g,hg,i'⟩:=inN x hm;by_cases q:x&&&h=0
    ·rw[q];exact .zero
    ·obtain⟨i,b1,b2⟩:=qFs q;have:g=h:=by
      by_cases e:g=h
      ·exact e
      ·exact(qBk (dis_of dis hg hh e) (i' i b1) b2).elim
     subst this;rw[qGn i'];exact .mem hm
  obtain⟨i,hi⟩:=has_bit h1;obtain⟨g,hg,_⟩:=cov i hi
  match hs,al,dis,hg with
  | [],_,_,hg=>cases hg
  | [a],_,_,_=>rfl
  | a :: b :: l,al,dis,_ =>
   have ea:=al a (.head _);have eb:=al b (.tail _ (.head _));have:=(hBr.mp dis).1 b (.head _);rw[ea,eb,Nat.and_self]at this;exact absurd this h1
theorem bl_fine {m:Nat} {z:Nat}:∀ {L hs:List Nat},Prt m hs->(∀ t∈L,t<2^m/\t≠0)->(∀ t∈L,Inn t z\/t&&&z=0)->(∀ h∈hs,Inn h z\/h&&&z=0)->∀ h∈L.foldl blS hs,Inn h z\/h&&&z=0
 | [],hs,p,_,_,b=>b
 | t :: L,hs,p,hL,hg,b=>by
  obtain⟨lt,nz⟩:=hL t hAe;refine bl_fine (L:=L) (hs:=blS hs t) (p.step lt nz) (fun u hu=>hL u (hAc _ hu)) (fun u hu=>hg u (hAc _ hu)) fun h hh=>?_
  rcases mem_blS.mp hh with ⟨h1,_⟩ | rfl
  ·exact b h h1
  ·rcases hg t hAe with q | q
   ·left
    intro i hi;obtain⟨u,hu,ne,ub⟩:=(qEj p t i).mp hi;obtain⟨j,j1,j2⟩:=qFs ne;rcases b u hu with w | w
    ·exact w i ub
    ·exact(qBk w j1 (q j j2)).elim
   ·right
    refine qDf fun i hi hz=>?_
    obtain⟨u,hu,ne,ub⟩:=(qEj p t i).mp hi;obtain⟨j,j1,j2⟩:=qFs ne;rcases b u hu with w | w
    ·exact qBk q j2 (w j j1)
    ·exact qBk w ub hz
theorem qC0 (m i:Nat):(2^m - 1).testBit i=decide (i<m):=by rw[Nat.testBit_two_pow_sub_one]
theorem blocks_one {m:Nat} {S:List Nat} (r:RR S) (lt:∀ s∈S,s<2^m):(S.foldl blS ((List.range m).map fun k=>2^k)).length=1↔OneB (Spn S) (2^m - 1):=by
 have hL:∀ t∈S,t<2^m/\t≠0:=fun t ht=>⟨lt t ht,r.nz t ht⟩
 obtain⟨p,_,c⟩:=prt_all (Prt.first m) hL;refine heaps_one p.bl.dis p.nz (fun h hh i hi=>?_) (fun i hi=>?_) (fun t ht=>rr_least r ht) c fun z hz=>?_
 ·rw[qC0,decide_eq_true_iff];exact p.bl.lt h hh i hi
 ·rw[qC0,decide_eq_true_iff]at hi;exact p.cov i hi
 ·refine bl_fine (Prt.first m) hL hz fun h hh=>?_
  obtain⟨k,_,rfl⟩:=hA9.mp hh;by_cases q:z.testBit k=true
  ·left
   intro i hi;rw[hB7,decide_eq_true_iff]at hi;subst hi;exact q
  ·right
   refine qDf fun i hi hz=>?_
   rw[hB7,decide_eq_true_iff]at hi;subst hi;exact q hz
noncomputable def hpI (p:Nat×List Nat) (h:Nat):Nat×List Nat:=if h&&&p.1=0 then (p.1,p.2++[h]) else (p.1 ||| h,p.2)
noncomputable def hpS (hs:List Nat) (t:Nat):List Nat:=(hs.foldl hpI (t,[])).2++[(hs.foldl hpI (t,[])).1]
noncomputable def hpF (L:List Nat):List Nat:=L.foldl hpS []
theorem qFt (L:List Nat) (t:Nat):hpF (L++[t])=hpS (hpF L) t:=by unfold hpF;rw[hBz];rfl
theorem hp_fst (hs:List Nat) (h:Nat) (p:Nat×List Nat):(hs++[h]).foldl hpI p=hpI (hs.foldl hpI p) h:=by rw[hBz];rfl
structure HpI (t:Nat) (pre:List Nat) (mask:Nat) (others:List Nat):Prop where
 sub:others.Sublist pre
 dis:∀ o∈others,o&&&mask=0
 all:∀ h∈pre,h∈others\/Inn h mask
 tt:Inn t mask
 bits:∀ i,mask.testBit i=true->t.testBit i=true\/∃ h∈pre,h.testBit i=true
 cl:∀ z,(Inn t z\/t&&&z=0)->(∀ h∈pre,Inn h z\/h&&&z=0)->Inn mask z\/mask&&&z=0
theorem or_inn {a b c:Nat} (h:Inn a c) (h':Inn b c):Inn (a ||| b) c:=fun i hi=>by
 rw[hCp,hDc]at hi;exact hi.elim (h i) (h' i)
theorem or_dis {a b c:Nat} (h:a&&&c=0) (h':b&&&c=0):(a ||| b)&&&c=0:=qDf fun i hi hz=>by
 rw[hCp,hDc]at hi;exact hi.elim (fun q=>qBk h q hz) fun q=>qBk h' q hz
theorem hp_in (t:Nat):∀ (pre:List Nat),Dis pre->HpI t pre (pre.foldl hpI (t,[])).1 (pre.foldl hpI (t,[])).2:=by
 refine qCv (P:=fun pre=>Dis pre->HpI t pre (pre.foldl hpI (t,[])).1 (pre.foldl hpI (t,[])).2) (fun _=>⟨hDg _,fun o ho=>(by cases ho),fun h hh=>(by cases hh),fun _ z=>z,fun i hi=>.inl hi,fun z h _=>h⟩) fun l h ih d=>?_
 have dl:Dis l:=(hB3.mp d).1;have dh:∀ a∈l,a&&&h=0:=fun a ha=>(hB3.mp d).2.2 a ha h (hA4.mpr rfl)
 have I:=ih dl;rw[hp_fst];generalize l.foldl hpI (t,[])=p at I ⊢;unfold hpI;by_cases c:h&&&p.1=0
 ·rw[if_pos c];refine⟨I.sub.append (hDg _),fun o ho=>?_,fun x hx=>?_,I.tt,fun i hi=>?_,fun z hz hp=>I.cl z hz fun x hx=>hp x (hAg _ hx)⟩
  ·rcases hAb.mp ho with ho | ho
   ·exact I.dis o ho
   ·rw[hA4.mp ho];exact c
  ·rcases hAb.mp hx with hx | hx
   ·exact(I.all x hx).imp (hAg _) id
   ·exact .inl (hA8 _ hx)
  ·exact(I.bits i hi).imp id fun ⟨x,hx,b⟩=>⟨x,hAg _ hx,b⟩
 ·rw[if_neg c];obtain⟨j,j1,j2⟩:=qFs c;refine⟨I.sub.trans (hDf _ _),fun o ho=>?_,fun x hx=>?_,fun i hi=>?_,fun i hi=>?_,fun z hz hp=>?_⟩
  ·rw[Nat.and_comm];refine or_dis ?_ ?_
   ·rw[Nat.and_comm];exact I.dis o ho
   ·rw[Nat.and_comm];exact dh o (I.sub.mem ho)
  ·rcases hAb.mp hx with hx | hx
   ·exact(I.all x hx).imp id fun q i hi=>by rw[hCp,q i hi];rfl
   ·right
    rw[hA4.mp hx];intro i hi;rw[hCp,hi,Bool.or_true]
  ·rw[hCp,I.tt i hi];rfl
  ·rw[hCp,hDc]at hi;rcases hi with hi | hi
   ·exact(I.bits i hi).imp id fun ⟨x,hx,b⟩=>⟨x,hAg _ hx,b⟩
   ·exact .inr ⟨h,hA8 _ (hA4.mpr rfl),hi⟩
  ·rcases I.cl z hz (fun x hx=>hp x (hAg _ hx)) with q | q <;> rcases hp h (hA8 _ (hA4.mpr rfl)) with w | w
   ·exact .inl (or_inn q w)
   ·exact(qBk w j1 (q j j2)).elim
   ·exact(qBk q j2 (w j j1)).elim
   ·exact .inr (or_dis q w)
structure HpO (L hs:List Nat):Prop where
 dis:Dis hs
 nz:∀ h∈hs,h≠0
 bits:∀ h∈hs,∀ i,h.testBit i=true->∃ t∈L,t.testBit i=true
 inn:∀ t∈L,∃ h∈hs,Inn t h
 cl:∀ z,(∀ t∈L,Inn t z\/t&&&z=0)->∀ h∈hs,Inn h z\/h&&&z=0
theorem hp_out:∀ (L:List Nat),(∀ t∈L,t≠0)->HpO L (hpF L):=by
 refine qCv (P:=fun L=>(∀ t∈L,t≠0)->HpO L (hpF L)) (fun _=>⟨List.Pairwise.nil,fun h hh=>(by cases hh),fun h hh=>(by cases hh),fun t ht=>(by cases ht),fun z _ h hh=>(by cases hh)⟩) fun L t ih nz=>?_
 have I:=ih fun u hu=>nz u (hAg _ hu)
 have J:=hp_in t (hpF L) I.dis;rw[qFt];unfold hpS;generalize (hpF L).foldl hpI (t,[])=p at J ⊢;have tl:t∈L++[t]:=hA8 _ (hA4.mpr rfl);have mem:∀ {h:Nat},h∈p.2++[p.1]->h∈hpF L\/h=p.1:=fun {h} hh=>(hAb.mp hh).imp (fun q=>J.sub.mem q) hA4.mp
 refine⟨?_,fun h hh=>?_,fun h hh i hi=>?_,fun u hu=>?_,fun z hz h hh=>?_⟩
 ·refine hB3.mpr ⟨I.dis.sublist J.sub,hC5 ..,fun a ha b hb=>?_⟩;rw[hA4.mp hb];exact J.dis a ha
 ·rcases mem hh with q | rfl
  ·exact I.nz h q
  ·intro e;obtain⟨i,hi⟩:=has_bit (nz t tl);have:=J.tt i hi;rw[e,hBq]at this;cases this
 ·rcases mem hh with q | rfl
  ·obtain⟨u,hu,b⟩:=I.bits h q i hi;exact⟨u,hAg _ hu,b⟩
  ·rcases J.bits i hi with q | ⟨g,hg,b⟩
   ·exact⟨t,tl,q⟩
   ·obtain⟨u,hu,b⟩:=I.bits g hg i b;exact⟨u,hAg _ hu,b⟩
 ·rcases hAb.mp hu with hu | hu
  ·obtain⟨g,hg,q⟩:=I.inn u hu;rcases J.all g hg with w | w
   ·exact⟨g,hAg _ w,q⟩
   ·exact⟨p.1,hA8 _ (hA4.mpr rfl),qDe q w⟩
  ·rw[hA4.mp hu];exact⟨p.1,hA8 _ (hA4.mpr rfl),J.tt⟩
 ·have cL:=I.cl z fun u hu=>hz u (hAg _ hu)
  rcases mem hh with q | rfl
  ·exact cL h q
  ·exact J.cl z (hz t tl) cL
noncomputable def sgF (E:Nat):List Nat:=((List.range 12).filter fun k=>E.testBit k).map fun k=>2^k
theorem qE0 {E t:Nat}:t∈sgF E↔∃ k,k<12/\E.testBit k=true/\t=2^k:=by
 unfold sgF;rw[hA9];exact⟨fun ⟨k,h,e⟩=>⟨k,hAt.mp (hAf.mp h).1,(hAf.mp h).2,e.symm⟩,fun ⟨k,h1,h2,e⟩=>⟨k,hAf.mpr ⟨hAt.mpr h1,h2⟩,e.symm⟩⟩
theorem law_one {N:List Nat} {E:Nat} (ls:∀ t∈N,Lst N t) (lE:E<2^12) (inE:∀ t∈N,Inn t E):(hpF (N++sgF E)).length=1↔OneB (Spn N) E:=by
 have nz:∀ t∈N++sgF E,t≠0:=fun t ht=>by
  rcases hAb.mp ht with q | q
  ·exact(ls t q).2.1
  ·obtain⟨k,_,_,rfl⟩:=qE0.mp q;exact hCn (hDj (by decide))
 have I:=hp_out _ nz;refine heaps_one I.dis I.nz (fun h hh i hi=>?_) (fun i hi=>?_) ls (fun t ht=>I.inn t (hAg _ ht)) fun z hz=>I.cl z fun t ht=>?_
 ·obtain⟨t,ht,b⟩:=I.bits h hh i hi;rcases hAb.mp ht with q | q
  ·exact inE t q i b
  ·obtain⟨k,_,e,rfl⟩:=qE0.mp q;rw[hB7,decide_eq_true_iff]at b;subst b;exact e
 ·have il:i<12:=by
   by_cases q:i<12
   ·exact q
   ·rw[qCt lE (by omega)]at hi;cases hi
  obtain⟨g,hg,q⟩:=I.inn (2^i) (hA8 _ (qE0.mpr ⟨i,il,hi,rfl⟩));exact⟨g,hg,q i (by rw[hB7,decide_eq_true rfl])⟩
 ·rcases hAb.mp ht with q | q
  ·exact hz t q
  ·obtain⟨k,_,e,rfl⟩:=qE0.mp q;by_cases w:z.testBit k=true
   ·left
    intro i hi;rw[hB7,decide_eq_true_iff]at hi;subst hi;exact w
   ·right
    refine qDf fun i hi hz=>?_
    rw[hB7,decide_eq_true_iff]at hi;subst hi;exact w hz
end My
namespace My
open PySem L2
def QuP (N:List Nat) (m w:Nat):Prop:=OneB (fun u=>Spn N u/\u&&&w=0) ((2^m - 1)^^^w)
theorem e_bit {m w:Nat} (lw:w<2^m) (i:Nat):((2^m - 1)^^^w).testBit i=true↔i<m/\w.testBit i=false:=by
 rw[hB2,qC0];by_cases q:i<m
 ·rw[decide_eq_true q];cases w.testBit i <;> simp[q]
 ·rw[decide_eq_false q,qCt lw (by omega)];simp[q]
theorem qDp {names:List Str} (nd:names.Nodup) {z i:Nat} {n:Str} (hi:names[i]?=some n):n∈rowL names z↔z.testBit i=true:=by
 rw[qBi];constructor
 ·rintro⟨j,hj,e,b⟩;rw[qGo nd hi e];exact b
 ·intro b;exact⟨i,(hAv.mp hi).1,hi,b⟩
theorem lb {names:List Str} (r:List Str) {i:Nat} {n:Str} (hi:names[i]?=some n):(rv names.length (qAt names r)).testBit i=true↔n∈r:=by
 have il:=(hAv.mp hi).1;rw[qBj,qA0,decide_eq_true il,decide_eq_true (show names.length - 1 - i<names.length by omega),show names.length - 1 - (names.length - 1 - i)=i by omega];simp[hi]
theorem rest_mem {names:List Str} {w:Nat} {n:Str}:n∈restF names (rowL names w++[])↔n∈names/\n∉rowL names w:=by
 unfold restF;rw[hAf,hBe];simp
theorem quiet_code {names:List Str} {rows:List (List Str)} (tok:TabOk names rows) {w:Nat} (lw:w<2^names.length) {S M S':List Nat} (pS:S.Perm (red (rows.map (qAt names))))
  (pM:M.Perm (red ((qEn names S (rowL names w)).map (piM names (restF names (rowL names w++[])))))) (pS':S'.Perm (red ((M.map (rowM (restF names (rowL names w++[])))).map (qAt (restF names (rowL names w++[])))))) :
  (S'.foldl blS ((List.range (restF names (rowL names w++[])).length).map fun k=>2^k)).length=1↔QuP (numL names rows) names.length w:=by
 have nd:=qEa tok.rn;obtain⟨rest,hrest⟩:∃ rest,rest=restF names (rowL names w++[]):=⟨_,rfl⟩;have rm:∀ {n:Str},n∈rest↔n∈names/\n∉rowL names w:=fun {n}=>by rw[hrest];exact rest_mem
 have ndr:rest.Nodup:=by rw[hrest];exact nd.sublist hBb
 rw[<-hrest]at pM pS' ⊢;clear hrest;have sub:∀ n∈rest,n∈names:=fun n hn=>(rm.mp hn).1
 have ltM:∀ z∈M,z<2^rest.length:=fun z hz=>qF9 (fun x hx=>by obtain⟨y,_,rfl⟩:=hA9.mp hx;exact qEi _ _) z (pM.mem_iff.mp hz)
 have eM:(M.map (rowM rest)).map (qAt rest)=M:=by
  rw[hAo]
  conv=>rhs;rw[<-hDk M]
  exact hBs fun c hc=>qDd ndr (ltM c hc)
 rw[eM]at pS';have ltS':∀ s∈S',s<2^rest.length:=fun s hs=>qF9 ltM s (pS'.mem_iff.mp hs)
 rw[blocks_one ((qC1 _).perm pS') ltS'];have sp':∀ y,Spn S' y↔∃ z,Spn S z/\(∀ n∈rowL names w,chi names z n=false)/\y=piM names rest z:=fun y=>by
  rw[qCd pS',qCw,qCd pM,qCw,pi_spn nd sub];constructor
  ·rintro⟨z,hz,e⟩;obtain⟨a,b⟩:=(lackA_spn nd S _ (fun n hn=>by obtain⟨i,hi,e,_⟩:=qBi.mp hn;exact hAd e) z).mp hz;exact⟨z,a,b,e⟩
  ·rintro⟨z,a,b,e⟩;exact⟨z,(lackA_spn nd S _ (fun n hn=>by obtain⟨i,hi,e,_⟩:=qBi.mp hn;exact hAd e) z).mpr ⟨a,b⟩,e⟩
 have gN:=tok.num.1;have ltN:∀ u,Spn (numL names rows) u->u<2^names.length:=fun u hu=>Spn.lt (fun y hy=>(gN y hy).1) hu
 have iE:∀ u,Spn (numL names rows) u/\u&&&w=0->Inn u ((2^names.length - 1)^^^w):=fun u ⟨h1,h2⟩ i hi=>by
  rw[e_bit lw];refine⟨?_,?_⟩
  ·by_cases q:i<names.length
   ·exact q
   ·rw[qCt (ltN u h1) (by omega)]at hi;cases hi
  ·cases q:w.testBit i with
   | false=>rfl
   | true=>exact(qBk h2 hi q).elim
 have ltE:∀ z,Inn z ((2^names.length - 1)^^^w)->z<2^names.length:=fun z hz=>hBi _ fun i hi=>by
  cases q:z.testBit i with
  | false=>rfl
  | true=>have:=((e_bit lw i).mp (hz i q)).1;omega
 have inr:∀ {z:Nat} {n:Str},Inn z ((2^names.length - 1)^^^w)->n∈rowL names z->n∈rest:=fun {z n} hz hn=>by
  obtain⟨i,hi,e,b⟩:=qBi.mp hn;refine rm.mpr ⟨hAd e,fun h=>?_⟩;have:=(qDp nd e).mp h;rw[((e_bit lw i).mp (hz i b)).2]at this;cases this
 have back:∀ z,Inn z ((2^names.length - 1)^^^w)->rv names.length (qAt names (rowM rest (qAt rest (rowL names z))))=z:=fun z hz=>hAn fun i=>by
  by_cases il:i<names.length
  ·have e:names[i]?=some names[i]:=hA2 il;rw[hD9,lb _ e,<-qDp nd e];constructor
   ·intro h;have hr:=rowM_sub h;have:=chi_mask ndr (rowL names z) hr;rw[show chi rest (qAt rest (rowL names z)) names[i]=true from decide_eq_true h]at this;exact of_decide_eq_true this.symm
   ·intro h;have:=chi_mask ndr (rowL names z) (inr hz h);rw[decide_eq_true h]at this;exact of_decide_eq_true this
  ·rw[qBj,decide_eq_false il,qCt (ltE z hz) (by omega)];rfl
 symm
 refine OneB.tr (φ:=fun z=>qAt rest (rowL names z)) (ψ:=fun z=>rv names.length (qAt names (rowM rest z))) iE (fun u hu=>?_) (fun z hz=>⟨?_,back z hz⟩) (fun z hz=>⟨?_,?_⟩) (fun u z hu hz=>?_) (fun u hu=>?_) ?_ ?_
 ·have:=Spn.lt ltS' hu;intro i hi;rw[qC0,decide_eq_true_iff];by_cases q:i<rest.length
  ·exact q
  ·rw[qCt this (by omega)]at hi;cases hi
 ·intro i hi;rw[qC0,decide_eq_true_iff];by_cases q:i<rest.length
  ·exact q
  ·rw[qCt (qEi _ _) (by omega)]at hi;cases hi
 ·intro i hi;have il:i<names.length:=by
   by_cases q:i<names.length
   ·exact q
   ·rw[qBj,decide_eq_false q]at hi;cases hi
  have e:names[i]?=some names[i]:=hA2 il;have h:=rm.mp (rowM_sub ((lb _ e).mp hi));refine(e_bit lw i).mpr ⟨il,?_⟩;cases q:w.testBit i with
  | false=>rfl
  | true=>exact absurd ((qDp nd e).mpr q) h.2
 ·have zl:z<2^rest.length:=hBi _ fun i hi=>by
   cases q:z.testBit i with
   | false=>rfl
   | true=>have:=hz i q;rw[qC0,decide_eq_true_iff]at this;omega
  refine(mask_ext (r':=rowM rest z) fun n hn=>?_).trans (qDd ndr zl);obtain⟨i,il,e⟩:=hBy (sub n hn);have e':names[i]?=some n:=by rw[hA2 il,e]
  rw[qDp nd e',lb _ e']
 ·refine hAn fun j=>?_
  rw[hBg,qA0,qA0,qA0];by_cases jl:j<rest.length
  ·have e:rest[rest.length - 1 - j]?=some rest[rest.length - 1 - j]:=hA2 (by omega);obtain⟨i,il,e2⟩:=hBy (sub _ (hAd e));have e':names[i]?=some rest[rest.length - 1 - j]:=by rw[hA2 il,e2]
   have f:∀ x,decide (∃ n,rest[rest.length - 1 - j]?=some n/\n∈rowL names x)=x.testBit i:=fun x=>by
    rw[hD9,decide_eq_true_iff,<-qDp nd e'];exact⟨fun ⟨n,h1,h2⟩=>by rw[e]at h1;cases h1;exact h2,fun h=>⟨_,e,h⟩⟩
   rw[f,f,f,decide_eq_true jl,hBg];rfl
  ·rw[decide_eq_false jl];rfl
 ·show(Spn (numL names rows) u/\u&&&w=0)↔Spn S' (qAt rest (rowL names u));rw[sp'];constructor
  ·rintro⟨h1,h2⟩;refine⟨rv names.length u,(tok.spnS pS _).mpr ⟨qGx _ _,by rw[qCj (ltN u h1)];exact h1⟩,fun n hn=>?_,by show _=qAt rest (rowM names (rv names.length u));rw[qC8]⟩;refine decide_eq_false fun h=>?_
   rw[qC8]at h;obtain⟨i,hi,e,b⟩:=qBi.mp hn;exact qBk h2 ((qDp nd e).mp h) b
  ·rintro⟨z,h1,h2,h3⟩;obtain⟨zl,h4⟩:=(tok.spnS pS z).mp h1;have dz:rv names.length z&&&w=0:=qDf fun i hi hw=>by
    have il:i<names.length:=by
     by_cases q:i<names.length
     ·exact q
     ·rw[qCt lw (by omega)]at hw;cases hw
    have e:names[i]?=some names[i]:=hA2 il;have:=h2 _ ((qDp nd e).mpr hw);have h5:=(qDp nd e).mpr hi;rw[<-qC8,qCj zl]at h5;exact of_decide_eq_false this h5
   have iz:=iE _ ⟨h4,dz⟩;have ez:qAt rest (rowL names (rv names.length z))=qAt rest (rowL names u):=by
    rw[h3,<-qC8,qCj zl]
   have:=back _ iz;rw[ez,back u hu]at this;rw[this];exact⟨h4,dz⟩
 ·show qAt rest (rowL names 0)=0;have:rowL names 0=[]:=by
   rw[List.eq_nil_iff_forall_not_mem];intro n hn;obtain⟨i,_,_,b⟩:=qBi.mp hn;rw[hBq]at b;cases b
  rw[this,mask_nil]
 ·show qAt rest (rowL names ((2^names.length - 1)^^^w))=2^rest.length - 1;refine hAn fun j=>?_
  rw[qA0,qC0];by_cases jl:j<rest.length
  ·have e:rest[rest.length - 1 - j]?=some rest[rest.length - 1 - j]:=hA2 (by omega);obtain⟨h1,h2⟩:=rm.mp (hAd e);obtain⟨i,il,e2⟩:=hBy h1;have e':names[i]?=some rest[rest.length - 1 - j]:=by rw[hA2 il,e2]
   rw[decide_eq_true jl,hBm];refine decide_eq_true ⟨_,e,(qDp nd e').mpr ((e_bit lw i).mpr ⟨il,?_⟩)⟩;cases q:w.testBit i with
   | false=>rfl
   | true=>exact absurd ((qDp nd e').mpr q) h2
  ·rw[decide_eq_false jl];rfl
theorem QuP.congr {N N':List Nat} (h:∀ u,Spn N u↔Spn N' u) {m w:Nat}:QuP N m w↔QuP N' m w:=OneB.congr fun u=>by rw[h]
theorem quiet_law {N Q:List Nat} {m w:Nat} (m12:m<=12) (lw:w<2^m) (ltN:∀ u,Spn N u->u<2^m) (sp:∀ u,Spn Q u↔Spn N u/\u&&&w=0) (ls:∀ t∈Q,Lst Q t):(hpF (Q++sgF ((2^m - 1)^^^w))).length=1↔QuP N m w:=by
 rw[law_one ls]
 ·exact OneB.congr sp
 ·refine hAl (hCf (by have:=Nat.two_pow_pos m;omega) lw) (hB9 (by decide) m12)
 ·intro t ht i hi;obtain⟨h1,h2⟩:=(sp t).mp (.mem ht);refine(e_bit lw i).mpr ⟨?_,?_⟩
  ·by_cases q:i<m
   ·exact q
   ·rw[qCt (ltN t h1) (by omega)]at hi;cases hi
  ·cases q:w.testBit i with
   | false=>rfl
   | true=>exact(qBk h2 hi q).elim
end My
namespace My
open PySem L2
def WaP (N:List Nat) (m x:Nat):Prop:=(x<2^m/\∀ s∈N,dot m x s=false)/\x≠0/\∀ o,(o<2^m/\∀ s∈N,dot m o s=false)->o≠0->Inn o x->o=x
theorem rowL_inj {names:List Str} (nd:names.Nodup) {x y:Nat} (hx:x<2^names.length) (hy:y<2^names.length) (e:rowL names x=rowL names y):x=y:=by
 have:=congrArg (qAt names) e;rw[qDm nd,qDm nd]at this;rw[<-qCj hx,this,qCj hy]
theorem walls_mem {names:List Str} {rows:List (List Str)} (tok:TabOk names rows) {S C M L:List Nat} {F:List (List Str)} (pS:S.Perm (red (rows.map (qAt names)))) (pC:C.Perm (red (crAll S names.length))) (pM:M.Perm (red ((C.map (rowM names)).map (qAt names)))) (pL:L.Perm (sumF M)) (so:L.Pairwise (·<=·)) (pF:F.Perm ((rmF L).map (rowM names))) :
  F.Nodup/\∀ row,row∈F↔∃ x,WaP (numL names rows) names.length x/\row=rowL names x:=by
 have nd:=qEa tok.rn;obtain⟨g,e⟩:=tok.num;have rS:RR S:=(qC1 _).perm pS;have lS:∀ s∈S,s<2^names.length:=fun s hs=>((tok.spnS pS s).mp (.mem hs)).1
 have lc:∀ x∈crAll S names.length,x<2^names.length:=fun x hx=>((cr_spn rS lS x).mp (.mem hx)).1
 have ltC:∀ c∈C,c<2^names.length:=fun c hc=>qF9 lc c (pC.mem_iff.mp hc)
 have eC:(C.map (rowM names)).map (qAt names)=C:=by
  rw[hAo]
  conv=>rhs;rw[<-hDk C]
  exact hBs fun c hc=>qDd nd (ltC c hc)
 rw[eC]at pM;have rrM:RR M:=(qC1 _).perm pM;have ndL:L.Nodup:=pL.nodup_iff.mpr (sumF_nd M rrM);have lt:L.Pairwise (· < ·):=(so.and ndL).imp fun {a b} h=>Nat.lt_of_le_of_ne h.1 h.2
 have mL:∀ z,z<2^names.length->(rv names.length z∈L↔z<2^names.length/\∀ s∈numL names rows,dot names.length z s=false):=fun z zl=>by
  rw[pL.mem_iff,qD6,qCd pM,qCw,qCd pC,qCw,cr_spn rS lS];constructor
  ·rintro⟨_,h⟩;refine⟨zl,fun s hs=>?_⟩;have hs':rv names.length s∈S:=pS.mem_iff.mpr (by rw[<-e];exact hA9.mpr ⟨s,hs,rfl⟩);have:=h _ hs';rw[dot_rv]at this;exact this
  ·rintro⟨_,h⟩;refine⟨qGx _ _,fun s hs=>?_⟩;have hs':=pS.mem_iff.mp hs;rw[<-e]at hs';obtain⟨t,ht,rfl⟩:=hA9.mp hs';rw[dot_rv];exact h t ht
 have ltL:∀ z∈L,z<2^names.length:=fun z hz=>by
  rw[pL.mem_iff,qD6,qCd pM,qCw]at hz;exact Spn.lt ltC hz
 have mR:∀ x,x<2^names.length->(rv names.length x∈rmF L↔WaP (numL names rows) names.length x):=fun x xl=>by
  rw[mem_rmF L lt,mL x xl];unfold WaP;refine and_congr_right fun _=>?_
  constructor
  ·rintro⟨h1,h2⟩;refine⟨fun z=>h1 (by rw[z,qDx]),fun o ho oz oi=>?_⟩;have:=h2 (rv names.length o) ((mL o ho.1).mpr ho) (rv_ne ho.1 oz) (inn_rv oi);rw[<-qCj ho.1,this,qCj xl]
  ·rintro⟨h1,h2⟩;refine⟨rv_ne xl h1,fun y hy yz yi=>?_⟩;have yl:=ltL y hy;have hy':rv names.length (rv names.length y)∈L:=by rw[qCj yl];exact hy
   have i2:Inn (rv names.length y) x:=by
    have:=inn_rv (m:=names.length) yi;rw[qCj xl]at this;exact this
   have:=h2 (rv names.length y) ((mL _ (qGx _ _)).mp hy') (rv_ne yl yz) i2;rw[<-this,qCj yl]
 have lR:∀ z∈rmF L,z<2^names.length:=fun z hz=>ltL z (rmF_mem L z hz).1
 refine⟨pF.nodup_iff.mpr (hAz.mpr ((ndL.sublist (rmF_sub L)).imp_of_mem fun {a b} ha hb ne e=>ne (by rw[<-qDd nd (lR a ha),<-qDd nd (lR b hb),e]))),fun row=>?_⟩
 ·rw[pF.mem_iff,hA9];constructor
  ·rintro⟨z,hz,rfl⟩;have zl:=lR z hz;exact⟨rv names.length z,(mR _ (qGx _ _)).mp (by rw[qCj zl];exact hz),by rw[<-qC8,qCj zl]⟩
  ·rintro⟨x,hx,rfl⟩;exact⟨rv names.length x,(mR x hx.1.1).mpr hx,qC8 x⟩
def QuR (names:List Str) (rows:List (List Str)) (row:List Str):Prop:=QuP (numL names rows) names.length (rv names.length (qAt names row))
theorem QuR.of {names:List Str} {rows:List (List Str)} (nd:names.Nodup) {x:Nat} (hx:x<2^names.length):QuR names rows (rowL names x)↔QuP (numL names rows) names.length x:=by
 unfold QuR;rw[qDm nd,qCj hx]
open Classical in
noncomputable def quF (names:List Str) (rows:List (List Str)) (ps:List (Addr×List Str)):List (Addr×List Str):=ps.filter fun p=>decide (QuR names rows p.2)
theorem rest_tok {names:List Str} {rows:List (List Str)} (tok:TabOk names rows) (g:List Str) {M:List Nat} (lM:M.length<=12) (ltM:∀ z∈M,z<2^(restF names g).length):TabOk (restF names g) (M.map (rowM (restF names g))):=by
 refine⟨List.Pairwise.sublist hBb tok.rn,fun x hx=>tok.ok x (hAf.mp hx).1,hAr (hAm _ _) tok.ln,by rw[hA1];omega,fun r hr=>?_⟩;obtain⟨c,hc,rfl⟩:=hA9.mp hr;exact⟨rv (restF names g).length c,by rw[<-qC8,qCj (ltM c hc)]⟩
def spIsQ:Sp:=fun vs H Q _=>∃ (T pw:Addr) (names:List Str) (rows:List (List Str)) (x:Nat),vs=[.ref T,.ref pw]/\qC5 H T names rows/\TabOk names rows/\LsS H pw (rowL names x)/\x<2^names.length/\∀ (b:Bool) (H':Hp),Ext H H'->(b=true↔QuP (numL names rows) names.length x)->Q (.bl b) H'
def spQuO (Pt:Addr):Sp:=fun vs H Q _=>∃ (T:Addr) (names:List Str) (rows:List (List Str)),vs=[.ref T]/\qC5 H T names rows/\TabOk names rows/\TabW H Pt lpI qI/\∀ (r:Addr) (ps:List (Addr×List Str)) (H':Hp),ExtB Pt H H'->H r=none->H' r=some (.lst (ps.map fun p=>V.ref p.1))->(∀ p∈ps,LsS H' p.1 p.2/\H p.1=none/\p.1≠r)->(ps.map Prod.fst).Nodup->ps.length<=4096->RwO (ps.map Prod.snd)->(ps.map Prod.snd).Nodup->(∀ row,row∈ps.map Prod.snd↔∃ x,WaP (numL names rows) names.length x/\QuP (numL names rows) names.length x/\row=rowL names x)->TabW H' Pt lpI qI->Q (.ref r) H'
theorem rowL_len (names:List Str) (x:Nat):(rowL names x).length<=names.length:=by
 unfold rowL;have:=List.length_filterMap_le (fun i=>if x.testBit i=true then names[i]? else none) (List.range names.length);rw[hAy]at this;exact this
section
variable {P:Program} {w:World} {K:PySem.W.Frag} {mg:Str->Option Value} {base:Heap} {f f1 f2 Pt:Addr} {fd fd1 fd2:FuncData}
theorem scIsQ:FnScope ["table","wall"] ["table","wall"] (qAb sIsQ):=⟨rfl,rfl,rfl,by decide +kernel,rfl,by decide +kernel,by decide +kernel⟩
theorem ok_isq (F:Fun K "is_quiet" "is_quiet" sIsQ f fd)
  (G1:Cl P w K mg base CX0 4 f1 fd1 ["table","taken","shrunk_ones"] spLeft "left")
  (G2:Cl P w K mg base CX0 4 f2 fd2 ["table"] spBlo "blocks")
  (ml:mg "len" = none):FnOk P w K mg base CX0 5 f fd ["table","wall"] spIsQ:=by
 refine F.ok scIsQ (fun vs H Q E h=>?_) (fun cdv A outer s H vs Q E hr h=>?_)
 ·obtain⟨T,pw,names,rows,x,rfl,_⟩:=h;rfl
 obtain⟨T,pw,names,rows,x,rfl,ti,tok,hw,hx,q⟩:=h;refine⟨_,pss_one (ps_ret (qDa qBl (qAj qAi rfl ml hAw (pa_cons (qAp G2 hr rfl .nil qAo (pa_cons (qAp G1 hr rfl .nil qAo (pa_cons (pv 0) (pa_cons (pv 1) (pa_cons (pe_lst pa_nil) pa_nil)))) pa_nil)) pa_nil)) qAc (qAq _))),?_⟩;try dsimp only[Cx.wish,qBy]
 have ln:=tok.ln;have lr:=tok.lr;have lw:=rowL_len names x;refine⟨_,rfl,_,rfl,hAp _,fun e0 he0=>?_⟩;have X0:=Ext.new he0 (.lst []);refine⟨T,pw,e0,names,rows,rowL names x,[],rfl,ti.ext X0,X0 _ _ hw,upd_same,qEa tok.rn,fun n hn=>?_,fun n hn=>(by cases hn),ln,by omega,by omega,by decide,fun T' S M H1 e1 T0 tf pS pM dM=>?_⟩
 ·obtain⟨i,_,e,_⟩:=qBi.mp hn;exact hAd e
 have ltM:∀ z∈M,z<2^(restF names (rowL names x++[])).length:=fun z hz=>qF9 (fun x hx=>by obtain⟨y,_,rfl⟩:=hA9.mp hx;exact qEi _ _) z (pM.mem_iff.mp hz)
 have lM:M.length<=12:=by
  have h1:=rr_len ((qC1 _).perm pM) ltM;have:(restF names (rowL names x++[])).length<=names.length:=hAm _ _;omega
 refine⟨T',_,_,rfl,tf.tin,rest_tok tok _ lM ltM,fun r rs S' H2 e2 r0 hrs pS' srt pr=>?_⟩;obtain⟨as,nd,hr',pra⟩:=hrs;refine⟨r,_,rfl,.inl (SqL.of hr'),rfl,q _ _ ((X0.trans e1).trans e2) ?_⟩;have key:=quiet_code tok hx pS pM pS';have la:as.length=rs.length:=pra.length;have lp:rs.length=(S'.foldl blS ((List.range (restF names (rowL names x++[])).length).map fun k=>2^k)).length:=by rw[pr.length_eq,hA1]
 rw[<-key,<-lp,<-la,decide_eq_true_iff,hA1];exact⟨fun h=>by have:=V.int.inj h;omega,fun h=>by rw[h];rfl⟩
theorem scQuiet:FnScope ["table"] ["table"] (qAb qF6):=⟨rfl,rfl,rfl,by decide +kernel,rfl,by decide +kernel,by decide +kernel⟩
theorem ok_quo (F:Fun K "quiet_ones" "quiet_ones" qF6 f fd)
  (G1:Cl P w K mg base CX0 5 f1 fd1 ["table"] (spWalls Pt) "walls")
  (G2:Cl P w K mg base CX0 5 f2 fd2 ["table","wall"] spIsQ "is_quiet"):FnOk P w K mg base CX0 6 f fd ["table"] (spQuO Pt):=by
 refine F.ok scQuiet (fun vs H Q E h=>?_) (fun cdv A outer s H vs Q E hr h=>?_)
 ·obtain⟨T,names,rows,rfl,_⟩:=h;rfl
 obtain⟨T,names,rows,rfl,ti,tok,tw,q⟩:=h;refine⟨_,pss_one (ps_ret (qBo (N:=["table"]) (sc:=qAb qF6) (N':=["wall","table"]) (sub:=[none,some 0]) rfl rfl (CmpOk.of (by decide +kernel)) rfl (qAn (qAp G1 hr rfl .nil qAo (pa_cons (pv 0) pa_nil))) (fun C s H fp=>⟨qAd (i:=0) (by show(["wall","table"]:List Str).Nodup;decide) rfl (Or.inl rfl),(qBh (qE9 (qAp G2 hr rfl .nil qAo (pa_cons (pv 1) (pa_cons (pv 0) pa_nil))))),(pv 0)⟩))),?_⟩;try dsimp only[Cx.wish,qBy]
 have ln:=tok.ln;have lr:=tok.lr;refine⟨_,rfl,T,names,rows,rfl,ti,ln,by omega,tw,fun r as F S C M L H1 eB r0 hr' prF nd new pS pC pM pL so pF soF tw1=>?_⟩;obtain⟨tb,hb⟩:=My.TabW.tb tw;obtain⟨tb1,hb1⟩:=My.TabW.tb tw1;have k1:=kp_B eB hb hb1;have ti1:=k1.tab ti;obtain⟨ndF,mF⟩:=walls_mem tok pS pC pM pL so pF;have la:as.length=F.length:=prF.length;have lF:F.length<=4096:=by
  rw[pF.length_eq,hA1];refine hAr (rmF_len L) ?_;rw[pL.length_eq,qCu];exact hAr (hB9 (by decide) (show M.length<=12 by have:=(step_rr pM).2.2;omega)) (by decide)
 refine⟨r,rfl,⟨_,SqL.of hr'⟩,?_⟩;refine qAs (xs:=as.map V.ref) (fun j ys H2=>Ext H1 H2/\ys=(quF names rows ((as.zip F).take j)).map fun p=>V.ref p.1) ⟨Ext.refl _,rfl⟩ (fun j ys H2 _ h=>SqL.of (h.1 _ _ hr')) ?_ ?_
 ·rintro j v ys H2 hx ⟨e2,rfl⟩;obtain⟨c,rfl,hc⟩:=qF8 hx;obtain⟨row,hrw,hc1⟩:=qB1 prF hc;have hj:=at_lt hc;have hz:(as.zip F)[j]?=some (c,row):=by rw[List.getElem?_zip_eq_some];exact⟨hc,hrw⟩
  obtain⟨x,hx2,rfl⟩:=(mF row).mp (hAd hrw);have st:quF names rows ((as.zip F).take (j+1))=quF names rows ((as.zip F).take j)++quF names rows [(c,rowL names x)]:=by
   unfold quF;rw[qAm hz,hBc]
  have lq:(quF names rows ((as.zip F).take j)).length<=j:=by
   unfold quF;refine hAr (hAm _ _) ?_;rw[hAi];omega
  refine⟨Sle.set _ (Sle.refl _) (fun u z=>by cases z),?_⟩;refine⟨_,rfl,_,rfl,T,c,names,rows,x,rfl,ti1.ext e2,tok,e2 _ _ hc1,hx2.1.1,fun b H3 e3 hb=>⟨b,rfl,?_⟩⟩;have one:quF names rows [(c,rowL names x)]=if b=true then [(c,rowL names x)] else []:=by
   have h1:QuR names rows (rowL names x)↔b=true:=(QuR.of (qEa tok.rn) hx2.1.1).trans hb.symm;unfold quF;by_cases z:b=true
   ·rw[if_pos z,List.filter_cons_of_pos (by simpa using h1.mpr z)];rfl
   ·rw[if_neg z,List.filter_cons_of_neg (by simpa using fun h=>z (h1.mp h))];rfl
  refine qBw (fun z=>?_) (fun z=>?_)
  ·refine⟨_,rfl,by rw[hA1];exact qA3 (by omega),nxt (at_lt hx) ⟨e2.trans e3,?_⟩⟩;rw[st,one,if_pos z,hA3];rfl
  ·refine nxt (at_lt hx) ⟨e2.trans e3,?_⟩;rw[st,one,if_neg z,hBe]
 ·rintro ys H2 ⟨e2,rfl⟩ l hl;rw[hA1,hA6 (by rw[List.length_zip];omega)];have Xl:=Ext.new hl (.lst ((quF names rows (as.zip F)).map fun p=>V.ref p.1));have E:=e2.trans Xl;have sub:(quF names rows (as.zip F)).Sublist (as.zip F):=hBb;have sf:((quF names rows (as.zip F)).map Prod.fst).Sublist as:=by
   have:=sub.map Prod.fst;rw[List.map_fst_zip (by omega)]at this;exact this
  have ss:((quF names rows (as.zip F)).map Prod.snd).Sublist F:=by
   have:=sub.map Prod.snd;rw[hCu (by omega)]at this;exact this
  refine q l _ _ (ExtB.trans eB E.toB) (k1.n l (e2.none hl)) upd_same (fun p hp=>?_) (nd.sublist sf) ?_ (soF.sublist ss) (ndF.sublist ss) (fun row=>?_) (My.TabW.extE tw1 E)
  ·have hm:=sub.mem hp;have h1:LsS H1 p.1 p.2:=qCo prF p hm;refine⟨E _ _ h1,new _ (hDq hm).1,fun z=>?_⟩;have:=e2 _ _ h1;rw[z,hl]at this;cases this
  ·have:=sub.length_le;rw[List.length_zip]at this;omega
  ·rw[hA9];constructor
   ·rintro⟨p,hp,rfl⟩;obtain⟨hm,hq⟩:=hAf.mp hp;obtain⟨x,hx2,ex⟩:=(mF p.2).mp (hDq hm).2;have hq:QuR names rows p.2:=by simpa using hq
    rw[ex]at hq;exact⟨x,hx2,(QuR.of (qEa tok.rn) hx2.1.1).mp hq,ex⟩
   ·rintro⟨x,h1,h2,rfl⟩;have hm:=(mF _).mpr ⟨x,h1,rfl⟩;obtain⟨i,hi,e⟩:=hBy hm;refine⟨(as[i]'(by omega),rowL names x),hAf.mpr ⟨hAd (i:=i) (by rw[List.getElem?_zip_eq_some];exact⟨hA2 (by omega),by rw[hA2 hi,e]⟩),?_⟩,rfl⟩
    simpa using (QuR.of (qEa tok.rn) h1.1.1).mpr h2
end
end My
namespace L2
open PySem PySem.Spec PyProof.Rows
section
variable {X:Cx}
theorem call_maxI (hc:X.calm=true):qB9 X (.builtin "max") (fun xs H Q=>∃ (p:Addr) (ns:List Int),xs=[.ref p]/\SqL X.K H p (ns.map V.int)/\ns≠[]/\∀ M,M∈ns->(∀ a,a∈ns->a<=M)->Q (.int M) H):=by
 intro pins s σ H xs us Q I r h;obtain⟨p,ns,rfl,hq,ne,q⟩:=h;obtain⟨u,rfl,rx⟩:=qCs r;cases rx;obtain⟨its,rv,pl,hz⟩:=I.list hq;obtain⟨ys,rfl,rfl⟩:=ints_of rv;have e:(ys.map (fun p=>Value.int p.1 p.2)).toArray=intItems ys.toArray:=by unfold intItems;simp
 have pl':=pl.isList;rw[e]at pl';have hsz:0<ys.toArray.size:=by
  rw[hAa];cases ys with
  | nil=>exact absurd rfl ne
  | cons _ _=>exact hE4 _
 refine max_intList (I.ok.hd hc) pl' hsz fun v h' tk hv hk=>?_
 obtain⟨t,rfl⟩:=intItems_at hv;obtain⟨h1,h2⟩:=argBest_gt (numAt ys.toArray) (ys.toArray.size - 1);refine⟨.int _,H,I.kept (t':=tk) hk,⟨t,rfl⟩,q _ ?_ fun a ha=>?_⟩
 ·rw[numAt_eq];exact getD_mem (by rw[hA1,hC1];exact hCy h1 (Nat.sub_lt hsz Nat.one_pos))
 ·obtain⟨j,hj,rfl⟩:=mem_getD (by simpa using ha:a∈ys.toArray.toList.map (·.1));rw[hA1,hC1]at hj;rw[<-numAt_eq];exact h2 j (Nat.le_sub_one_of_lt hj)
def rIndexI (K:PySem.W.Frag):V->List V->Hp->VK->Prop:=fun x vs H Q=>∃ (l:Addr) (ns:List Int) (z:Int),x = .ref l/\vs=[.int z]/\H l=some (.lst (ns.map V.int))/\z∈ns/\ns.length<1000/\∀ j:Nat,ns[j]?=some z->Q (.int (j:Nat)) H
theorem first_at {ns:List Int} {z:Int} (h:z∈ns):∃ j:Nat,ns[j]?=some z/\∀ k,k<j->ns[k]?≠some z:=by
 induction ns with
 | nil=>cases h
 | cons a l ih =>
  by_cases e:a=z
  ·exact⟨0,by rw[e];rfl,fun k hk=>by omega⟩
  ·obtain⟨j,h1,h2⟩:=ih ((hAh.mp h).resolve_left fun w=>e w.symm);refine⟨j+1,h1,fun k hk=>?_⟩;cases k with
   | zero=>intro w;exact e (hAu w)
   | succ k=>exact h2 k (by omega)
theorem mt_indexI:MtR X "list.index" (rIndexI X.K):=by
 intro pins s σ H x vs v us Q I rx rv h;obtain⟨l,ss,z,rfl,rfl,hH,hmem,hsm,q⟩:=h;obtain⟨j,hj,hno⟩:=first_at hmem;have q:=q j hj;cases rx;obtain⟨u,rfl,ru⟩:=rv.one;obtain⟨t,rfl⟩:=ru;obtain⟨zz,its,n,r,hl,e⟩:=I.lstM hH;have at_:∀ k (hk:k<its.length),∃ y t',ss[k]?=some y/\its[k]=Value.int y t':=fun k hk=>by
  have hk':k<ss.length:=by rw[hA1]at hl;omega
  obtain⟨w,hw,rw'⟩:=r.get (i:=k) (x:=V.int ss[k]) (by rw[hAs,hA2 hk'];rfl);obtain⟨t',rfl⟩:=rw';rw[hA2 hk]at hw;exact⟨ss[k],t',hA2 hk',hAu hw⟩
 have jl:j<its.length:=by
  have:=(hAv.mp hj).1;rw[hA1]at hl;omega
 refine call_meets F.slot_list_index ⟨_,e,rfl⟩ F.entry_list_index (F.args_list_index_2 _ _)
  (MeetsSeq.list_index l its.toArray n (.int z t) (fun y=>match y with | .int y _=>y == z | _=>false) (fun y hy=>?_) j (by rw[hAa];exact jl) (by have:=(hAv.mp hj).1;omega) ?_ (fun m hm hmj=>?_)) ⟨e,⟨.int _,H,I.tok _,⟨_,rfl⟩,q⟩⟩
 ·have hy':y∈its:=by simpa using hy
  obtain⟨k,hk,rfl⟩:=hBy hy';obtain⟨y,t',_,e2⟩:=at_ k hk;rw[e2];exact MeetsSeq.EqGives.int y z t' t
 ·obtain⟨y,t',h1,e2⟩:=at_ j jl;have:its.toArray[j]=Value.int y t':=by simpa using e2
  rw[this];rw[hj]at h1;cases h1;exact beq_self_eq_true _
 ·have hm':m<its.length:=by simpa using hm
  obtain⟨y,t',h1,e2⟩:=at_ m hm';have:its.toArray[m]=Value.int y t':=by simpa using e2
  rw[this];show(y == z)=false;rw[beq_eq_false_iff_ne];intro w;exact hno m hmj (by rw[h1,w])
end
end L2
namespace L2
open PySem PySem.Spec PyProof.Rows PySem.W
theorem qB6.keeps {h h':Heap} {v:Value} {t:List Str} (k:qB6 h v t) (e:∀ b o,h.get? b=some o->h'.get? b=some o):qB6 h' v t:=by
 obtain⟨k,a,tok,its,ev,⟨o,e1,c,n,d⟩,⟨o1,e2,c1,n1,d1⟩,st⟩:=k;exact⟨k,a,tok,its,ev,⟨o,e _ _ e1,c,n,d⟩,⟨o1,e _ _ e2,c1,n1,d1⟩,st⟩
theorem qGg {h:Heap}:∀ {ps:List (Addr×List Str)},(∀ p∈ps,qB6 h (.ref p.1) p.2)->Paired (fun v p=>qB6 h v p.2) (ps.map fun p=>Value.ref p.1) ps
 | [],_=>.nil
 | p :: ps,k=>.cons (k p (.head _)) (qGg fun q hq=>k q (.tail _ hq))
section
variable {P:Program} {w:World} {A:Around} {E:Value->Shared->Prop} {s:Shared}
theorem sort_KT {a:Addr} {ps:List (Addr×List Str)} {n:Nat} {R:_} (ho:s.heap.get? a=some (seqObj "list" (ps.map fun p=>Value.ref p.1).toArray n)) (hk:∀ h':Heap,(∀ b o,b≠a->s.heap.get? b=some o->h'.get? b=some o)->∀ p∈ps,qB6 h' (.ref p.1) p.2) (hn:ps.length<=5000) (hu:A.units<cLine)
  (h:∀ (ps':List (Addr×List Str)),ps'.Perm ps->ps'.Pairwise (fun p q=>kLt q.2 p.2=false)->R (.done (.ret .none)) { s with heap:=sortedHeap s.heap a (ps.map fun p=>Value.ref p.1) (ps'.map fun p=>Value.ref p.1).toArray }):wpAny (model P w) A (Builtin.«list.sort» ⟨[.ref a],[]⟩) R E s:=by
 rw[list_sort_plain];have lv:(ps.map fun p=>Value.ref p.1).length=ps.length:=hA1 ..;have ha:a<s.heap.objs.size:=Heap.lt_size ho;refine wpAny_bind (listItems_at ho rfl (wpAny_bind (listUpdate_at ho rfl ?_ (by rw[hAa,sizeLine_eq];omega) (hAp _))));obtain⟨e1,ho1⟩:∃ e1,(s.heap.update a (Obj.mapSeq fun _=>#[])).get? a=some (seqObj "list" #[] e1):=⟨_,get?_update_seq ho (fun _=>#[])⟩;refine wpAny_bind (seqEpoch_at ho1 rfl (wpAny_bind (wpAny_newTuple ?_ (by show(ps.map fun p=>Value.ref p.1).length<=_;rw[sizeLine_eq];omega))));refine wpAny_bind (wpAny_newList ?_ (hAp _));refine wpAny_holding ?_;have ho6:(((s.heap.update a (Obj.mapSeq fun _=>#[])).push (seqObj "tuple" (ps.map fun p=>Value.ref p.1).toArray 0)).push (seqObj "list" #[] 0)).get? a=some (seqObj "list" #[] e1):=Heap.get?_push_of_some _ (Heap.get?_push_of_some _ ho1);have keep:∀ b o,b≠a->s.heap.get? b=some o->(((s.heap.update a (Obj.mapSeq fun _=>#[])).push (seqObj "tuple" (ps.map fun p=>Value.ref p.1).toArray 0)).push (seqObj "list" #[] 0)).get? b=some o:=fun b o hb e=>by
  refine Heap.get?_push_of_some _ (Heap.get?_push_of_some _ ?_);rw[Heap.get?_update_ne _ _ _ _ hb];exact e
 have keys:=hk _ keep;show wpAny (model P w) A _ R E { s with heap:=((s.heap.update a (Obj.mapSeq fun _=>#[])).push (seqObj "tuple" (ps.map fun p=>Value.ref p.1).toArray 0)).push (seqObj "list" #[] 0) };dsimp only;have fin:∀ (st':SortSt) (ps':List (Addr×List Str)),(arrOf st').map (·.2)=(ps'.map fun p=>Value.ref p.1).toArray->failedOf st'=none->ps'.Perm ps->ps'.Pairwise (fun p q=>kLt q.2 p.2=false)->wpAny (model P w) A (do
   let touched:=(← seqEpoch a) != e1
   Builtin.List.listUpdate (.ref a) fun _=>(arrOf st').map (·.2)
   if let some e:=failedOf st' then rule "list.sort.comparison-raised";throw e
   if touched then rule "list.sort.modified";raiseError "ValueError" "list modified during sort"
   ret .none) R E { s with heap:=((s.heap.update a (Obj.mapSeq fun _=>#[])).push (seqObj "tuple" (ps.map fun p=>Value.ref p.1).toArray 0)).push (seqObj "list" #[] 0) }:=by
  intro st' ps' e hf hp hs;refine wpAny_bind (seqEpoch_at ho6 rfl ?_);refine wpAny_bind (listUpdate_at ho6 rfl ?_ (hAp _) (by rw[e,hAa,hA1,hp.length_eq,sizeLine_eq];omega));rw[hf];simp only[bne_self_eq_false,hBv,if_false];rw[e];exact wpAny_pure (h ps' hp hs)
 have ez:((ps.map fun p=>Value.ref p.1).toArray.zip (ps.map fun p=>Value.ref p.1).toArray).toList=ps.map fun p=>((Value.ref p.1,Value.ref p.1):Keyed):=by
  rw[hDz];show(ps.map fun p=>Value.ref p.1).zip (ps.map fun p=>Value.ref p.1)=_;rw[zip_dup,hAo];rfl
 by_cases h2:(ps.map fun p=>Value.ref p.1).toArray.size<2
 ·rw[if_pos h2,if_pos h2];refine wpAny_bind (wpAny_pure ?_);rw[StateT.run_pure];refine wpAny_bind (wpAny_pure (fin _ ps ?_ rfl (hCo _) ?_))
  ·show((ps.map fun p=>Value.ref p.1).toArray.zip (ps.map fun p=>Value.ref p.1).toArray).map (·.2)=(ps.map fun p=>Value.ref p.1).toArray;apply hDl.mp;rw[hDm,ez,hAo];rfl
  ·rw[hAa,lv]at h2
   match ps,h2 with
   | [],_=>exact List.Pairwise.nil
   | [p],_=>exact hC5 ..
 ·rw[if_neg h2,if_neg h2];have hl2:2<=ps.length:=by rw[hAa,lv]at h2;omega
  obtain⟨fs,kt,fl,fa⟩:=qD0 (qGg keys);refine wpAny_bind (kat_kind (T:=.type "int") kt (by rw[fl,lv];omega) (fun v hv=>?_) (by decide) ?_)
  ·obtain⟨x,t,rfl⟩:=fa v hv;exact .now
  show wpAny _ _ (sortRuns'.run (SortSt.mk' (tuples' true) _ #[] 7 none) >>= _) _ _ _;generalize hS:({ s with heap:=((s.heap.update a (Obj.mapSeq fun _=>#[])).push (seqObj "tuple" (ps.map fun p=>Value.ref p.1).toArray 0)).push (seqObj "list" #[] 0) }:Shared)=s6 at fin ⊢;have keys:∀ p∈ps,qB6 s6.heap (.ref p.1) p.2:=by rw[<-hS];exact keys
  have ex:∀ x:Keyed,∃ r:Int,∀ t,qB6 s6.heap x.1 t->r=(rankT (ps.map Prod.snd) t:Int):=fun x=>by
   by_cases c:∃ t,qB6 s6.heap x.1 t
   ·obtain⟨t,ht⟩:=c;exact⟨(rankT (ps.map Prod.snd) t:Int),fun u hu=>by rw[ht.uniq hu]⟩
   ·exact⟨0,fun t ht=>absurd ⟨t,ht⟩ c⟩
  obtain⟨rk,hrk⟩:∃ rk:Keyed->Int,∀ x t,qB6 s6.heap x.1 t->rk x=(rankT (ps.map Prod.snd) t:Int):=⟨fun x=>Classical.choose (ex x),fun x=>Classical.choose_spec (ex x)⟩;have ak:qGw P w A E s6 rk (tuples' true) (fun x=>∃ t∈ps.map Prod.snd,qB6 s6.heap x.1 t):=asks_of fun x y ⟨t,ht,kx⟩ ⟨u,hu',ky⟩ Q hq=>by
   rw[hrk x t kx,hrk y u ky,rankT_eq ht hu']at hq;exact keyLt_T hu kx ky hq
  refine wpAny_bind (run_sort ak (fun x hx=>?_) fun st' hf dn=>?_)
  ·rw[ez]at hx;obtain⟨p,hp,rfl⟩:=hA9.mp hx;exact⟨_,hA9.mpr ⟨p,hp,rfl⟩,keys p hp⟩
  ·obtain⟨Z,pZ,eZ⟩:=qGe dn.1 ps ez;refine fin st' Z ?_ hf pZ ?_
   ·apply hDl.mp;rw[hDm,<-eZ,hAo];rfl
   ·have so:=dn.2;rw[<-eZ]at so;have so:=hAz.mp so;refine so.imp_of_mem fun {x y} hx hy le=>?_
    have mx:=pZ.mem_iff.mp hx;have my:=pZ.mem_iff.mp hy;rw[hrk _ _ (keys x mx),hrk _ _ (keys y my)]at le;cases c:kLt y.2 x.2 with
    | false=>rfl
    | true =>
     have:=qFo (hA9.mpr ⟨y,my,rfl⟩) c;omega
end
section
variable {X:Cx} {k:Nat}
theorem call_sortedKT (hr:Room (k+2) X.A):qB9 X (.builtin "sorted") (fun xs H Q=>∃ (p:Addr) (ps:List (Addr×List Str)),xs=[.ref p]/\SqL X.K H p (ps.map fun p=>V.ref p.1)/\(∀ z∈ps,∃ a,SqT X.K H z.1 [.int z.2.length,.ref a]/\SqL X.K H a (z.2.map V.str))/\ps.length<=5000/\∀ (r:Addr) (ps':List (Addr×List Str)),H r=none->ps'.Perm ps->ps'.Pairwise (fun p q=>kLt q.2 p.2=false)->Q (.ref r) (upd H r (.lst (ps'.map fun p=>V.ref p.1)))):=by
 intro pins s σ H xs us Q I r h;obtain⟨p,ps,rfl,hq,ht,hn,q⟩:=h;obtain⟨u,rfl,rx⟩:=qCs r;cases rx;obtain⟨its,rv,pl,hz⟩:=I.list hq;have ei:its=ps.map fun p=>Value.ref p.1:=by
  have rv':qA9 ((ps.map Prod.fst).map V.ref) its:=by rw[hAo];exact rv
  have:=refs_of rv';rw[hAo]at this;exact this
 have hl:its.length=ps.length:=by rw[ei,hA1]
 have keys:∀ p∈ps,qB6 s.heap (.ref p.1) p.2:=fun p hp=>by
  obtain⟨a,h1,h2⟩:=ht p hp;obtain⟨i1,r1,t1,_⟩:=I.tuple h1;obtain⟨i2,r2,⟨o,n,g1,g2,_,g4⟩,_⟩:=I.list h2;cases r1 with
  | cons r1 rr =>
   cases rr with
   | cons r3 rr =>
    cases rr;obtain⟨tok,rfl⟩:=r1;cases r3;exact⟨p.1,a,tok,i2.toArray,rfl,t1,⟨o,g1,g2,n,g4⟩,by simpa using qDj r2⟩
 refine Calls.call_function_entry kind_sorted plain_sorted entry_sorted (args_sorted1 _) ?_;unfold Builtin.«sorted»;refine wpAny_bind (m:=checkCount "sorted" 1 1 _) (wpAny_pure (wpAny_bind (collect_list pl.isList ?_ (by rw[sizeLine_eq];omega))));refine wpAny_bind (wpAny_newList ?_ (by rw[sizeLine_eq];omega));have hsz:((s.heap.push (seqObj "list" #[] 0)).update s.heap.objs.size (Obj.mapSeq (·++its.toArray))).objs.size=s.heap.objs.size+1:=by rw[Heap.size_update,size_push']
 have hoL:(((s.heap.push (seqObj "list" #[] 0)).update s.heap.objs.size (Obj.mapSeq (·++its.toArray))).push (seqObj "list" its.toArray 0)).get? (s.heap.objs.size+1)=some (seqObj "list" its.toArray 0):=by
  rw[<-hsz];exact Heap.get?_push_size _ rfl
 have keep:∀ b o,s.heap.get? b=some o->(((s.heap.push (seqObj "list" #[] 0)).update s.heap.objs.size (Obj.mapSeq (·++its.toArray))).push (seqObj "list" its.toArray 0)).get? b=some o:=fun b o e=>by
  have hlt:b<s.heap.objs.size:=Heap.lt_size e;rw[Heap.get?_push_ne _ _ _ (by rw[hsz];exact hB0 (hDb hlt)),Heap.get?_update_ne _ _ _ _ (hB0 hlt),Heap.get?_push_ne _ _ _ (hB0 hlt)];exact e
 show wpAny _ _ _ _ _ { s with heap:=((s.heap.push (seqObj "list" #[] 0)).update s.heap.objs.size (Obj.mapSeq (·++its.toArray))).push (seqObj "list" its.toArray 0) };rw[hsz];subst ei;refine wpAny_bind (wpAny_holding (wpAny_call_entry slot_list_sort ⟨_,hoL,rfl⟩ entry_list_sort (sort_KT hoL (fun h' hk p hp=>(keys p hp).keeps fun b o e=>hk b o (hB0 (hDb (Heap.lt_size e))) (keep b o e)) hn (by have:=(Room.in1 (Room.in1 hr)).un;omega) fun ps' hp hs=>⟨_,rfl,?_⟩) (args_list_sort _)));have nz:H (s.heap.objs.size+1)=none:=I.hok.fresh (hBl _);obtain⟨e,he⟩:=sortedAll_at s.heap (ps.map fun p=>Value.ref p.1) (ps'.map fun p=>Value.ref p.1).toArray;refine wpAny_pure ⟨_,rfl,.ref (s.heap.objs.size+1),_,I.laid (t':=s.toks) (a:=s.heap.objs.size+1) (o:=.lst (ps'.map fun p=>V.ref p.1)) (h':=sortedAll s.heap (ps.map fun p=>Value.ref p.1) (ps'.map fun p=>Value.ref p.1).toArray) (fun b o eb=>sortedAll_old eb) (hBl _) ⟨?_,ps'.map fun p=>Value.ref p.1,e,?_,he⟩,rfl,q _ ps' nz hp hs⟩
 ·rw[hA1,hp.length_eq,sizeLine_eq];omega
 ·have:=qD4 (ps'.map Prod.fst);rw[hAo,hAo]at this;exact this
end
end L2
namespace My
open PySem L2
theorem band_all (n:Nat):Builtin.bitAnd (n:Int) (Builtin.bitNot 0)=(n:Int):=by
 unfold Builtin.bitAnd;rw[decide_eq_true (hDp n),decide_eq_false (by decide:¬(0:Int)<=Builtin.bitNot 0)];show(n:Int) - (((n:Int).toNat&&&(Builtin.bitNot (Builtin.bitNot 0)).toNat:Nat):Int)=_;rw[show(Builtin.bitNot (Builtin.bitNot 0)).toNat=0 by decide,Nat.and_zero];simp
theorem ban_in2 {a b:Nat}:(V.int (Builtin.bitAnd (a:Int) (b:Int))=V.int (a:Int))↔a&&&b=a:=by
 rw[qBn];exact⟨fun h=>by have:=V.int.inj h;omega,fun h=>by rw[h]⟩
def rDeq (K:PySem.W.Frag):V->V->Hp->VK->Prop:=fun x y H Q=>∃ a b,DR K H x a/\DR K H y b/\SeqAt.shaped a=true/\SeqAt.shaped b=true/\Q (.bl (if false=true then !PyData.eqv a b else PyData.eqv a b)) H
noncomputable def kpF (S:List Nat) (x:Nat):List Nat:=(sumF S).filter fun z=>decide (z&&&x=0)
def spLLf:Sp:=fun vs H Q _=>∃ (p:Addr) (S:List Nat) (x m:Nat),vs=[.ref p,iV x,.int 0]/\LsN H p S/\S.length<=12/\m<=12/\(∀ s∈S,s<2^m)/\∀ (r:Addr) (W:List Nat) (H':Hp),Ext H H'->H r=none->LsN H' r W->Stp m W->(∀ u,Spn W u↔Spn S u/\u&&&x=0)->Q (.ref r) H'
def spLHp:Sp:=fun vs H Q _=>∃ (p:Addr) (N:List Nat) (x:Nat),vs=[.ref p,iV x]/\LsN H p N/\N.length<=20/\∀ (r:Addr) (H':Hp),Ext H H'->H r=none->LsN H' r (hpF (N++sgF x))->Q (.ref r) H'
noncomputable def smF (U:List Nat):List Nat:=U.filter fun z=>!decide (z=0)
noncomputable def leI (U:List Nat) (t:Nat):List Nat:=(smF U).filter fun o=>!decide (o=t) && decide (o&&&t=o)
noncomputable def leF (U:List Nat):List Nat:=(smF U).filter fun t=>decide (leI U t=[])
def spLLea:Sp:=fun vs H Q _=>∃ (p:Addr) (U:List Nat),vs=[.ref p]/\LsN H p U/\U.length<=4096/\∀ r H',Ext H H'->H r=none->LsN H' r (leF U)->Q (.ref r) H'
def spLIO:Sp:=fun vs H Q _=>∃ (pn pm:Addr) (names:List Str) (ms:List Nat),vs=[.ref pn,.ref pm]/\LsS H pn names/\names.length<=12/\LsN H pm ms/\ms.length<=4096/\∀ (r:Addr) (D:List (List Str)) (H':Hp),Ext H H'->H r=none->qC4 H' r D->D.Perm (ms.map (rowL names))->RwO D->Q (.ref r) H'
def spLQu:Sp:=fun vs H Q _=>∃ (p:Addr) (S:List Nat) (m:Nat),vs=[.ref p,iV m]/\LsN H p S/\Stp m S/\m<=12/\∀ (r:Addr) (W:List Nat) (H':Hp),Ext H H'->H r=none->LsN H' r W->W.Nodup->W.length<=4096->(∀ x,x∈W↔WaP S m x/\QuP S m x)->Q (.ref r) H'
theorem spn_kpF (S:List Nat) (x u:Nat):Spn (kpF S x) u↔Spn S u/\u&&&x=0:=by
 have mem:∀ z,z∈kpF S x↔Spn S z/\z&&&x=0:=fun z=>by
  unfold kpF;rw[hAf,qD6,decide_eq_true_iff]
 constructor
 ·intro h
  induction h with
  | zero=>exact⟨.zero,Nat.zero_and _⟩
  | add m _ ih =>
   obtain⟨a,b⟩:=(mem _).mp m;refine⟨a.xor ih.1,?_⟩;refine qDf fun i h1 h2=>?_
   rw[hB2]at h1;rename_i p q _;cases e1:p.testBit i with
   | true=>exact qBk b e1 h2
   | false =>
    rw[e1,Bool.false_xor]at h1;exact qBk ih.2 h1 h2
 ·exact fun h=>.mem ((mem u).mpr h)
theorem mem_leF {N:List Nat} (t:Nat):t∈leF (sumF N)↔Lst N t:=by
 have ms:∀ z,z∈smF (sumF N)↔Spn N z/\z≠0:=fun z=>by
  unfold smF;rw[hAf,qD6];simp
 unfold leF;rw[hAf,ms,decide_eq_true_iff,List.eq_nil_iff_forall_not_mem];unfold Lst leI;constructor
 ·rintro⟨⟨a,b⟩,c⟩;refine⟨a,b,fun o ho oz oi=>?_⟩;by_cases e:o=t
  ·exact e
  ·refine(c o (hAf.mpr ⟨(ms o).mpr ⟨ho,oz⟩,?_⟩)).elim;rw[decide_eq_false e,decide_eq_true (qGn oi)];rfl
 ·rintro⟨a,b,c⟩;refine⟨⟨a,b⟩,fun o ho=>?_⟩;obtain⟨h1,h2⟩:=hAf.mp ho;obtain⟨h3,h4⟩:=(ms o).mp h1;simp only[hBo,Bool.not_eq_true',decide_eq_false_iff_not,decide_eq_true_eq]at h2;exact h2.1 (c o h3 h4 (inn_of h2.2))
theorem Stp.sumNd {m:Nat} {S:List Nat} (h:Stp m S):(sumF S).Nodup:=by
 have:=sumF_nd _ h.rr;rw[<-sum_rv]at this;exact nd_of_map this
theorem Stp.least {m:Nat} {S:List Nat} (h:Stp m S) {t:Nat} (ht:t∈S):Lst S t:=by
 obtain⟨a,b,c⟩:=rr_least h.rr (hA9.mpr ⟨t,ht,rfl⟩);have tl:=h.lt t ht;refine⟨.mem ht,(h.gm t ht).2,fun o ho oz oi=>?_⟩;have ol:=Spn.lt h.lt ho;have:=c (rv m o) ((qBt h.lt ol).mpr ho) (rv_ne ol oz) (inn_rv oi);rw[<-qCj ol,this,qCj tl]
theorem lst_wall {m:Nat} {S R:List Nat} (c:Crs m S R) (x:Nat):Lst R x↔WaP S m x:=by
 unfold Lst WaP;constructor
 ·rintro⟨a,b,d⟩;exact⟨(c.i x).mp a,b,fun o ho=>d o ((c.i o).mpr ho)⟩
 ·rintro⟨a,b,d⟩;exact⟨(c.i x).mpr a,b,fun o ho=>d o ((c.i o).mp ho)⟩
theorem leF_len (U:List Nat):(leF U).length<=U.length:=hAr (hAm _ _) (hAm _ _)
theorem leF_nd {U:List Nat} (h:U.Nodup):(leF U).Nodup:=(h.sublist hBb).sublist hBb
theorem sgF_len (x:Nat):(sgF x).length<=12:=by
 unfold sgF;rw[hA1];exact hAr (hAm _ _) (by rw[hAy];exact hA5 _)
theorem hpI_len (p:Nat×List Nat) (h:Nat):(hpI p h).2.length<=p.2.length+1:=by
 unfold hpI;split
 ·rw[hA7];exact hA5 _
 ·exact hBl _
theorem hpI_lens (t:Nat):∀ hs:List Nat,(hs.foldl hpI (t,[])).2.length<=hs.length:=by
 refine qCv (P:=fun hs=>(hs.foldl hpI (t,[])).2.length<=hs.length) (hA5 _) fun l h ih=>?_
 rw[hp_fst,hA7];exact hAr (hpI_len _ _) (hCt ih)
theorem hpF_len:∀ L:List Nat,(hpF L).length<=L.length:=by
 refine qCv (P:=fun L=>(hpF L).length<=L.length) (hA5 _) fun L t ih=>?_
 rw[qFt,hA7];unfold hpS;rw[hA7];exact hCt (hAr (hpI_lens t _) ih)
section
variable {P:Program} {w:World} {K:PySem.W.Frag} {mg:Str->Option Value} {base:Heap} {f f1 f2 f3 f4 f5:Addr} {fd fd1 fd2 fd3 fd4 fd5:FuncData}
noncomputable abbrev spaN:List Str:=["_law_base","_law_sums","_law_step"]
theorem scSpa:FnScope spaN ["_law_base"] (qAb sSpa):=⟨rfl,rfl,rfl,by decide +kernel,rfl,by decide +kernel,by decide +kernel⟩
theorem ok_spa (F:Fun K "_law_span" "_law_span" sSpa f fd):FnOk P w K mg base CX0 1 f fd ["_law_base"] spSums:=by
 refine F.ok scSpa (fun vs H Q E h=>?_) (fun cdv A outer s H vs Q E hr h=>?_)
 ·obtain⟨p,N,rfl,_⟩:=h;rfl
 obtain⟨p,N,rfl,hN,lN,q⟩:=h;refine⟨_,qAa (qAg (i:=1) scSpa.nd rfl (Or.inl rfl) (pe_lst (pa_cons qAc pa_nil))) (qAa (qAz PassesOwn.never rfl (qAn (pv 0)) (qAd (i:=2) scSpa.nd rfl (Or.inr rfl)) (pss_one (qAg (i:=1) scSpa.nd rfl (Or.inl rfl) (qAh qCf (pv 1) (qBo (N:=spaN) (sc:=qAb sSpa) (N':=["_law_one","_law_step"]) (sub:=[none,some 2]) rfl rfl (CmpOk.of (by decide +kernel)) rfl (qAn (pv 1)) (fun C s H fp=>⟨qAd (i:=0) (by show(["_law_one","_law_step"]:List Str).Nodup;decide) rfl (Or.inl rfl),qAy,(qAh qC2 (pv 0) (pv 1))⟩)))))) (pss_one (ps_ret (pv 1)))),?_⟩;try dsimp only[Cx.wish,qBy]
 refine⟨(by show 1<=sizeLine;decide),fun s0 hs0=>?_⟩;have X3:=Ext.new hs0 (.lst [V.int 0]);refine⟨_,rfl,p,rfl,⟨_,SqL.of (X3 _ _ hN)⟩,?_⟩;refine qA2 (xs:=N.map iV) (fun i σ H'=>∃ (ps:Addr) (x2:Option V),σ=[some (.ref p),some (.ref ps),x2]/\Ext H H'/\H ps=none/\LsN H' ps (sumF (N.take i))) ⟨s0,none,rfl,X3,hs0,upd_same⟩ (fun i σ H' _ h=>by obtain⟨_,_,_,e,_⟩:=h;exact SqL.of (e _ _ hN)) ?_ ?_
 ·rintro i v σ H' hx ⟨ps,x2,rfl,e,ps0,hps⟩;obtain⟨y,rfl,hy⟩:=qA1 hx;have hi:=at_lt hy;have lS:(sumF (N.take i)).length<=2048:=by
   rw[qCu,hAi];exact hAr (hB9 (by decide) (show min i N.length<=11 by omega)) (by decide)
  refine⟨_,rfl,_,rfl,ps,rfl,⟨_,SqL.of hps⟩,?_⟩;refine qAs (xs:=(sumF (N.take i)).map iV) (fun j ys H2=>H2=H'/\ys=(((sumF (N.take i)).take j).map fun z=>z^^^y).map iV) ⟨rfl,rfl⟩ (fun j ys H2 _ h=>by rw[h.1];exact SqL.of hps) ?_ ?_
  ·rintro j v ys H3 hx3 ⟨rfl,rfl⟩;obtain⟨z,rfl,hz⟩:=qA1 hx3;have hj:=at_lt hz;refine⟨Sle.set _ (Sle.refl _) (fun u z=>by cases z),iteT (B:=False) ⟨_,rfl,_,rfl,_,_,rfl,rfl,?_⟩⟩;refine⟨by rw[hA1,hA1,hAi];exact qA3 (by omega),nxt (at_lt hx3) ⟨rfl,?_⟩⟩;rw[qAm hz,hA3,hA3];show _++[V.int (Builtin.bitXor (z:Int) (y:Int))]=_;rw[qBm];rfl
  ·rintro ys H3 ⟨rfl,rfl⟩ l hl;rw[hA1,hA6 (hA5 _)];have Xl:=Ext.new hl (.lst (((sumF (N.take i)).map fun z=>z^^^y).map iV));refine⟨ps,l,_,_,rfl,rfl,Xl _ _ hps,upd_same,by rw[hA1,hA1,hA1];exact hBd (qA3 (by omega)),fun l3 hl3=>?_⟩;have X4:=Ext.new hl3 (.lst ((sumF (N.take i)).map iV++((sumF (N.take i)).map fun z=>z^^^y).map iV));refine⟨l3,_,rfl,(e.trans Xl).trans X4,(e.trans Xl).none hl3,?_⟩;unfold LsN;rw[upd_same,qAm hy,qCc,hA3]
 rintro σ H3 ⟨ps,x2,rfl,e3,ps0,hps⟩;rw[hA1,hA6 (hA5 _)]at hps;exact⟨_,rfl,q ps H3 e3 ps0 hps⟩
noncomputable abbrev llfN:List Str:=["_law_base","_law_gone","_law_shut","_law_kept"]
theorem scLLf:FnScope llfN ["_law_base","_law_gone","_law_shut"] (qAb sLLf):=⟨rfl,rfl,rfl,by decide +kernel,rfl,by decide +kernel,by decide +kernel⟩
theorem ok_llf (F:Fun K "_law_left" "_law_left" sLLf f fd)
  (G1:Cl P w K mg base CX0 1 f1 fd1 ["_law_base"] spSums "_law_span")
  (G2:Cl P w K mg base CX0 4 f2 fd2 ["_law_masks"] spLSt "_law_steps"):FnOk P w K mg base CX0 5 f fd ["_law_base","_law_gone","_law_shut"] spLLf:=by
 refine F.ok scLLf (fun vs H Q E h=>?_) (fun cdv A outer s H vs Q E hr h=>?_)
 ·obtain⟨p,S,x,m,rfl,_⟩:=h;rfl
 obtain⟨p,S,x,m,rfl,hp,lS,m12,lt,q⟩:=h;have hr1:=hr.mono (j:=1) (by decide);refine⟨_,qAa (qFi (i:=3) (N:=llfN) (sc:=qAb sLLf) (N':=["_law_mask","_law_shut","_law_gone"]) (sub:=[none,some 2,some 1]) rfl rfl (CmpOk.of (by decide +kernel)) rfl (qAn (qAp G1 hr1 rfl .nil qAo (pa_cons (pv 0) pa_nil))) (fun C s H fp=>⟨qAd (i:=0) (by show(["_law_mask","_law_shut","_law_gone"]:List Str).Nodup;decide) rfl (Or.inl rfl),(qBh (qAk qBl (qAh qBg (pv 0) (pv 2)) qAc (qAq _))),(qAh qBg (pv 0) (pe_un un_inv (pv 1)))⟩) scLLf.nd rfl (Or.inl rfl)) (pss_one (ps_ret (qAp G2 hr rfl .nil qAo (pa_cons (pv 3) pa_nil)))),?_⟩;try dsimp only[Cx.wish,qBy]
 have l4:(sumF S).length<=4096:=by
  rw[qCu];exact hAr (hB9 (by decide) lS) (by decide)
 refine⟨_,rfl,p,S,rfl,hp,lS,fun su H1 e1 su0 hsu=>?_⟩;refine⟨su,rfl,⟨_,SqL.of hsu⟩,?_⟩;refine qBs (fun z=>decide (z&&&x=0)) (fun z=>z) hsu (by omega) (fun z hz C B cc bb=>⟨Sle.set _ (Sle.refl _) (fun u z=>by cases z),?_⟩) ?_
 ·refine⟨_,rfl,_,rfl,_,_,rfl,rfl,rfl,_,rfl,?_⟩;refine qBw (fun c=>⟨_,rfl,_,rfl,_,rfl,_,_,rfl,rfl,?_⟩) (fun c=>bb (ban_eq (hCk _▸c)));show C (V.int (Builtin.bitAnd (z:Int) (Builtin.bitNot 0))) H1;rw[band_all];exact cc (ban_eq c)
 intro l hl;rw[hE5];have X1:=Ext.new hl (.lst ((kpF S x).map iV));have lk:(kpF S x).length<=4096:=hAr (hAm _ _) l4;have ltk:∀ z∈kpF S x,z<2^m:=fun z hz=>Spn.lt lt ((spn_kpF S x z).mp (.mem hz)).1
 refine⟨_,rfl,l,kpF S x,m,rfl,upd_same,by omega,by omega,ltk,fun r W H2 e2 r0 hW pW oW=>?_⟩;have st:Stp m W:=⟨_,ltk,pW,oW⟩;refine q r W H2 ((e1.trans X1).trans e2) ((e1.trans X1).none r0) hW st fun u=>?_
 rw[qCd pW,<-spn_kpF];obtain⟨g,e⟩:=qC9 (m:=m) (kpF S x) ltk;have key:∀ u,u<2^m->(Spn (redL (kpF S x)) u↔Spn (kpF S x) u):=fun u ul=>by
  rw[<-qBt (fun y hy=>(g y hy).1) ul,e,qCw,qBt ltk ul]
 exact⟨fun h=>(key u (Spn.lt (fun y hy=>(g y hy).1) h)).mp h,fun h=>(key u (Spn.lt ltk h)).mpr h⟩
noncomputable abbrev lhpN:List Str:=["_law_base","_law_every","_law_heaps_here","_law_mask","_law_others","_law_heap"]
theorem scLHp:FnScope lhpN ["_law_base","_law_every"] (qAb sLHp):=⟨rfl,rfl,rfl,by decide +kernel,rfl,by decide +kernel,by decide +kernel⟩
theorem ok_lhp (F:Fun K "_law_heaps" "_law_heaps" sLHp f fd) (mr:mg "range" = none):FnOk P w K mg base CX0 1 f fd ["_law_base","_law_every"] spLHp:=by
 refine F.ok scLHp (fun vs H Q E h=>?_) (fun cdv A outer s H vs Q E hr h=>?_)
 ·obtain⟨p,N,x,rfl,_⟩:=h;rfl
 obtain⟨p,N,x,rfl,hp,lN,q⟩:=h;refine⟨_,qAa (qAg (i:=2) scLHp.nd rfl (Or.inl rfl) (pe_lst pa_nil)) (qAa (qAz PassesOwn.never rfl (qAn (qAh qCf (pv 0) (qBo (N:=lhpN) (sc:=qAb sLHp) (N':=["_law_k","_law_every"]) (sub:=[none,some 1]) rfl rfl (CmpOk.of (by decide +kernel)) rfl (qAw rfl mr (pa_cons qAc pa_nil)) (fun C s H fp=>⟨qAd (i:=0) (by show(["_law_k","_law_every"]:List Str).Nodup;decide) rfl (Or.inl rfl),(qBh (qAk qBl (qAh qBg (qAh qFa (pv 1) (pv 0)) qAc) qAc (qAq _))),(qAh qBx qAc (pv 0))⟩)))) (qAd (i:=3) scLHp.nd rfl (Or.inl rfl)) (qAa (qAg (i:=4) scLHp.nd rfl (Or.inl rfl) (pe_lst pa_nil)) (qAa (qAz PassesOwn.never rfl (qAn (pv 2)) (qAd (i:=5) scLHp.nd rfl (Or.inl rfl)) (pss_one (qBf (qAk qDz (qAh qBg (pv 5) (pv 3)) qAc (qAq _)) (pss_one (qAg (i:=3) scLHp.nd rfl (Or.inl rfl) (qAh op_or (pv 3) (pv 5)))) (pss_one (ps_expr (pe_bm hAq hB5 hB6 mt_append (pv 4) (pa_cons (pv 5) pa_nil))))))) (pss_one (qAg (i:=2) scLHp.nd rfl (Or.inl rfl) (qAh qCf (pv 4) (pe_lst (pa_cons (pv 3) pa_nil)))))))) (pss_one (ps_ret (pv 2)))),?_⟩;try dsimp only[Cx.wish,qBy]
 refine⟨hAp _,fun h0 hh0=>?_⟩;have X0:=Ext.new hh0 (.lst []);refine⟨_,rfl,_,rfl,by decide,by decide,?_⟩;refine qBz (lo:=0) (n:=12) (fun i ys H2=>H2=upd H h0 (.lst [])/\ys=(((List.range i).filter fun k=>x.testBit k).map fun k=>2^k).map iV) ⟨rfl,rfl⟩ ?_ ?_
 ·rintro i ys H2 hi ⟨rfl,rfl⟩;rw[show(0+(i:Int))=((i:Nat):Int) by omega];have key:(decide (V.int (Builtin.bitAnd ((x:Int) / 2^((i:Nat):Int).toNat) 1)=V.int 1)=true)↔x.testBit i=true:=by
   rw[decide_eq_true_iff,V.int.injEq,hB4,qC6];by_cases b:x.testBit i=true
   ·simp[b]
   ·simp[b]
  have lf:=hAm (fun k=>x.testBit k) (List.range i);rw[hAy]at lf;have st:((List.range (i+1)).filter fun k=>x.testBit k)=((List.range i).filter fun k=>x.testBit k)++(if x.testBit i=true then [i] else []):=by
   rw[hC9,hBc];by_cases b:x.testBit i=true <;> simp[b]
  refine⟨Sle.set _ (Sle.refl _) (fun u z=>by cases z),_,rfl,_,rfl,_,_,rfl,rfl,(by show(0:Int)<=_;omega),_,_,rfl,rfl,rfl,_,rfl,?_⟩;refine qBw (fun c=>?_) (fun c=>?_)
  ·refine⟨_,rfl,_,_,rfl,rfl,⟨by omega,by omega,by decide⟩,?_⟩;refine⟨by rw[hA1,hA1];exact qAf (by omega),nxt hi ⟨rfl,?_⟩⟩;rw[st,if_pos (key.mp c),hA3,hA3];show _++[V.int (1*2^((i:Nat):Int).toNat)]=_;rw[qA8];rfl
  ·refine nxt hi ⟨rfl,?_⟩;rw[st,if_neg fun z=>c (key.mpr z),hBe]
 rintro ys H2 ⟨rfl,ey⟩ l1 hl1;have ey':ys=(sgF x).map iV:=ey;subst ey';have X1:=X0.trans (Ext.new hl1 (.lst ((sgF x).map iV)));have ls:=sgF_len x;refine⟨p,l1,_,_,rfl,rfl,X1 _ _ hp,upd_same,by rw[hA1,hA1];exact hBd (qAf (by show N.length+(sgF x).length<=1000;omega)),fun l2 hl2=>?_⟩;have X3:=X1.trans (Ext.new hl2 (.lst (N.map iV++(sgF x).map iV)));have hl3:LsN (upd (upd (upd H h0 (.lst [])) l1 (.lst ((sgF x).map iV))) l2 (.lst (N.map iV++(sgF x).map iV))) l2 (N++sgF x):=by unfold LsN;rw[upd_same,hA3]
 have h3h:LsN (upd (upd (upd H h0 (.lst [])) l1 (.lst ((sgF x).map iV))) l2 (.lst (N.map iV++(sgF x).map iV))) h0 []:=((Ext.new hl1 _).trans (Ext.new hl2 _)) _ _ upd_same;revert hl3 h3h X3;generalize upd (upd (upd H h0 (.lst [])) l1 (.lst ((sgF x).map iV))) l2 (.lst (N.map iV++(sgF x).map iV))=H3;intro X3 hl3 h3h;refine⟨l2,rfl,⟨_,SqL.of hl3⟩,?_⟩;refine qA2 (xs:=(N++sgF x).map iV) (fun i σ H'=>∃ (ph:Addr) (x3 x4 x5:Option V),σ=[some (.ref p),some (iV x),some (.ref ph),x3,x4,x5]/\Ext H3 H'/\H ph=none/\LsN H' ph (hpF ((N++sgF x).take i))) ⟨h0,none,none,none,rfl,Ext.refl _,hh0,h3h⟩ (fun i σ H' _ h=>by obtain⟨_,_,_,_,_,e,_⟩:=h;exact SqL.of (e _ _ hl3)) ?_ ?_
 ·rintro i v σ H' hx ⟨ph,x3,x4,x5,rfl,e,ph0,hph⟩;obtain⟨t,rfl,ht⟩:=qA1 hx;have hi:=at_lt ht;have lh:=hpF_len ((N++sgF x).take i);rw[hAi,hA7]at lh;have sn:hpF ((N++sgF x).take (i+1))=hpS (hpF ((N++sgF x).take i)) t:=by rw[qAm ht,qFt]
  rw[sn];revert hph lh;generalize hpF ((N++sgF x).take i)=hs;intro hph lh;refine⟨hAp _,fun ot hot=>?_⟩;have Xo:=Ext.new hot (.lst []);refine⟨_,rfl,ph,rfl,⟨_,SqL.of (Xo _ _ hph)⟩,?_⟩;refine qA2 (xs:=hs.map iV) (fun j σ H2=>∃ x5:Option V,σ=[some (.ref p),some (iV x),some (.ref ph),some (iV ((hs.take j).foldl hpI (t,[])).1),some (.ref ot),x5]/\Ext H' H2/\LsN H2 ot ((hs.take j).foldl hpI (t,[])).2) ⟨x5,rfl,Xo,upd_same⟩ (fun j σ H2 _ h=>by obtain⟨_,_,e,_⟩:=h;exact SqL.of (e _ _ hph)) ?_ ?_
  ·rintro j v σ H2 hx2 ⟨x5,rfl,e2,hO⟩;obtain⟨h,rfl,hh⟩:=qA1 hx2;have hj:=at_lt hh;have lo':=hpI_lens t (hs.take j);rw[hAi]at lo';have sn2:(hs.take (j+1)).foldl hpI (t,[])=hpI ((hs.take j).foldl hpI (t,[])) h:=by rw[qAm hh,hp_fst]
   rw[sn2];revert hO lo';generalize (hs.take j).foldl hpI (t,[])=pr;intro hO lo';refine⟨_,rfl,_,rfl,_,_,rfl,rfl,rfl,_,rfl,?_⟩;refine qBw (fun c=>?_) (fun c=>?_)
   ·have c':¬h&&&pr.1=0:=by have:=ban_ne c;simpa using this
    refine⟨_,rfl,_,rfl,_,_,rfl,rfl,?_⟩;refine⟨some (iV h),?_,e2,?_⟩
    ·unfold hpI;rw[if_neg c',show iV (pr.1 ||| h)=V.int (Builtin.bitOr (pr.1:Int) (h:Int)) by rw[bor_nat]];rfl
    ·unfold hpI;rw[if_neg c'];exact hO
   ·have c':h&&&pr.1=0:=by have:=ban_ne (hCk _▸c);simpa using this
    refine⟨_,rfl,.inl ⟨rfl,_,SqL.of hO⟩,_,rfl,ot,_,_,rfl,rfl,hO,(by rw[hA1];exact qAf (by omega)),?_⟩;refine⟨some (iV h),?_,e2.over hot _,?_⟩
    ·unfold hpI;rw[if_pos c'];rfl
    ·unfold hpI LsN;rw[if_pos c',upd_same,hA3];rfl
  ·rintro σ H2 ⟨x5,rfl,e2,hO⟩;rw[hA1,hA6 (hA5 _)]at hO ⊢;have lo':=hpI_lens t hs;refine⟨_,rfl,_,rfl,(by show 1<=sizeLine;decide),fun l3 hl3'=>?_⟩;have X4:=Ext.new hl3' (.lst [iV (hs.foldl hpI (t,[])).1]);refine⟨ot,l3,_,_,rfl,rfl,X4 _ _ hO,upd_same,by rw[hA1];exact hBd (qAf (by show _+1<=1000;omega)),fun l4 hl4=>?_⟩;refine⟨l4,_,_,_,rfl,((e.trans e2).trans X4).trans (Ext.new hl4 _),(((X3.trans e).trans e2).trans X4).none hl4,?_⟩;unfold LsN hpS;rw[upd_same,hA3];rfl
 ·rintro σ H' ⟨ph,x3,x4,x5,rfl,e,ph0,hph⟩;rw[hA1,hA6 (hA5 _)]at hph;exact⟨_,rfl,q ph H' (X3.trans e) ph0 hph⟩
noncomputable abbrev lleN:List Str:=["_law_masks","_law_some"]
theorem scLLea:FnScope lleN ["_law_masks"] (qAb sLLea):=⟨rfl,rfl,rfl,by decide +kernel,rfl,by decide +kernel,by decide +kernel⟩
theorem ok_llea (F:Fun K "_law_least" "_law_least" sLLea f fd):FnOk P w K mg base CX0 1 f fd ["_law_masks"] spLLea:=by
 refine F.ok scLLea (fun vs H Q E h=>?_) (fun cdv A outer s H vs Q E hr1 h=>?_)
 ·obtain⟨p,U,rfl,_⟩:=h;rfl
 obtain⟨p,U,rfl,hp,lU,q⟩:=h;refine⟨_,qAa (qAg (i:=1) scLLea.nd rfl (Or.inr rfl) (qBo (N:=lleN) (sc:=qAb sLLea) (N':=["_law_mask"]) (sub:=[none]) rfl rfl (CmpOk.of (by decide +kernel)) rfl (qAn (pv 0)) (fun C s H fp=>⟨qAd (i:=0) (by show(["_law_mask"]:List Str).Nodup;decide) rfl (Or.inl rfl),(qBh (qAk qDz (pv 0) qAc (qAq _))),(pv 0)⟩))) (pss_one (ps_ret (qBo (N:=lleN) (sc:=qAb sLLea) (N':=["_law_mask","_law_some"]) (sub:=[none,some 1]) rfl rfl (CmpOk.of (by decide +kernel)) rfl (qAn (pv 1)) (fun C s H fp=>⟨qAd (i:=0) (by show(["_law_mask","_law_some"]:List Str).Nodup;decide) rfl (Or.inr rfl),(qBh (qAk (show OpR _ (compareOp .Eq) (rDeq K) from op_eqD (qF7 hr1)) (qBo (N:=["_law_mask","_law_some"]) (sc:=relab _ (qAb sLLea)) (N':=["_law_one","_law_mask"]) (sub:=[none,some 0]) rfl rfl (CmpOk.of (by decide +kernel)) rfl (show PI _ _ _ (iList K (tVar 1)) from qAn (pv 1)) (fun C s H fp=>⟨qAd (i:=0) (by show(["_law_one","_law_mask"]:List Str).Nodup;decide) rfl (Or.inl rfl),(qBh (PW.pt (qDq (qAk qDz (pv 0) (pv 1) (qAq _)) (qCl (qAk qBl (qAh qBg (pv 0) (pv 1)) (pv 0) (qAq _)))))),qAc⟩)) (pe_lst pa_nil) (qAq _))),(pv 0)⟩)))),?_⟩;try dsimp only[Cx.wish,qBy]
 refine⟨_,rfl,p,rfl,⟨_,SqL.of hp⟩,?_⟩;refine qBs (fun z=>!decide (z=0)) (fun z=>z) hp (by omega) (fun z hz C B cc bb=>⟨Sle.set _ (Sle.refl _) (fun u z=>by cases z),?_⟩) ?_
 ·refine⟨_,rfl,rfl,_,rfl,?_⟩;have e0:(!decide (V.int (z:Int)=V.int 0))=!decide (z=0):=by
   congr 1;exact decide_eq_decide.mpr ⟨fun h=>by have:=V.int.inj h;omega,fun h=>by rw[h];rfl⟩
  refine qBw (fun c=>⟨_,rfl,cc (e0▸c)⟩) (fun c=>bb (e0▸(hCk _▸c)))
 intro so hso;rw[hE5];have X1:=Ext.new hso (.lst ((smF U).map iV));have hs1:LsN (upd H so (.lst ((smF U).map iV))) so (smF U):=upd_same;have l1:(smF U).length<=U.length:=hAm _ _;refine⟨_,rfl,so,rfl,⟨_,SqL.of hs1⟩,?_⟩;refine qAs (xs:=(smF U).map iV) (fun j ys H2=>Ext (upd H so (.lst ((smF U).map iV))) H2/\ys=(((smF U).take j).filter fun t=>decide (leI U t=[])).map iV) ⟨Ext.refl _,rfl⟩ (fun j ys H2 _ h=>SqL.of (h.1 _ _ hs1)) ?_ ?_
 ·rintro j v ys H2 hx ⟨e2,rfl⟩;obtain⟨t,rfl,ht⟩:=qA1 hx;have hj:=at_lt ht;have hs2:=e2 _ _ hs1;have st:(((smF U).take (j+1)).filter fun t=>decide (leI U t=[]))=(((smF U).take j).filter fun t=>decide (leI U t=[]))++(if leI U t=[] then [t] else []):=by
   rw[qAm ht,hBc];by_cases c:leI U t=[] <;> simp[c]
  have lf:=hAm (fun t=>decide (leI U t=[])) ((smF U).take j);rw[hAi]at lf;refine⟨Sle.set _ (Sle.refl _) (fun u z=>by cases z),?_⟩;refine⟨_,rfl,so,rfl,⟨_,SqL.of hs2⟩,?_⟩;refine qAs (xs:=(smF U).map iV) (fun i ys H3=>H3=H2/\ys=(List.replicate (((smF U).take i).filter fun o=>!decide (o=t) && decide (o&&&t=o)).length 1).map iV) ⟨rfl,rfl⟩ (fun i ys H3 _ h=>by rw[h.1];exact SqL.of hs2) ?_ ?_
  ·rintro i v ys H3 hx3 ⟨rfl,rfl⟩;obtain⟨o,rfl,ho⟩:=qA1 hx3;have hi:=at_lt ho;have st2:(((smF U).take (i+1)).filter fun o=>!decide (o=t) && decide (o&&&t=o))=(((smF U).take i).filter fun o=>!decide (o=t) && decide (o&&&t=o))++(if (!decide (o=t) && decide (o&&&t=o))=true then [o] else []):=by
    rw[qAm ho,hBc];cases c:(!decide (o=t) && decide (o&&&t=o)) <;> simp[c]
   have lf2:=hAm (fun o=>!decide (o=t) && decide (o&&&t=o)) ((smF U).take i);rw[hAi]at lf2;have e0:decide (V.int (o:Int)=V.int (t:Int))=decide (o=t):=decide_eq_decide.mpr ⟨fun h=>by have:=V.int.inj h;omega,fun h=>by rw[h]⟩;have no:((!decide (o=t) && decide (o&&&t=o))=false)->((List.replicate (((smF U).take i).filter fun o=>!decide (o=t) && decide (o&&&t=o)).length 1).map iV)=((List.replicate (((smF U).take (i+1)).filter fun o=>!decide (o=t) && decide (o&&&t=o)).length 1).map iV):=fun c=>by
    rw[st2,c];simp
   refine⟨Sle.set _ (Sle.refl _) (fun u z=>by cases z),?_⟩;refine⟨_,rfl,_,rfl,rfl,_,rfl,?_⟩;rw[e0];refine qBw (fun c=>?_) (fun c=>iteF (nxt (at_lt hx3) ⟨rfl,no ?_⟩))
   ·refine⟨_,rfl,_,rfl,_,_,rfl,rfl,_,rfl,rfl,_,rfl,?_⟩;refine qBw (fun d=>⟨?_,nxt (at_lt hx3) ⟨rfl,?_⟩⟩) (fun d=>nxt (at_lt hx3) ⟨rfl,no ?_⟩)
    ·rw[hA1,hCd];exact qA3 (by omega)
    ·have cd:(!decide (o=t) && decide (o&&&t=o))=true:=by
      rw[c,decide_eq_true (ban_in2.mp (of_decide_eq_true d))];rfl
     rw[st2,if_pos cd,hA7,List.length_singleton,List.replicate_succ',hA3];rfl
    ·rw[c,decide_eq_false fun z=>d (decide_eq_true (ban_in2.mpr z))];rfl
   ·rw[hCk]at c;rw[c];rfl
  rintro ys H3 ⟨rfl,rfl⟩ l hl;rw[hA1,hA6 (hA5 _)];have Xl:=Ext.new hl (.lst ((List.replicate (leI U t).length 1).map iV));refine⟨hAp _,fun l2 hl2=>?_⟩;have Xl2:=Ext.new hl2 (.lst []);refine⟨_,_,dr_intl (Xl2 _ _ (show LsN _ l (List.replicate (leI U t).length 1) from upd_same)),dr_intl (show LsN _ l2 [] from upd_same),qF3 _,qF3 _,_,rfl,?_⟩;rw[if_neg (by decide),eqv_ints];have er:(List.replicate (leI U t).length 1=[])↔leI U t=[]:=by
   cases leI U t with
   | nil=>simp
   | cons a l=>simp[hDi]
  rw[decide_eq_decide.mpr er];refine qBw (fun c=>?_) (fun c=>?_)
  ·refine⟨_,rfl,by rw[hA1];exact qA3 (by omega),nxt (at_lt ht) ⟨(e2.trans Xl).trans Xl2,?_⟩⟩;rw[st,if_pos (of_decide_eq_true c),hA3];rfl
  ·refine nxt (at_lt ht) ⟨(e2.trans Xl).trans Xl2,?_⟩;rw[st,if_neg fun z=>c (decide_eq_true z),hBe]
 ·rintro ys H2 ⟨e2,rfl⟩ l hl;rw[hA1,hA6 (hA5 _)];exact q l _ ((X1.trans e2).trans (Ext.new hl _)) ((X1.trans e2).none hl) upd_same
noncomputable abbrev lioN:List Str:=["_law_names_here","_law_masks","_law_rows"]
theorem scLIO:FnScope lioN ["_law_names_here","_law_masks"] (qAb sLIO):=⟨rfl,rfl,rfl,by decide +kernel,rfl,by decide +kernel,by decide +kernel⟩
theorem ok_lio (F:Fun K "_law_in_order" "_law_in_order" sLIO f fd)
  (G1:Cl P w K mg base CX0 1 f1 fd1 ["_law_names_here","_law_mask"] qF0 "_law_row")
  (ml:mg "len" = none) (mso:mg "sorted" = none):FnOk P w K mg base CX0 3 f fd ["_law_names_here","_law_masks"] spLIO:=by
 refine F.ok scLIO (fun vs H Q E h=>?_) (fun cdv A outer s H vs Q E hr2 h=>?_)
 ·obtain⟨pn,pm,names,ms,rfl,_⟩:=h;rfl
 obtain⟨pn,pm,names,ms,rfl,hn,ln,hm,lm,q⟩:=h;have hr1:=hr2.mono (j:=1) (by decide);refine⟨_,qAa (qFi (i:=2) (N:=lioN) (sc:=qAb sLIO) (N':=["_law_mask","_law_names_here"]) (sub:=[none,some 0]) rfl rfl (CmpOk.of (by decide +kernel)) rfl (qAn (pv 1)) (fun C s H fp=>⟨qAd (i:=0) (by show(["_law_mask","_law_names_here"]:List Str).Nodup;decide) rfl (Or.inl rfl),qAy,(pe_call (row_of G1.g) hr1 rfl G1.m G1.k G1.b .nil qAo (pa_cons (pv 1) (pa_cons (pv 0) pa_nil)))⟩) scLIO.nd rfl (Or.inl rfl)) (pss_one (ps_ret (qBo (N:=lioN) (sc:=qAb sLIO) (N':=["_law_many","_law_row_here"]) (sub:=[none,none]) rfl rfl (CmpOk.of (by decide +kernel)) rfl (qAn (qAj (call_sortedKT (k:=0) hr2) rfl mso qCh (pa_cons (qBo (N:=lioN) (sc:=qAb sLIO) (N':=["_law_row_here"]) (sub:=[none]) rfl rfl (CmpOk.of (by decide +kernel)) rfl (qAn (pv 2)) (fun C s H fp=>⟨qAd (i:=0) (by show(["_law_row_here"]:List Str).Nodup;decide) rfl (Or.inl rfl),qAy,(qCe (pa_cons (qAj (show qB9 _ (.builtin "len") (rLenS K) from qAi) rfl ml hAw (pa_cons (pv 0) pa_nil)) (pa_cons (pv 0) pa_nil)))⟩)) pa_nil))) (fun C s H fp=>⟨(show PG _ _ (gTup K 2 _) from qEf rfl (qA4 (qAd (i:=0) (by show(["_law_many","_law_row_here"]:List Str).Nodup;decide) rfl (Or.inl rfl)) (qA4 (qAd (i:=1) (by show(["_law_many","_law_row_here"]:List Str).Nodup;decide) rfl (Or.inl rfl)) qCx))),qAy,(pv 1)⟩)))),?_⟩;try dsimp only[Cx.wish,qBy]
 refine⟨_,rfl,pm,rfl,⟨_,SqL.of hm⟩,?_⟩;refine qAs (xs:=ms.map iV) (fun j ys H2=>Ext H H2/\∃ as:List Addr,ys=as.map V.ref/\Paired (LsS H2) as ((ms.take j).map (rowL names))) ⟨Ext.refl _,[],rfl,.nil⟩ (fun j ys H2 _ h=>SqL.of (h.1 _ _ hm)) ?_ ?_
 ·rintro j v ys H2 hx ⟨e2,as,rfl,pr⟩;obtain⟨x,rfl,hx2⟩:=qA1 hx;have hj:=at_lt hx2;have la:as.length=_:=pr.length;rw[hA1,hAi]at la;refine⟨Sle.set _ (Sle.refl _) (fun u z=>by cases z),iteT (B:=False) ⟨_,rfl,_,rfl,pn,names,x,rfl,e2 _ _ hn,ln,fun r H3 e3 r0 hr'=>⟨?_,nxt (at_lt hx) ⟨e2.trans e3,as++[r],by rw[hA3];rfl,?_⟩⟩⟩⟩
  ·rw[hA1];exact qA3 (by omega)
  ·rw[qAm hx2,hA3];exact Paired.snoc (Paired.mapP pr fun a t z=>e3 _ _ z) hr'
 rintro ys H2 ⟨e2,as,rfl,pr⟩ rw0 hrw0;rw[hA1,hA6 (hA5 _)]at pr;have la:as.length=_:=pr.length;rw[hA1]at la;have X3:=Ext.new hrw0 (.lst (as.map V.ref));have hw3:upd H2 rw0 (.lst (as.map V.ref)) rw0=some (.lst (as.map V.ref)):=upd_same;have pr3:Paired (LsS (upd H2 rw0 (.lst (as.map V.ref)))) as (ms.map (rowL names)):=Paired.mapP pr fun a t z=>X3 _ _ z
 have E3:=e2.trans X3;revert hw3 pr3 E3;generalize upd H2 rw0 (.lst (as.map V.ref))=H3;intro hw3 pr3 E3;refine⟨_,rfl,rw0,rfl,⟨_,SqL.of hw3⟩,?_⟩;refine qAs (xs:=as.map V.ref) (fun j ys H4=>Ext H3 H4/\∃ ks:List (Addr×List Str),ys=ks.map (fun p=>V.ref p.1)/\ks.map Prod.snd=(ms.map (rowL names)).take j/\∀ z∈ks,∃ a∈as,H4 z.1=some (.tup [.int z.2.length,.ref a])/\LsS H3 a z.2) ⟨Ext.refl _,[],rfl,rfl,fun z hz=>(by cases hz)⟩ (fun j ys H4 _ h=>SqL.of (h.1 _ _ hw3)) ?_ ?_
 ·rintro j v ys H4 hx ⟨e4,ks,rfl,ek,hk⟩;obtain⟨c,rfl,hc⟩:=qF8 hx;obtain⟨row,hrow,hc1⟩:=qB1 pr3 hc;have hj:=at_lt hc;have lk:ks.length=j:=by
   have:=congrArg List.length ek;rw[hA1,hAi,hA1]at this;omega
  refine⟨Sle.set _ (Sle.refl _) (fun u z=>by cases z),iteT (B:=False) ⟨_,rfl,c,_,rfl,.inl (SqL.of (e4 _ _ hc1)),_,rfl,(by show 2<=sizeLine;decide),fun k hk0=>⟨?_,nxt (at_lt hx) ⟨e4.trans (Ext.new hk0 _),ks++[(k,row)],by rw[hA3];rfl,?_,fun z hz=>?_⟩⟩⟩⟩
  ·rw[hA1];exact qA3 (by omega)
  ·rw[qAm hrow,hA3,ek];rfl
  ·rcases hAb.mp hz with hz | hz
   ·obtain⟨a,ha,h1,h2⟩:=hk z hz;exact⟨a,ha,(Ext.new hk0 _) _ _ h1,h2⟩
   ·rw[hA4.mp hz];refine⟨c,hAd hc,?_,hc1⟩;rw[upd_same,hA1]
 rintro ys H4 ⟨e4,ks,rfl,ek,hk⟩ tl htl;rw[hA1,hA6 (by rw[hA1];omega)]at ek;have lk:ks.length=ms.length:=by
  have:=congrArg List.length ek;rw[hA1,hA1]at this;exact this
 have X5:=Ext.new htl (.lst (ks.map fun p=>V.ref p.1));refine⟨tl,ks,rfl,SqL.of upd_same,fun z hz=>?_,by omega,fun r ks' r0 pk so=>?_⟩
 ·obtain⟨a,_,h1,h2⟩:=hk z hz;exact⟨a,SqT.of (X5 _ _ h1),SqL.of (X5 _ _ (e4 _ _ h2))⟩
 have X6:=X5.trans (Ext.new r0 (.lst (ks'.map fun p=>V.ref p.1)));have hr6:upd (upd H4 tl (.lst (ks.map fun p=>V.ref p.1))) r (.lst (ks'.map fun p=>V.ref p.1)) r=some (.lst (ks'.map fun p=>V.ref p.1)):=upd_same;have lk':ks'.length=ms.length:=by rw[pk.length_eq,lk]
 have E6:=(E3.trans e4).trans X6;have hk6:∀ z∈ks',∃ a∈as,upd (upd H4 tl (.lst (ks.map fun p=>V.ref p.1))) r (.lst (ks'.map fun p=>V.ref p.1)) z.1=some (.tup [.int z.2.length,.ref a])/\LsS (upd (upd H4 tl (.lst (ks.map fun p=>V.ref p.1))) r (.lst (ks'.map fun p=>V.ref p.1))) a z.2:=fun z hz=>by
  obtain⟨a,ha,h1,h2⟩:=hk z (pk.mem_iff.mp hz);exact⟨a,ha,X6 _ _ h1,X6 _ _ (e4 _ _ h2)⟩
 revert hr6 E6 hk6;generalize upd (upd H4 tl (.lst (ks.map fun p=>V.ref p.1))) r (.lst (ks'.map fun p=>V.ref p.1))=H6;intro hr6 E6 hk6;refine⟨r,rfl,⟨_,SqL.of hr6⟩,?_⟩;refine qAs (xs:=ks'.map fun p=>V.ref p.1) (fun j ys H7=>H7=H6/\∃ bs:List Addr,ys=bs.map V.ref/\Paired (LsS H6) bs ((ks'.map Prod.snd).take j)) ⟨rfl,[],rfl,.nil⟩ (fun j ys H7 _ h=>by rw[h.1];exact SqL.of hr6) ?_ ?_
 ·rintro j v ys H7 hx ⟨rfl,bs,rfl,pb⟩;obtain⟨z,hz,rfl⟩:∃ z,ks'[j]?=some z/\V.ref z.1=v:=by
   rw[hAs]at hx;cases e:ks'[j]? with
   | none=>rw[e]at hx;cases hx
   | some z=>rw[e]at hx;exact⟨z,rfl,hAu hx⟩
  have hj:=at_lt hz;obtain⟨a,ha,h1,h2⟩:=hk6 z (hAd hz);have lb:bs.length=_:=pb.length;rw[hAi,hA1]at lb;refine⟨z.1,_,rfl,SqT.of h1,rfl,_,_,rfl,_,_,rfl,rfl,Sle.set _ (Sle.set _ (Sle.refl _) (fun u z=>by cases z)) (fun u z=>by cases z),iteT (B:=False) ⟨_,rfl,?_,nxt (at_lt hx) ⟨rfl,bs++[a],by rw[hA3];rfl,?_⟩⟩⟩
  ·rw[hA1];exact qA3 (by omega)
  ·rw[qAm (t:=z.2) (by rw[hAs,hz];rfl)];exact Paired.snoc pb h2
 rintro ys H7 ⟨rfl,bs,rfl,pb⟩ l hl;rw[hA1,hA6 (by rw[hA1];exact hA5 _)]at pb;have X8:=Ext.new hl (.lst (bs.map V.ref));refine q l (ks'.map Prod.snd) _ (E6.trans X8) (E6.none hl) ⟨bs,upd_same,Paired.mapP pb fun a t z=>X8 _ _ z⟩ ?_ (hAz.mpr so);rw[<-ek];exact pk.map _
end
end My
namespace My
open PySem L2
def spBlk:Sp:=fun vs H Q _=>∃ (d:Addr) (n:Int) (m:Nat) (p:Addr) (S:List Nat),vs=[.ref d,iV m,.ref p]/\H d=some (.lst [.int n])/\p≠d/\LsN H p S/\S.length<=8/\0<m/\m<=12/\(∀ x∈S,x<2^m/\x≠0) /\
 ∀ (T r:Addr) (m':Nat) (R:List Nat) (H':Hp),Dr d H H'->H T=none->H' T=some (.tup [iV m',.ref r])->H r=none->LsN H' r R->Stp m' R->R.length<=8->m'<=12->Q (.ref T) H'
noncomputable abbrev evI (m:Nat):Int:=1*2^((m:Nat):Int).toNat - 1
theorem shl1 (m:Nat):evI m=((2^m - 1:Nat):Int):=by
 have:=Nat.two_pow_pos m;unfold evI;rw[qA8];omega
theorem hpF_lt {L:List Nat} {m:Nat} (nz:∀ t∈L,t≠0) (lt:∀ t∈L,t<2^m):∀ h∈hpF L,h<2^m:=fun h hh=>hBi _ fun i hi=>by
 cases q:h.testBit i with
 | false=>rfl
 | true =>
  obtain⟨t,ht,b⟩:=(hp_out L nz).bits h hh i q;rw[qCt (lt t ht) hi]at b;cases b
theorem hpF_pos (L:List Nat) (h:L≠[]):0<(hpF L).length:=by
 obtain⟨l,t,rfl⟩:∃ l t,L=l++[t]:=by
  rcases List.eq_nil_or_concat L with e | ⟨l,t,e⟩
  ·exact absurd e h
  ·exact⟨l,t,by rw[e,List.concat_eq_append]⟩
 rw[qFt];unfold hpS;rw[hA7];exact hE4 _
section
variable {P:Program} {w:World} {K:PySem.W.Frag} {mg:Str->Option Value} {base:Heap} {f f1 f2 f3 f4 f5:Addr} {fd fd1 fd2 fd3 fd4 fd5:FuncData}
noncomputable abbrev lquN:List Str:=["_law_base","_law_many","_law_every","_law_found","_law_shut_here"]
theorem scLQu:FnScope lquN ["_law_base","_law_many"] (qAb sLQu):=⟨rfl,rfl,rfl,by decide +kernel,rfl,by decide +kernel,by decide +kernel⟩
theorem ok_lqu (F:Fun K "_law_quiet" "_law_quiet" sLQu f fd)
  (G1:Cl P w K mg base CX0 1 f1 fd1 ["_law_masks"] spLLea "_law_least")
  (G2:Cl P w K mg base CX0 1 f2 fd2 ["_law_base"] spSums "_law_span")
  (G3:Cl P w K mg base CX0 5 f3 fd3 ["_law_base","_law_many"] spLCr "_law_crossed")
  (G4:Cl P w K mg base CX0 1 f4 fd4 ["_law_base","_law_every"] spLHp "_law_heaps")
  (G5:Cl P w K mg base CX0 5 f5 fd5 ["_law_base","_law_gone","_law_shut"] spLLf "_law_left")
  (ml:mg "len" = none):FnOk P w K mg base CX0 6 f fd ["_law_base","_law_many"] spLQu:=by
 refine F.ok scLQu (fun vs H Q E h=>?_) (fun cdv A outer s H vs Q E hr5 h=>?_)
 ·obtain⟨p,S,m,rfl,_⟩:=h;rfl
 obtain⟨p,S,m,rfl,hp,st,m12,q⟩:=h;have hr1:=hr5.mono (j:=1) (by decide);refine⟨_,qAa (qAg (i:=2) scLQu.nd rfl (Or.inl rfl) (qAh qCp (qAh qBx qAc (pv 1)) qAc)) (qAa (qAg (i:=3) scLQu.nd rfl (Or.inl rfl) (pe_lst pa_nil)) (qAa (qAz PassesOwn.never rfl (qAn (qAp G1 hr1 rfl .nil qAo (pa_cons (qAp G2 hr1 rfl .nil qAo (pa_cons (qAp G3 hr5 rfl .nil qAo (pa_cons (pv 0) (pa_cons (pv 1) pa_nil))) pa_nil)) pa_nil))) (qAd (i:=4) scLQu.nd rfl (Or.inl rfl)) (pss_one (qBf (PW.pt (qDq (qAk qDz (pv 4) (pv 2) (qAq _)) (qCl (qAk qBl (qAj qAi rfl ml hAw (pa_cons (qAp G4 hr1 rfl .nil qAo (pa_cons (qAp G5 hr5 rfl .nil qAo (pa_cons (pv 0) (pa_cons (pv 4) (pa_cons qAc pa_nil)))) (pa_cons (qAh qC2 (pv 2) (pv 4)) pa_nil))) pa_nil)) qAc (qAq _))))) (pss_one (ps_expr (pe_bm hAq hB5 hB6 mt_append (pv 3) (pa_cons (pv 4) pa_nil)))) qAu))) (pss_one (ps_ret (pv 3))))),?_⟩;try dsimp only[Cx.wish,qBy]
 have lS:=st.len;refine⟨_,rfl,_,_,rfl,rfl,⟨by omega,by omega,by decide⟩,_,_,rfl,rfl,?_⟩;refine⟨hAp _,fun fo fo0=>?_⟩;have X0:=Ext.new fo0 (.lst []);refine⟨_,rfl,_,rfl,p,S,m,rfl,X0 _ _ hp,by omega,m12,st.gm,st.nd,fun r R H1 e1 r0 hR pR oR=>?_⟩;have cr:=crs st pR oR;have lR:=cr.st.len;refine⟨r,R,rfl,hR,by omega,fun su H2 e2 su0 hsu=>?_⟩;have l4:(sumF R).length<=4096:=by
  rw[qCu];exact hAr (hB9 (by decide) (show R.length<=12 by omega)) (by decide)
 refine⟨su,_,rfl,hsu,l4,fun le H3 e3 le0 hle=>?_⟩;have E3:=((X0.trans e1).trans e2).trans e3;have lf:le≠fo:=(qAe ((e1.trans e2) _ _ (upd_same (H:=H) (a:=fo) (o:=.lst []))) le0).symm;have hf3:LsN H3 fo []:=((e1.trans e2).trans e3) _ _ upd_same;have mU:∀ x,x∈leF (sumF R)↔WaP S m x:=fun x=>(mem_leF x).trans (lst_wall cr x)
 have lU:=hAr (leF_len (sumF R)) l4;have ndU:=leF_nd (cr.st.sumNd);clear hsu hR su0 r0 pR oR cr lR l4;clear X0 e1 e2 e3;revert mU lU ndU hle;generalize leF (sumF R)=U;intro hle mU lU ndU;refine⟨le,rfl,⟨_,SqL.of hle⟩,?_⟩;refine qA2 (xs:=U.map iV) (fun i σ H'=>∃ (W:List Nat) (x4:Option V),σ=[some (.ref p),some (iV m),some (.int (evI m)),some (.ref fo),x4]/\Ext H H'/\LsN H' le U/\LsN H' fo W/\W.Sublist (U.take i)/\∀ x,x∈W↔x∈U.take i/\QuP S m x) ⟨[],none,rfl,E3,hle,hf3,hDg _,fun x=>⟨fun h=>(by cases h),fun h=>(by cases h.1)⟩⟩ (fun i σ H' _ h=>by obtain⟨_,_,_,_,h,_⟩:=h;exact SqL.of h) ?_ ?_
 ·rintro i v σ H' hx ⟨W,x4,rfl,e,hl,hW,sub,mW⟩;obtain⟨x,rfl,hx2⟩:=qA1 hx;have hi:=at_lt hx2;have wx:=(mU x).mp (hAd hx2);have xl:=wx.1.1;have lW:=sub.length_le;rw[hAi]at lW;have tk:U.take (i+1)=U.take i++[x]:=qAm hx2;have no:¬QuP S m x->∀ y,y∈W↔y∈U.take (i+1)/\QuP S m y:=fun nq y=>by
   rw[mW,tk,hAb,hA4];exact⟨fun h=>⟨.inl h.1,h.2⟩,fun h=>⟨h.1.resolve_right fun z=>nq (z▸h.2),h.2⟩⟩
  have sub1:W.Sublist (U.take (i+1)):=by rw[tk];exact sub.trans (hDf _ _)
  refine⟨_,rfl,_,rfl,rfl,_,rfl,?_⟩;have e0:(!decide (V.int (x:Int)=V.int (evI m)))=!decide (x=2^m - 1):=by
   rw[shl1];congr 1;exact decide_eq_decide.mpr ⟨fun h=>by have:=V.int.inj h;omega,fun h=>by rw[h]⟩
  show if (!decide (V.int (x:Int)=V.int (evI m)))=true then _ else _
  rw[e0];refine qBw (fun c=>?_) (fun c=>iteF ⟨W,_,rfl,e,hl,hW,sub1,no ?_⟩)
  ·refine⟨_,rfl,_,rfl,p,S,x,m,rfl,e _ _ hp,by omega,m12,st.lt,fun r2 N H4 e4 r20 hN stN spN=>?_⟩;have lN:=stN.len;refine⟨_,rfl,_,rfl,_,_,rfl,rfl,r2,N,(2^m - 1)^^^x,?_,hN,by omega,fun r3 H5 e5 r30 hh=>?_⟩
   ·show [V.ref r2,V.int (Builtin.bitXor (evI m) (x:Int))]=_;rw[shl1,qBm]
   have key:=quiet_law (N:=S) m12 xl (fun u hu=>Spn.lt st.lt hu) spN fun t ht=>stN.least ht
   refine⟨r3,_,rfl,.inl (SqL.of hh),rfl,_,rfl,?_⟩;have e1:decide (V.int (((hpF (N++sgF ((2^m - 1)^^^x))).map iV).length:Int)=V.int 1)=true↔QuP S m x:=by
    rw[decide_eq_true_iff,hA1,<-key];exact⟨fun h=>by have:=V.int.inj h;omega,fun h=>by rw[h];rfl⟩
   have E5:=(e.trans e4).trans e5;have hl5:=(e4.trans e5) _ _ hl;have hW5:=(e4.trans e5) _ _ hW;refine qBw (fun c2=>?_) (fun c2=>⟨W,_,rfl,E5,hl5,hW5,sub1,no fun z=>c2 (e1.mpr z)⟩);have qx:=e1.mp c2;refine⟨_,rfl,.inl ⟨rfl,_,SqL.of hW5⟩,_,rfl,fo,_,_,rfl,rfl,hW5,(by rw[hA1];exact qA3 (by omega)),?_⟩;refine⟨W++[x],_,rfl,E5.over fo0 _,by unfold LsN;rw[upd_ne lf];exact hl5,by unfold LsN;rw[upd_same,hA3];rfl,by rw[tk];exact sub.append (hDg _),fun y=>?_⟩;rw[tk,hAb,hAb,hA4,mW];constructor
   ·rintro(h | h)
    ·exact⟨.inl h.1,h.2⟩
    ·exact⟨.inr h,h▸qx⟩
   ·rintro⟨h1 | h1,h2⟩
    ·exact .inl ⟨h1,h2⟩
    ·exact .inr h1
  ·have c':x=2^m - 1:=by simpa using c
   rintro⟨h1,_⟩;refine h1 ?_;rw[c',hE3]
 ·rintro σ H' ⟨W,x4,rfl,e,hl,hW,sub,mW⟩;rw[hA1,hA6 (hA5 _)]at sub mW;have:=sub.length_le;refine⟨_,rfl,q fo W H' e fo0 hW (ndU.sublist sub) (by omega) fun x=>?_⟩;rw[mW,mU]
end
end My
namespace My
open PySem L2
section
variable {P:Program} {w:World} {K:PySem.W.Frag} {mg:Str->Option Value} {base:Heap} {f f1 f2 f3 f4 f5:Addr} {fd fd1 fd2 fd3 fd4 fd5:FuncData}
noncomputable abbrev lblN:List Str:=["_law_draw","_law_many","_law_base","_law_heaps_here","_law_heap","_law_sizes","_law_places","_law_found","_law_step"]
theorem scLBl:FnScope lblN ["_law_draw","_law_many","_law_base"] (qAb sBlk):=⟨rfl,rfl,rfl,by decide +kernel,rfl,by decide +kernel,by decide +kernel⟩
theorem ok_blk (F:Fun K "_law_block_of" "_law_block_of" sBlk f fd)
  (G1:Cl P w K mg base CX0 1 f1 fd1 ["_law_base","_law_every"] spLHp "_law_heaps")
  (G2:Cl P w K mg base CX0 1 f2 fd2 ["_law_names_here","_law_mask"] qF0 "_law_row")
  (G3:Cl P w K mg base CX0 1 f3 fd3 ["_law_draw","_law_many"] qDo "_law_take")
  (G4:Cl P w K mg base CX0 4 f4 fd4 ["_law_masks"] spLSt "_law_steps")
  (ml:mg "len" = none) (mr:mg "range" = none) (mL:mg "list" = none) (mma:mg "max" = none) (msu:mg "sum" = none):FnOk P w K mg base CX0 5 f fd ["_law_draw","_law_many","_law_base"] spBlk:=by
 refine F.ok scLBl (fun vs H Q E h=>?_) (fun cdv A outer s H vs Q E hr h=>?_)
 ·obtain⟨d,n,m,p,S,rfl,_⟩:=h;rfl
 obtain⟨d,n,m,p,S,rfl,hd,pd,hp,lS,m0,m12,okS,q⟩:=h;have hr1:=hr.mono (j:=1) (by decide);refine⟨_,qAa (qAg (i:=3) scLBl.nd rfl (Or.inl rfl) (qAp G1 hr1 rfl .nil qAo (pa_cons (pv 2) (pa_cons (qAh qCp (qAh qBx qAc (pv 1)) qAc) pa_nil)))) (qAa (qAg (i:=4) scLBl.nd rfl (Or.inr rfl) (qBv qBe (pv 3) (qAp G3 hr1 rfl .nil qAo (pa_cons (pv 0) (pa_cons (qAj qAi rfl ml hAw (pa_cons (pv 3) pa_nil)) pa_nil))) (fun _ _=>rfl))) (qAa (qBd (qBf (qAk op_gt (qAp G3 hr1 rfl .nil qAo (pa_cons (pv 0) (pa_cons qAc pa_nil))) qAc (qAq _)) (qAa (qFi (i:=5) (N:=lblN) (sc:=qAb sBlk) (N':=["_law_one"]) (sub:=[none]) rfl rfl (CmpOk.of (by decide +kernel)) rfl (qAn (pv 3)) (fun C s H fp=>⟨qAd (i:=0) (by show(["_law_one"]:List Str).Nodup;decide) rfl (Or.inl rfl),qAy,(qAj (show qB9 _ (.builtin "len") (rLenS K) from qAi) rfl ml hAw (pa_cons (qAp G2 hr1 rfl .nil qAo (pa_cons (qA6 (qEp rfl) rfl mL qBu (pa_cons (qA6 qFc rfl mr qGr (pa_cons qAc pa_nil)) pa_nil)) (pa_cons (pv 0) pa_nil))) pa_nil))⟩) scLBl.nd rfl (Or.inl rfl)) (pss_one (qAg (i:=4) scLBl.nd rfl (Or.inr rfl) (qBv qBe (pv 3) (pe_bm hAq PySem.F.slot_list_index PySem.F.type_list_index mt_indexI (pv 5) (pa_cons (qAj (call_maxI rfl) rfl mma qEr (pa_cons (pv 5) pa_nil)) pa_nil)) (fun _ _=>rfl))))) qAu)) (qAa (qAg (i:=6) scLBl.nd rfl (Or.inr rfl) (qBo (N:=lblN) (sc:=qAb sBlk) (N':=["_law_k","_law_heap"]) (sub:=[none,some 4]) rfl rfl (CmpOk.of (by decide +kernel)) rfl (qAw rfl mr (pa_cons (pv 1) pa_nil)) (fun C s H fp=>⟨qAd (i:=0) (by show(["_law_k","_law_heap"]:List Str).Nodup;decide) rfl (Or.inl rfl),(qBh (qAk qBl (qAh qBg (qAh qFa (pv 1) (pv 0)) qAc) qAc (qAq _))),(pv 0)⟩))) (qAa (qAg (i:=7) scLBl.nd rfl (Or.inl rfl) (pe_lst pa_nil)) (qAa (qAz PassesOwn.never rfl (qAn (pv 2)) (qAd (i:=8) scLBl.nd rfl (Or.inr rfl)) (pss_one (qBf (qAk qBl (qAh qBg (pv 8) (pv 4)) (pv 8) (qAq _)) (pss_one (ps_expr (pe_bm hAq hB5 hB6 mt_append (pv 7) (pa_cons (qAj (qEo rfl) rfl msu qEq (pa_cons (qBo (N:=lblN) (sc:=qAb sBlk) (N':=["_law_k","_law_places","_law_step"]) (sub:=[none,some 6,some 8]) rfl rfl (CmpOk.of (by decide +kernel)) rfl (qAn (pv 6)) (fun C s H fp=>⟨qAd (i:=0) (by show(["_law_k","_law_places","_law_step"]:List Str).Nodup;decide) rfl (Or.inl rfl),(qBh (qAk qBl (qAh qBg (qAh qFa (pv 2) (pv 0)) qAc) qAc (qAq _))),(qAh qBx qAc (show PE _ _ (tBM K _ (rIndexI K) _ _) from pe_bm hAq PySem.F.slot_list_index PySem.F.type_list_index mt_indexI (pv 1) (pa_cons (pv 0) pa_nil)))⟩)) pa_nil)) pa_nil)))) qAu))) (pss_one (ps_ret (qCe (pa_cons (qAj qAi rfl ml hAw (pa_cons (pv 6) pa_nil)) (pa_cons (qAp G4 hr rfl .nil qAo (pa_cons (pv 7) pa_nil)) pa_nil)))))))))),?_⟩;try dsimp only[Cx.wish,qBy]
 refine⟨_,rfl,_,rfl,_,_,rfl,rfl,⟨by omega,by omega,by decide⟩,_,_,rfl,rfl,p,S,2^m - 1,?_,hp,by omega,fun ph H1 e1 ph0 hph=>?_⟩
 ·show [V.ref p,V.int (evI m)]=_;rw[shl1]
 have L1:∀ t∈S++sgF (2^m - 1),t<2^m/\t≠0:=fun t ht=>by
  rcases hAb.mp ht with h | h
  ·exact okS t h
  ·obtain⟨k,_,hk,rfl⟩:=qE0.mp h;rw[qC0,decide_eq_true_iff]at hk;exact⟨hD7 (by decide) hk,hCn (hDj (by decide))⟩
 have hlt:=hpF_lt (fun t ht=>(L1 t ht).2) fun t ht=>(L1 t ht).1
 have hpos:=hpF_pos (S++sgF (2^m - 1)) fun z=>by
  have:2^0∈S++sgF (2^m - 1):=hA8 _ (qE0.mpr ⟨0,by decide,by rw[qC0,decide_eq_true_iff];exact m0,rfl⟩);rw[z]at this;cases this
 have hlen:=hpF_len (S++sgF (2^m - 1));rw[hA7]at hlen;have lsg:=sgF_len (2^m - 1);have hlen20:(hpF (S++sgF (2^m - 1))).length<=20:=by omega
 clear hlen lsg L1;revert hlt hpos hlen20 hph;generalize hpF (S++sgF (2^m - 1))=hs;intro hph hlt hpos hlen20;have phd:ph≠d:=qDk hd ph0;have D1:=(Dr.refl hd).ext e1;refine⟨_,rfl,_,rfl,_,rfl,ph,_,rfl,.inl (SqL.of hph),d,n,_,rfl,e1 _ _ hd,by rw[hA1];omega,by rw[hA1];omega,fun q1 z za zb=>?_⟩;rw[hA1]at zb;obtain⟨z,rfl⟩:=hB8 za;have zl:z<hs.length:=by omega
 have D2:=D1.take q1;have hph2:LsN (upd H1 d (.lst [.int q1])) ph hs:=by unfold LsN;rw[upd_ne phd];exact hph
 refine⟨ph,_,_,_,rfl,rfl,SqL.of hph2,qFk zl,?_⟩;refine⟨fun σ' H'=>∃ (h:Nat) (x5:Option V),σ'=[some (.ref d),some (iV m),some (.ref p),some (.ref ph),some (iV h),x5,none,none,none]/\Dr d H H'/\h<2^m,?_,?_⟩
 ·refine⟨_,rfl,d,q1,3,rfl,upd_same,by decide,by decide,fun q2 y ya yb=>⟨_,_,rfl,rfl,_,rfl,?_⟩⟩;rw[qB3];have D3:=D1.take q2;have hph3:LsN (upd H1 d (.lst [.int q2])) ph hs:=by unfold LsN;rw[upd_ne phd];exact hph
  refine qBw (fun c=>?_) (fun c=>⟨hs[z],none,rfl,D3,hlt _ (hBp zl)⟩);revert D3 hph3;generalize upd H1 d (.lst [.int q2])=H3;intro D3 hph3;refine⟨_,rfl,ph,rfl,⟨_,SqL.of hph3⟩,?_⟩;refine qAs (xs:=hs.map iV) (fun j ys H4=>Ext H3 H4/\∃ ns:List Int,ys=ns.map V.int/\ns.length=j) ⟨Ext.refl _,[],rfl,rfl⟩ (fun j ys H4 _ h=>SqL.of (h.1 _ _ hph3)) ?_ ?_
  ·rintro j v ys H4 hx ⟨e4,ns,rfl,ln⟩;obtain⟨h,rfl,hh⟩:=qA1 hx;have hj:=at_lt hh;refine⟨Sle.set _ (Sle.refl _) (fun u z=>by cases z),iteT (B:=False) ?_⟩;refine⟨12,rfl,by decide,by decide,fun g g0=>?_⟩;have n1:=Ext.new g0 (.rng 0 12);refine⟨g,12,rfl,upd_same,by decide,by decide,fun l l0=>?_⟩;have n2:=n1.trans (Ext.new l0 (.lst ((List.range (12:Int).toNat).map fun (i:Nat)=>V.int (i:Int))));refine⟨_,rfl,l,_,h,rfl,upd_same,by rw[hA1,hAy];decide,fun r H5 e5 r0 hr'=>?_⟩;refine⟨r,_,rfl,.inl (SqL.of hr'),?_,nxt (at_lt hx) ⟨(e4.trans n2).trans e5,ns++[_],by rw[hA3];rfl,by rw[hA7,ln];rfl⟩⟩;rw[hA1];exact qAf (by omega)
  rintro ys H4 ⟨e4,ns,rfl,ln⟩ si hsi;rw[hA1]at ln;have X5:=Ext.new hsi (.lst (ns.map V.int));have hs5:upd H4 si (.lst (ns.map V.int)) si=some (.lst (ns.map V.int)):=upd_same;have ne:ns≠[]:=fun z=>by rw[z]at ln;exact absurd ln (by show ¬0=hs.length;omega)
  refine⟨_,rfl,_,rfl,.inl ⟨rfl,_,SqL.of hs5⟩,_,rfl,si,ns,rfl,SqL.of hs5,ne,fun M hM _=>?_⟩;refine⟨si,ns,M,rfl,rfl,hs5,hM,by omega,fun j hj=>?_⟩;have jl:j<hs.length:=by have:=at_lt hj;omega
  refine⟨ph,_,_,_,rfl,rfl,SqL.of ((e4.trans X5) _ _ hph3),qFk jl,hs[j],_,rfl,(D3.ext e4).ext X5,hlt _ (hBp jl)⟩
 rintro _ H2 ⟨h,x5,rfl,d2,hl⟩;clear D2 hph2 hph D1;have ne_pd:p≠d:=pd;have hp2:LsN H2 p S:=d2.2 p _ pd hp;refine⟨_,rfl,_,rfl,by omega,by omega,?_⟩;rw[hB4];refine qBz (lo:=0) (n:=m) (fun i ys H3=>H3=H2/\ys=((List.range i).filter fun k=>h.testBit k).map iV) ⟨rfl,rfl⟩ ?_ ?_
 ·rintro i ys H3 hi ⟨rfl,rfl⟩;rw[show(0+(i:Int))=((i:Nat):Int) by omega];have key:(decide (V.int (Builtin.bitAnd ((h:Int) / 2^((i:Nat):Int).toNat) 1)=V.int 1)=true)↔h.testBit i=true:=by
   rw[decide_eq_true_iff,V.int.injEq,hB4,qC6];by_cases b:h.testBit i=true
   ·simp[b]
   ·simp[b]
  have lf:=hAm (fun k=>h.testBit k) (List.range i);rw[hAy]at lf;have st:((List.range (i+1)).filter fun k=>h.testBit k)=((List.range i).filter fun k=>h.testBit k)++(if h.testBit i=true then [i] else []):=by
   rw[hC9,hBc];by_cases b:h.testBit i=true <;> simp[b]
  refine⟨Sle.set _ (Sle.refl _) (fun u z=>by cases z),_,rfl,_,rfl,_,_,rfl,rfl,(by show(0:Int)<=_;omega),_,_,rfl,rfl,rfl,_,rfl,?_⟩;refine qBw (fun c=>?_) (fun c=>?_)
  ·refine⟨_,rfl,by rw[hA1];exact qAf (by omega),nxt hi ⟨rfl,?_⟩⟩;rw[st,if_pos (key.mp c),hA3];rfl
  ·refine nxt hi ⟨rfl,?_⟩;rw[st,if_neg fun z=>c (key.mpr z),hBe]
 rintro ys H3 ⟨rfl,rfl⟩ pl hpl;have plN:((List.range m).filter fun k=>h.testBit k).Nodup:=hCg.sublist hBb;have plL:((List.range m).filter fun k=>h.testBit k).length<=m:=by
  have:=hAm (fun k=>h.testBit k) (List.range m);rw[hAy]at this;exact this
 revert plN plL;generalize (List.range m).filter (fun k=>h.testBit k)=ps;intro plN plL;have d4:=d2.new hpl (.lst (ps.map iV));have hp4:=(Ext.new hpl (.lst (ps.map iV))) _ _ hp2;have hpl4:LsN (upd H3 pl (.lst (ps.map iV))) pl ps:=upd_same;have pl0:=d2.none hpl;revert d4 hp4 hpl4;generalize upd H3 pl (.lst (ps.map iV))=H4;intro d4 hp4 hpl4;refine⟨hAp _,fun fo hfo=>?_⟩;have X5:=Ext.new hfo (.lst []);have d5:=d4.ext X5;have fo0:=d4.none hfo;have hp5:=X5 _ _ hp4;have hpl5:=X5 _ _ hpl4;have hf5:LsN (upd H4 fo (.lst [])) fo []:=upd_same;have fop:fo≠p:=(qAe hp4 hfo).symm;have fol:fo≠pl:=(qAe hpl4 hfo).symm;have fod:fo≠d:=qDk hd fo0;revert d5 hp5 hpl5 hf5;generalize upd H4 fo (.lst [])=H5;intro d5 hp5 hpl5 hf5;refine⟨_,rfl,p,rfl,⟨_,SqL.of hp5⟩,?_⟩;refine qA2 (xs:=S.map iV) (fun i σ H'=>∃ (Fd:List Nat) (x8:Option V),σ=[some (.ref d),some (iV m),some (.ref p),some (.ref ph),some (iV h),x5,some (.ref pl),some (.ref fo),x8]/\Dr d H H'/\LsN H' p S/\LsN H' pl ps/\LsN H' fo Fd/\Fd.length<=i/\∀ x∈Fd,x<2^ps.length) ⟨[],none,rfl,d5,hp5,hpl5,hf5,hA5 _,fun x hx=>(by cases hx)⟩ (fun i σ H' _ h=>by obtain⟨_,_,_,_,h,_⟩:=h;exact SqL.of h) ?_ ?_
 ·rintro i v σ H' hx ⟨Fd,x8,rfl,d6,hp6,hpl6,hf6,lF,ltF⟩;obtain⟨t,rfl,ht⟩:=qA1 hx;have hi:=at_lt ht;refine⟨_,rfl,_,rfl,_,_,rfl,rfl,_,rfl,rfl,_,rfl,?_⟩;refine qBw (fun c=>?_) (fun c=>⟨Fd,_,rfl,d6,hp6,hpl6,hf6,by omega,ltF⟩);refine⟨_,rfl,.inl ⟨rfl,_,SqL.of hf6⟩,_,rfl,pl,rfl,⟨_,SqL.of hpl6⟩,?_⟩;refine qAs (xs:=ps.map iV) (fun j ys H7=>H7=H'/\ys=((((List.range j).filter fun i=>t.testBit (ps.getD i 0)).map fun i=>2^i).map iV)) ⟨rfl,rfl⟩ (fun j ys H7 _ h=>by rw[h.1];exact SqL.of hpl6) ?_ ?_
  ·rintro j v ys H7 hx7 ⟨rfl,rfl⟩;obtain⟨k,rfl,hk⟩:=qA1 hx7;have hj:=at_lt hk;have gk:ps.getD j 0=k:=by rw[hAk,hk];rfl
   have key:(decide (V.int (Builtin.bitAnd ((t:Int) / 2^((k:Nat):Int).toNat) 1)=V.int 1)=true)↔t.testBit k=true:=by
    rw[decide_eq_true_iff,V.int.injEq,hB4,qC6];by_cases b:t.testBit k=true
    ·simp[b]
    ·simp[b]
   have lf:=hAm (fun i=>t.testBit (ps.getD i 0)) (List.range j);rw[hAy]at lf;have st:((List.range (j+1)).filter fun i=>t.testBit (ps.getD i 0))=((List.range j).filter fun i=>t.testBit (ps.getD i 0))++(if t.testBit k=true then [j] else []):=by
    rw[hC9,hBc];congr 1;rw[List.filter_cons];show(if t.testBit (ps.getD j 0)=true then _ else _)=_;rw[gk];rfl
   refine⟨Sle.set _ (Sle.refl _) (fun u z=>by cases z),_,rfl,_,rfl,_,_,rfl,rfl,(by show(0:Int)<=_;omega),_,_,rfl,rfl,rfl,_,rfl,?_⟩;refine qBw (fun c2=>?_) (fun c2=>?_)
   ·refine⟨_,rfl,.inl ⟨rfl,_,SqL.of hpl6⟩,_,rfl,pl,ps.map (fun n:Nat=>(n:Int)),(k:Int),rfl,rfl,by rw[<-qB4];exact hpl6,hA9.mpr ⟨k,hAd hk,rfl⟩,by rw[hA1];omega,fun j' hj'=>?_⟩;have ej:j'=j:=by
     rw[hAs]at hj';cases e:ps[j']? with
     | none=>rw[e]at hj';cases hj'
     | some k' =>
      rw[e]at hj';have h2:((k':Nat):Int)=(k:Int):=hAu hj';have:k'=k:=by omega
      rw[this]at e;exact((List.getElem?_inj (at_lt hk) plN).mp (hk.trans e.symm)).symm
    subst ej;refine⟨_,_,rfl,rfl,⟨by omega,by omega,by decide⟩,by rw[hA1,hA1];exact qAf (by omega),nxt (at_lt hx7) ⟨rfl,?_⟩⟩;rw[st,if_pos (key.mp c2),hA3,hA3];show _++[V.int (1*2^((j':Nat):Int).toNat)]=_;rw[qA8];rfl
   ·refine nxt (at_lt hx7) ⟨rfl,?_⟩;rw[st,if_neg fun z=>c2 (key.mpr z),hBe]
  rintro ys H7 ⟨rfl,rfl⟩ l hl;rw[hA1];have X7:=Ext.new hl (.lst ((((List.range ps.length).filter fun i=>t.testBit (ps.getD i 0)).map fun i=>2^i).map iV));have sl:(((List.range ps.length).filter fun i=>t.testBit (ps.getD i 0)).map fun i=>2^i).sum<2^ps.length:=pows_lt (hCg.sublist hBb) fun l hl=>hAt.mp (hAf.mp hl).1
  refine⟨l,((((List.range ps.length).filter fun i=>t.testBit (ps.getD i 0)).map fun i=>2^i).map fun n:Nat=>(n:Int)),rfl,SqL.of (by rw[upd_same,qB4]),fo,_,_,rfl,rfl,X7 _ _ hf6,(by rw[hA1];exact qAf (by omega)),?_⟩;refine⟨Fd++[(((List.range ps.length).filter fun i=>t.testBit (ps.getD i 0)).map fun i=>2^i).sum],_,rfl,(d6.ext X7).over fo0 fod _,by unfold LsN;rw[upd_ne fop.symm];exact X7 _ _ hp6,by unfold LsN;rw[upd_ne fol.symm];exact X7 _ _ hpl6,?_,by rw[hA7];exact hCt lF,fun x hx=>?_⟩
  ·unfold LsN;rw[upd_same,hA3,qD5];rfl
  ·rcases hAb.mp hx with hx | hx
   ·exact ltF x hx
   ·rw[hA4.mp hx];exact sl
 ·rintro σ H' ⟨Fd,x8,rfl,d6,hp6,hpl6,hf6,lF,ltF⟩;rw[hA1]at lF;refine⟨_,rfl,pl,_,rfl,.inl (SqL.of hpl6),_,rfl,fo,Fd,ps.length,rfl,hf6,by omega,by omega,ltF,fun r R H8 e8 r0 hR pR oR=>?_⟩;have st:Stp ps.length R:=⟨_,ltF,pR,oR⟩;have lR:R.length<=8:=by
   rw[pR.length_eq];have:=redL_le Fd;omega
  refine⟨(by show 2<=sizeLine;decide),fun T hT=>?_⟩;have D8:=d6.ext e8;refine q T r ps.length R _ (D8.new hT _) (D8.none hT) ?_ (d6.none r0) ((Ext.new hT _) _ _ hR) st lR (by omega);rw[upd_same,hA1]
end
end My
namespace My
open PySem L2
def spLaw (K:PySem.W.Frag) (Pt:Addr):Sp:=fun vs H Q _=>∃ (a:Addr) (ns:List Int),vs=[.ref a]/\SqL K H a (ns.map V.int)/\ns.length<=63/\H Pt=some (.tbl #[])/\∀ H',Q (.bl true) H'
theorem numL_spn {names:List Str} {ms:List Nat} (tok:TabOk names (ms.map (rowL names))) (lt:∀ x∈ms,x<2^names.length) (u:Nat):Spn (numL names (ms.map (rowL names))) u↔Spn ms u:=by
 obtain⟨g,e⟩:=tok.num;have e2:(ms.map (rowL names)).map (qAt names)=ms.map (rv names.length):=by
  rw[hAo];exact hBs fun x _=>qDm (qEa tok.rn)
 rw[e2]at e;have key:∀ u,u<2^names.length->(Spn (numL names (ms.map (rowL names))) u↔Spn ms u):=fun u ul=>by
  rw[<-qBt (fun y hy=>(g y hy).1) ul,e,qCw,qBt lt ul]
 exact⟨fun h=>(key u (Spn.lt (fun y hy=>(g y hy).1) h)).mp h,fun h=>(key u (Spn.lt lt h)).mpr h⟩
theorem WaP.congr {N N':List Nat} (h:∀ u,Spn N u↔Spn N' u) {m x:Nat}:WaP N m x↔WaP N' m x:=by
 have e:∀ o,(o<2^m/\∀ s∈N,dot m o s=false)↔(o<2^m/\∀ s∈N',dot m o s=false):=fun o=>and_congr_right fun _=>⟨fun z s hs=>spn_dot z ((h s).mpr (.mem hs)),fun z s hs=>spn_dot z ((h s).mp (.mem hs))⟩
 unfold WaP;simp only[e]
theorem same_rows {names:List Str} (nd:names.Nodup) {S N W:List Nat} {F D:List (List Str)} (sp:∀ u,Spn N u↔Spn S u) (ndW:W.Nodup) (mW:∀ x,x∈W↔WaP S names.length x/\QuP S names.length x) (pD:D.Perm (W.map (rowL names))) (soD:RwO D)
  (soF:RwO F) (ndF:F.Nodup) (mF:∀ row,row∈F↔∃ x,WaP N names.length x/\QuP N names.length x/\row=rowL names x):F=D:=by
 refine rwo_uniq soF soD ((List.perm_ext_iff_of_nodup ndF (pD.nodup_iff.mpr (hAz.mpr (ndW.imp_of_mem fun {a b} ha hb ne e=>ne (rowL_inj nd ((mW a).mp ha).1.1.1 ((mW b).mp hb).1.1.1 e))))).mpr fun row=>?_);rw[mF,pD.mem_iff,hA9];constructor
 ·rintro⟨x,h1,h2,rfl⟩;exact⟨x,(mW x).mpr ⟨(WaP.congr sp).mp h1,(QuP.congr sp).mp h2⟩,rfl⟩
 ·rintro⟨x,hx,rfl⟩;obtain⟨h1,h2⟩:=(mW x).mp hx;exact⟨x,(WaP.congr sp).mpr h1,(QuP.congr sp).mpr h2,rfl⟩
section
variable {P:Program} {w:World} {K:PySem.W.Frag} {mg:Str->Option Value} {base:Heap} {f f1 f2 f3 f4 f5 f6 f7 f8 f9 fa Pt:Addr} {fd fd1 fd2 fd3 fd4 fd5 fd6 fd7 fd8 fd9 fda:FuncData}
noncomputable abbrev lawN:List Str:=["_law_script","_law_draw","_law_many","_law_base","_law_table_here","_law_due","_law_handed","_law_turn","_law_found","_law_row_here"]
theorem qFh:FnScope lawN ["_law_script"] (qAb sLaw):=⟨rfl,rfl,rfl,by decide +kernel,rfl,by decide +kernel,by decide +kernel⟩
theorem ok_law (F:Fun K "law" "law" sLaw f fd)
  (G1:Cl P w K mg base CX0 2 f1 fd1 ["_law_script","_law_at"] (spPurse K) "_law_purse")
  (G2:Cl P w K mg base CX0 7 f2 fd2 ["_law_draw","_law_most"] spHou "_law_house")
  (G3:Cl P w K mg base CX0 3 f3 fd3 ["_law_draw","_law_many","_law_base"] spTab "_law_table")
  (G4:Cl P w K mg base CX0 3 f4 fd4 ["_law_names_here","_law_masks"] spLIO "_law_in_order")
  (G5:Cl P w K mg base CX0 1 f5 fd5 ["_law_table_here"] spLCop "_law_copy")
  (G6:Cl P w K mg base CX0 6 f6 fd6 ["table"] (spQuO Pt) "quiet_ones")
  (G7:Cl P w K mg base CX0 1 f7 fd7 ["_law_found","_law_due"] spGoo "_law_rows_good")
  (G8:Cl P w K mg base CX0 5 f8 fd8 ["_law_draw","_law_many","_law_base"] spBlk "_law_block_of")
  (G9:Cl P w K mg base CX0 1 f9 fd9 ["_law_draw","_law_many"] qDo "_law_take")
  (Ga:Cl P w K mg base CX0 6 fa fda ["_law_base","_law_many"] spLQu "_law_quiet")
  (mr:mg "range" = none) (mit:mg "int" = none):FnOk P w K mg base CX0 8 f fd ["_law_script"] (spLaw K Pt):=by
 refine F.ok qFh (fun vs H Q E h=>?_) (fun cdv A outer s H vs Q E hr h=>?_)
 ·obtain⟨a,ns,rfl,_⟩:=h;rfl
 obtain⟨a,ns,rfl,ha,_,hP,q⟩:=h;have hr1:=hr.mono (j:=1) (by decide);have hr2:=hr.mono (j:=2) (by decide);have hr3:=hr.mono (j:=3) (by decide);have hr5:=hr.mono (j:=5) (by decide);have hr6:=hr.mono (j:=6) (by decide);refine⟨_,qAa (qAg (i:=1) qFh.nd rfl (Or.inl rfl) (qAp G1 hr2 rfl .nil qAo (pa_cons (pv 0) (pa_cons qAc pa_nil)))) (qAa (qEe (qAp G2 hr rfl .nil qAo (pa_cons (pv 1) (pa_cons (qBv qBe (pe_lst (pa_cons qAc (pa_cons qAc pa_nil))) (qA6 qDh rfl mit qDi (pa_cons (qDa qBl (qAp G9 hr1 rfl .nil qAo (pa_cons (pv 1) (pa_cons qAc pa_nil))) qAc (qAq _)) pa_nil)) (fun _ _=>rfl)) pa_nil))) (qEf rfl (qA4 (qAd (i:=2) qFh.nd rfl (Or.inl rfl)) (qA4 (qAd (i:=3) qFh.nd rfl (Or.inl rfl)) qCx)))) (qAa (qBf (qAk qBl (pv 2) qAc (qAq _)) (pss_one (ps_ret pe_bl)) qAu) (qAa (qEe (qAp G8 hr5 rfl .nil qAo (pa_cons (pv 1) (pa_cons (pv 2) (pa_cons (pv 3) pa_nil)))) (qEf rfl (qA4 (qAd (i:=2) qFh.nd rfl (Or.inl rfl)) (qA4 (qAd (i:=3) qFh.nd rfl (Or.inl rfl)) qCx)))) (qAa (qAg (i:=4) qFh.nd rfl (Or.inl rfl) (qAp G3 hr3 rfl .nil qAo (pa_cons (pv 1) (pa_cons (pv 2) (pa_cons (pv 3) pa_nil))))) (qAa (qAg (i:=5) qFh.nd rfl (Or.inl rfl) (qAp G4 hr3 rfl .nil qAo (pa_cons (qBv qGl (pv 4) qAc (fun _ _=>rfl)) (pa_cons (qAp Ga hr6 rfl .nil qAo (pa_cons (pv 3) (pa_cons (pv 2) pa_nil))) pa_nil)))) (qAa (qAg (i:=6) qFh.nd rfl (Or.inl rfl) (qAp G5 hr1 rfl .nil qAo (pa_cons (pv 4) pa_nil))) (qAa (qAz PassesOwn.never rfl (qAw rfl mr (pa_cons qAc pa_nil)) (qAd (i:=7) qFh.nd rfl (Or.inl rfl)) (qAa (qAg (i:=8) qFh.nd rfl (Or.inl rfl) (qAp G6 hr6 rfl .nil qAo (pa_cons (pv 6) pa_nil))) (qAa (qBf (PW.pt (pw_or (qG6 (qE9 (qAp G7 hr1 rfl .nil qAo (pa_cons (pv 8) (pa_cons (pv 5) pa_nil))))) (pw_or1 (qAk (qG9 (qF7 hr)) (pv 6) (pv 4) (qAq _))))) (pss_one (ps_ret pe_bl)) qAu) (qAa (qAz PassesOwn.never rfl (qAn (pv 8)) (qAd (i:=9) qFh.nd rfl (Or.inl rfl)) (pss_one (ps_expr (pe_bm0 hAq PySem.F.slot_list_clear PySem.F.type_list_clear mt_clear (pv 9))))) (pss_one (ps_expr (pe_bm hAq hB5 hB6 mt_append (pv 8) (pa_cons (pe_lst (pa_cons pe_str pa_nil)) pa_nil)))))))) (pss_one (ps_ret pe_bl))))))))),?_⟩;try dsimp only[Cx.wish,qBy]
 refine⟨_,rfl,a,ns,0,rfl,ha,by decide,by decide,fun v d hd0=>?_⟩;have dP:Pt≠d:=qAe hP hd0;refine⟨_,rfl,(by show 2<=sizeLine;decide),fun l hl=>?_⟩;have D0:Dr d (upd H d (.lst [.int v])) (upd H d (.lst [.int v])):=Dr.refl upd_same;have Xl:=Ext.new hl (.lst [V.int 10,V.int 12]);have D1:=D0.ext Xl;have ld:l≠d:=D0.ne hl;have hl1:upd (upd H d (.lst [.int v])) l (.lst [V.int 10,V.int 12]) l=some (.lst [V.int 10,V.int 12]):=upd_same;obtain⟨q1,z1⟩:=D1.1;have P0:upd H d (.lst [.int v]) Pt=some (.tbl #[]):=by rw[upd_ne dP];exact hP
 revert D1 hl1 z1 hd0 D0 hl Xl P0;generalize upd (upd H d (.lst [.int v])) l (.lst [V.int 10,V.int 12])=H1;generalize upd H d (.lst [.int v])=H0;intro hd0 hl D0 Xl D1 hl1 z1 P0;refine⟨_,rfl,d,q1,8,rfl,z1,by decide,by decide,fun q2 y ya yb=>?_⟩;have D2:=D1.take q2;have hl2:upd H1 d (.lst [.int q2]) l=some (.lst [V.int 10,V.int 12]):=by rw[upd_ne ld];exact hl1
 have z2:upd H1 d (.lst [.int q2]) d=some (.lst [.int q2]):=upd_same;clear z1 hl1 D1;revert D2 hl2 z2;generalize upd H1 d (.lst [.int q2])=H2;intro D2 hl2 z2;refine⟨rfl,.inr ⟨_,rfl,?_⟩⟩;obtain⟨Mo,o1,o2,eo⟩:∃ Mo:Nat,10<=Mo/\Mo<=12/\atI [V.int 10,V.int 12] (if decide (V.int y=V.int 5)=true then 1 else 0)=some (iV Mo):=by
  cases decide (V.int y=V.int 5)
  ·exact⟨10,by decide,by decide,rfl⟩
  ·exact⟨12,by decide,by decide,rfl⟩
 refine⟨l,_,_,_,rfl,rfl,SqL.of hl2,eo,?_⟩;refine⟨d,q2,Mo,rfl,o1,o2,z2,fun T0 du m S H3 d3 T00 hT0 du0 hS sS lS m12=>?_⟩;have D3:=D2.trans d3;have dud:du≠d:=D2.ne du0;obtain⟨q3,z3⟩:=d3.1;refine⟨T0,_,rfl,SqT.of hT0,rfl,_,_,rfl,_,_,rfl,rfl,?_⟩;refine⟨_,rfl,rfl,_,rfl,qBw (fun c=>q _) (fun c=>?_)⟩;have m0:0<m:=by
  have:¬(V.int (m:Int)=V.int 0):=by simpa using c
  by_cases e:m=0
  ·exact absurd (by rw[e];rfl) this
  ·omega
 refine⟨_,rfl,_,rfl,_,rfl,d,q3,m,du,S,rfl,z3,dud,hS,lS,m0,m12,sS.gm,fun T1 bs k R H4 d4 T10 hT1 bs0 hR sR lR k12=>?_⟩;have D4:=D3.trans d4;have bsd:bs≠d:=D3.ne bs0;obtain⟨q4,z4⟩:=d4.1;refine⟨T1,_,rfl,SqT.of hT1,rfl,_,_,rfl,_,_,rfl,rfl,?_⟩;refine⟨_,rfl,_,rfl,_,rfl,d,q4,k,bs,R,rfl,z4,bsd,hR,lR,k12,sR.lt,fun tb names ms H5 d5 tb0 tI lN rN okN lms ltm spm=>?_⟩;subst lN;have D5:=D4.trans d5;have hR5:LsN H5 bs R:=d5.2 _ _ bsd hR;have P5:H5 Pt=some (.tbl #[]):=D5.2 _ _ dP P0;have lrw:(ms.map (rowL names)).length<=24:=by rw[hA1];omega
 have tok:TabOk names (ms.map (rowL names)):=⟨rN,okN,k12,by rw[hA1];exact lms,fun r hr=>by obtain⟨x,_,rfl⟩:=hA9.mp hr;exact⟨x,rfl⟩⟩;have sp:∀ u,Spn (numL names (ms.map (rowL names))) u↔Spn R u:=fun u=>(numL_spn tok ltm u).trans (spm u)
 clear hS d3 d4 z3 z4 D3 D4 D2 d5 hT0 hT1;obtain⟨na,ro,hTb,hNa,hRo⟩:=id tI;refine⟨_,rfl,tb,_,_,_,rfl,rfl,SqT.of hTb,(by exact qB5 (j:=0) rfl),_,rfl,_,rfl,bs,R,names.length,rfl,hR5,sR,k12,fun qr W H6 e6 qr0 hW ndW lW mW=>?_⟩;refine⟨na,qr,names,W,rfl,e6 _ _ hNa,k12,hW,lW,fun du2 D H7 e7 du20 hD pD soD=>?_⟩;have E7:=e6.trans e7;refine⟨_,rfl,tb,names,_,rfl,tI.ext E7,lrw,fun hn H8 e8 hn0 tI8=>?_⟩;have E8:=E7.trans e8;have tb8:=tI.ext E8;have hD8:=hD.ext e8;have tw8:TabW H8 Pt lpI qI:=.inl (E8 _ _ P5);have okR:∀ r∈ms.map (rowL names),SOk r:=fun r hr x hx=>by
  obtain⟨z,_,rfl⟩:=hA9.mp hr;obtain⟨i,_,e,_⟩:=qBi.mp hx;exact okN x (hAd e)
 have okD:∀ r∈D,SOk r/\r.length<=100:=fun r hr=>by
  obtain⟨z,_,rfl⟩:=hA9.mp (pD.mem_iff.mp hr);refine⟨fun x hx=>?_,by have:=rowL_len names z;omega⟩;obtain⟨i,_,e,_⟩:=qBi.mp hx;exact okN x (hAd e)
 clear hRo hNa hTb hR5 E8 E7 e8 e7 e6 hW hD tI P5;refine⟨2,rfl,by decide,by decide,qA7 (lo:=0) (n:=2) (fun i σ H'=>∃ x7 x8 x9:Option V,σ=[some (.ref a),some (.ref d),some (iV names.length),some (.ref bs),some (.ref tb),some (.ref du2),some (.ref hn),x7,x8,x9]/\Kp H8 H'/\TabW H' Pt lpI qI) ⟨none,none,none,rfl,Kp.refl _,tw8⟩ ?_ ?_⟩
 ·rintro i σ H' hi ⟨x7,x8,x9,rfl,k,tw⟩;refine⟨_,rfl,hn,names,_,rfl,k.tab tI8,tok,tw,fun r ps H9 eB r0 hr' hps nd lps soF ndF mF tw9=>?_⟩;have eF:ps.map Prod.snd=D:=same_rows (qEa rN) sp ndW mW pD soD soF ndF mF;obtain⟨t1,hb⟩:=My.TabW.tb tw;obtain⟨t9,hb9⟩:=My.TabW.tb tw9;have K9:=k.trans (kp_B eB hb hb9);have rF:qC4 H9 r D:=⟨ps.map Prod.fst,by rw[hAo];exact hr',by rw[<-eF];exact qEy fun p hp=>(hps p hp).1⟩;refine⟨_,rfl,_,rfl,r,du2,D,D,rfl,rF,K9.rows hD8,by rw[<-eF,hA1];exact lps,okD,fun r hr=>(okD r hr).1,rfl,fun Ha ea=>?_⟩;refine⟨true,rfl,iteF ?_⟩;have Ka:=K9.trans ea.kp;refine⟨_,rfl,_,rfl,_,_,dr_tab (Ka.tab tI8),dr_tab (Ka.tab tb8),qG0 okN okR,qG0 okN okR,_,rfl,?_⟩;rw[if_pos rfl,eqv_tab];refine iteF ?_;have hra:=ea _ _ hr';have twa:=My.TabW.extE tw9 ea;refine⟨_,rfl,r,rfl,⟨_,SqL.of hra⟩,?_⟩;refine qA2 (xs:=ps.map fun p=>V.ref p.1) (fun j σ Hb=>∃ x9:Option V,σ=[some (.ref a),some (.ref d),some (iV names.length),some (.ref bs),some (.ref tb),some (.ref du2),some (.ref hn),some (.int (0+i)),some (.ref r),x9]/\Kp H8 Hb/\TabW Hb Pt lpI qI/\Hb r=some (.lst (ps.map fun p=>V.ref p.1))/\∀ p∈ps,∃ xs,Hb p.1=some (.lst xs)) ⟨x9,rfl,Ka,twa,hra,fun p hp=>⟨_,ea _ _ (hps p hp).1⟩⟩ (fun j σ Hb _ h=>by obtain⟨_,_,_,_,h,_⟩:=h;exact SqL.of h) ?_ ?_
  ·rintro j v σ Hb hx ⟨x9,rfl,kb,twb,hrb,hb⟩;obtain⟨p,hp,rfl⟩:∃ p∈ps,V.ref p.1=v:=by
    obtain⟨p,hp,e⟩:=hA9.mp (hAd hx);exact⟨p,hp,e⟩
   obtain⟨xs,hxs⟩:=hb p hp;refine⟨_,rfl,.inl ⟨rfl,_,SqL.of hxs⟩,p.1,_,rfl,rfl,hxs,?_⟩;have p8:H8 p.1=none:=k.n _ (hps p hp).2.1;refine⟨_,rfl,kb.over p8 _,My.TabW.put twb hxs _,by rw[upd_ne (hps p hp).2.2.symm];exact hrb,fun p' hp'=>?_⟩;by_cases e:p'.1=p.1
   ·exact⟨_,by rw[e];exact upd_same⟩
   ·obtain⟨ys,hys⟩:=hb p' hp';exact⟨ys,by rw[upd_ne e];exact hys⟩
  ·rintro σ Hb ⟨x9,rfl,kb,twb,hrb,hb⟩;refine⟨_,rfl,.inl ⟨rfl,_,SqL.of hrb⟩,(by show 1<=sizeLine;decide),fun l1 hl1=>?_⟩;have X1:=Ext.new hl1 (.lst [V.str "a"]);refine⟨r,_,_,rfl,rfl,X1 _ _ hrb,(by rw[hA1];exact qA3 (by omega)),?_⟩;exact⟨_,_,_,rfl,(kb.trans X1.kp).over (k.n _ r0) _,My.TabW.put (My.TabW.extE twb X1) (X1 _ _ hrb) _⟩
 ·rintro σ H' ⟨x7,x8,x9,rfl,k,tw⟩;exact q _
end
end My
namespace My
open PySem L2
theorem len1 {α:Type} {us:List α} (h:us.length=1):∃ a,us=[a]:=List.length_eq_one_iff.mp h
theorem qHd {α:Type} {us:List α} (h:us.length=2):∃ a b,us=[a,b]:=by
 match us,h with | [a,b],_=>exact⟨a,b,rfl⟩
theorem len3 {α:Type} {us:List α} (h:us.length=3):∃ a b c,us=[a,b,c]:=by
 match us,h with | [a,b,c],_=>exact⟨a,b,c,rfl⟩
theorem all_mk {l:PySem.W.OpenLaw} {w:World} {K:PySem.W.Frag} {h:Heap} {mg:Str->Option Value} {fa f1 f2 f3 f4 f5 f6 f7 f8 f9 f10 f11 f12 f13 f14 f15 f16 f17 f18 f19 f20 f21 f22 f23 f24 f25 f26 f27 f28 f29 f30 f31 f32 f33 f34 f35 f36 f37 f38 f39 f40 f41 f42 f43 f44 f45:Addr} (X:K.In h) (G:h.Ns mainGlobals mg) (hfa:mg "law" = some (.ref fa)) {c T:Addr} (ht:PySem.W.tabIn K "in_order" = some (c,T))
  {od1 an1 od2 an2 od3 an3 od4 an4 od5 an5 od6 an6 od7 an7 od8 an8 od9 an9 od10 an10 od11 an11 od12 an12 od13 an13 od14 an14 od15 an15 od16 an16 od17 an17 od18 an18 od19 an19 od20 an20 od21 an21 od22 an22 od23 an23 od24 an24 od25 an25 od26 an26 od27 an27 od28 an28 od29 an29 od30 an30 od31 an31 od32 an32 od33 an33 od34 an34 od35 an35 od36 an36 od37 an37 od38 an38 od39 an39 od40 an40 od41 an41 od42 an42 od43 an43 od44 an44 od45 an45:Option Addr} {sl1 sl2 sl3 sl4 sl5 sl6 sl7 sl8 sl9 sl10 sl11 sl12 sl13 sl14 sl15 sl16 sl17 sl18 sl19 sl20 sl21 sl22 sl23 sl24 sl25 sl26 sl27 sl28 sl29 sl30 sl31 sl32 sl33 sl34 sl35 sl36 sl37 sl38 sl39 sl40 sl41 sl42 sl43 sl44 sl45:Array (Option Value)} {oc1 kV1 dc1 pm1 cd1 ct1 oc2 kV2 dc2 pm2 cd2 ct2 oc3 kV3 dc3 pm3 cd3 ct3 oc4 kV4 dc4 pm4 cd4 ct4 oc5 kV5 dc5 pm5 cd5 ct5 oc6 kV6 dc6 pm6 cd6 ct6 oc7 kV7 dc7 pm7 cd7 ct7 oc8 kV8 dc8 pm8 cd8 ct8 oc9 kV9 dc9 pm9 cd9 ct9 oc10 kV10 dc10 pm10 cd10 ct10 oc11 kV11 dc11 pm11 cd11 ct11 oc12 kV12 dc12 pm12 cd12 ct12 oc13 kV13 dc13 pm13 cd13 ct13 oc14 kV14 dc14 pm14 cd14 ct14 oc15 kV15 dc15 pm15 cd15 ct15 oc16 kV16 dc16 pm16 cd16 ct16 oc17 kV17 dc17 pm17 cd17 ct17 oc18 kV18 dc18 pm18 cd18 ct18 oc19 kV19 dc19 pm19 cd19 ct19 oc20 kV20 dc20 pm20 cd20 ct20 oc21 kV21 dc21 pm21 cd21 ct21 oc22 kV22 dc22 pm22 cd22 ct22 oc23 kV23 dc23 pm23 cd23 ct23 oc24 kV24 dc24 pm24 cd24 ct24 oc25 kV25 dc25 pm25 cd25 ct25 oc26 kV26 dc26 pm26 cd26 ct26 oc27 kV27 dc27 pm27 cd27 ct27 oc28 kV28 dc28 pm28 cd28 ct28 oc29 kV29 dc29 pm29 cd29 ct29 oc30 kV30 dc30 pm30 cd30 ct30 oc31 kV31 dc31 pm31 cd31 ct31 oc32 kV32 dc32 pm32 cd32 ct32 oc33 kV33 dc33 pm33 cd33 ct33 oc34 kV34 dc34 pm34 cd34 ct34 oc35 kV35 dc35 pm35 cd35 ct35 oc36 kV36 dc36 pm36 cd36 ct36 oc37 kV37 dc37 pm37 cd37 ct37 oc38 kV38 dc38 pm38 cd38 ct38 oc39 kV39 dc39 pm39 cd39 ct39 oc40 kV40 dc40 pm40 cd40 ct40 oc41 kV41 dc41 pm41 cd41 ct41 oc42 kV42 dc42 pm42 cd42 ct42 oc43 kV43 dc43 pm43 cd43 ct43 oc44 kV44 dc44 pm44 cd44 ct44 oc45 kV45 dc45 pm45 cd45 ct45:Value}
  (a1:PySem.W.nsIn K mainGlobals "mask_of" = some (some (.ref f1))) (l1:K.lookup f1=some ⟨oc1,od1,.func (PySem.W.fnOf "mask_of" "mask_of" (qAr sMask) (qAl sMask) (qAb sMask) .none kV1 dc1 pm1 an1 cd1 ct1),sl1⟩) (c1:PySem.W.codeIn K cd1 "mask_of" = true) (k1:PySem.W.keepIn K (.ref f1)=true)
  (a2:PySem.W.nsIn K mainGlobals "row_of" = some (some (.ref f2))) (l2:K.lookup f2=some ⟨oc2,od2,.func (PySem.W.fnOf "row_of" "row_of" (qAr qF5) (qAl qF5) (qAb qF5) .none kV2 dc2 pm2 an2 cd2 ct2),sl2⟩) (c2:PySem.W.codeIn K cd2 "row_of" = true) (k2:PySem.W.keepIn K (.ref f2)=true)
  (a3:PySem.W.nsIn K mainGlobals "lessened" = some (some (.ref f3))) (l3:K.lookup f3=some ⟨oc3,od3,.func (PySem.W.fnOf "lessened" "lessened" (qAr sLess) (qAl sLess) (qAb sLess) .none kV3 dc3 pm3 an3 cd3 ct3),sl3⟩) (c3:PySem.W.codeIn K cd3 "lessened" = true) (k3:PySem.W.keepIn K (.ref f3)=true)
  (a4:PySem.W.nsIn K mainGlobals "reduced" = some (some (.ref f4))) (l4:K.lookup f4=some ⟨oc4,od4,.func (PySem.W.fnOf "reduced" "reduced" (qAr sRedu) (qAl sRedu) (qAb sRedu) .none kV4 dc4 pm4 an4 cd4 ct4),sl4⟩) (c4:PySem.W.codeIn K cd4 "reduced" = true) (k4:PySem.W.keepIn K (.ref f4)=true)
  (a5:PySem.W.nsIn K mainGlobals "sums" = some (some (.ref f5))) (l5:K.lookup f5=some ⟨oc5,od5,.func (PySem.W.fnOf "sums" "sums" (qAr sSums) (qAl sSums) (qAb sSums) .none kV5 dc5 pm5 an5 cd5 ct5),sl5⟩) (c5:PySem.W.codeIn K cd5 "sums" = true) (k5:PySem.W.keepIn K (.ref f5)=true)
  (a6:PySem.W.nsIn K mainGlobals "lead_of" = some (some (.ref f6))) (l6:K.lookup f6=some ⟨oc6,od6,.func (PySem.W.fnOf "lead_of" "lead_of" (qAr sLead) (qAl sLead) (qAb sLead) .none kV6 dc6 pm6 an6 cd6 ct6),sl6⟩) (c6:PySem.W.codeIn K cd6 "lead_of" = true) (k6:PySem.W.keepIn K (.ref f6)=true)
  (a7:PySem.W.nsIn K mainGlobals "crossed_masks" = some (some (.ref f7))) (l7:K.lookup f7=some ⟨oc7,od7,.func (PySem.W.fnOf "crossed_masks" "crossed_masks" (qAr sCrM) (qAl sCrM) (qAb sCrM) .none kV7 dc7 pm7 an7 cd7 ct7),sl7⟩) (c7:PySem.W.codeIn K cd7 "crossed_masks" = true) (k7:PySem.W.keepIn K (.ref f7)=true)
  (a8:PySem.W.nsIn K mainGlobals "lacking" = some (some (.ref f8))) (l8:K.lookup f8=some ⟨oc8,od8,.func (PySem.W.fnOf "lacking" "lacking" (qAr sLack) (qAl sLack) (qAb sLack) .none kV8 dc8 pm8 an8 cd8 ct8),sl8⟩) (c8:PySem.W.codeIn K cd8 "lacking" = true) (k8:PySem.W.keepIn K (.ref f8)=true)
  (a9:PySem.W.nsIn K mainGlobals "table_from" = some (some (.ref f9))) (l9:K.lookup f9=some ⟨oc9,od9,.func (PySem.W.fnOf "table_from" "table_from" (qAr sTabF) (qAl sTabF) (qAb sTabF) .none kV9 dc9 pm9 an9 cd9 ct9),sl9⟩) (c9:PySem.W.codeIn K cd9 "table_from" = true) (k9:PySem.W.keepIn K (.ref f9)=true)
  (a10:PySem.W.nsIn K mainGlobals "step_masks" = some (some (.ref f10))) (l10:K.lookup f10=some ⟨oc10,od10,.func (PySem.W.fnOf "step_masks" "step_masks" (qAr qF4) (qAl qF4) (qAb qF4) .none kV10 dc10 pm10 an10 cd10 ct10),sl10⟩) (c10:PySem.W.codeIn K cd10 "step_masks" = true) (k10:PySem.W.keepIn K (.ref f10)=true)
  (a11:PySem.W.nsIn K mainGlobals "crossed" = some (some (.ref f11))) (l11:K.lookup f11=some ⟨oc11,od11,.func (PySem.W.fnOf "crossed" "crossed" (qAr qG4) (qAl qG4) (qAb qG4) .none kV11 dc11 pm11 an11 cd11 ct11),sl11⟩) (c11:PySem.W.codeIn K cd11 "crossed" = true) (k11:PySem.W.keepIn K (.ref f11)=true)
  (a12:PySem.W.nsIn K mainGlobals "left" = some (some (.ref f12))) (l12:K.lookup f12=some ⟨oc12,od12,.func (PySem.W.fnOf "left" "left" (qAr sLeft) (qAl sLeft) (qAb sLeft) .none kV12 dc12 pm12 an12 cd12 ct12),sl12⟩) (c12:PySem.W.codeIn K cd12 "left" = true) (k12:PySem.W.keepIn K (.ref f12)=true)
  (a13:PySem.W.nsIn K mainGlobals "blocks" = some (some (.ref f13))) (l13:K.lookup f13=some ⟨oc13,od13,.func (PySem.W.fnOf "blocks" "blocks" (qAr qCi) (qAl qCi) (qAb qCi) .none kV13 dc13 pm13 an13 cd13 ct13),sl13⟩) (c13:PySem.W.codeIn K cd13 "blocks" = true) (k13:PySem.W.keepIn K (.ref f13)=true)
  (a14:PySem.W.nsIn K mainGlobals "in_order" = some (some (.ref f14))) (l14:K.lookup f14=some ⟨oc14,od14,.func (PySem.W.fnOf "in_order" "in_order" (qAr qE8) (qAl qE8) (qAb qE8) .none kV14 dc14 pm14 an14 cd14 ct14),sl14⟩) (c14:PySem.W.codeIn K cd14 "in_order" = true) (k14:PySem.W.keepIn K (.ref f14)=true)
  (a15:PySem.W.nsIn K mainGlobals "round_masks" = some (some (.ref f15))) (l15:K.lookup f15=some ⟨oc15,od15,.func (PySem.W.fnOf "round_masks" "round_masks" (qAr sRMas) (qAl sRMas) (qAb sRMas) .none kV15 dc15 pm15 an15 cd15 ct15),sl15⟩) (c15:PySem.W.codeIn K cd15 "round_masks" = true) (k15:PySem.W.keepIn K (.ref f15)=true)
  (a16:PySem.W.nsIn K mainGlobals "rounds" = some (some (.ref f16))) (l16:K.lookup f16=some ⟨oc16,od16,.func (PySem.W.fnOf "rounds" "rounds" (qAr qDw) (qAl qDw) (qAb qDw) .none kV16 dc16 pm16 an16 cd16 ct16),sl16⟩) (c16:PySem.W.codeIn K cd16 "rounds" = true) (k16:PySem.W.keepIn K (.ref f16)=true)
  (a17:PySem.W.nsIn K mainGlobals "walls" = some (some (.ref f17))) (l17:K.lookup f17=some ⟨oc17,od17,.func (PySem.W.fnOf "walls" "walls" (qAr qG1) (qAl qG1) (qAb qG1) .none kV17 dc17 pm17 an17 cd17 ct17),sl17⟩) (c17:PySem.W.codeIn K cd17 "walls" = true) (k17:PySem.W.keepIn K (.ref f17)=true)
  (a18:PySem.W.nsIn K mainGlobals "is_quiet" = some (some (.ref f18))) (l18:K.lookup f18=some ⟨oc18,od18,.func (PySem.W.fnOf "is_quiet" "is_quiet" (qAr sIsQ) (qAl sIsQ) (qAb sIsQ) .none kV18 dc18 pm18 an18 cd18 ct18),sl18⟩) (c18:PySem.W.codeIn K cd18 "is_quiet" = true) (k18:PySem.W.keepIn K (.ref f18)=true)
  (a19:PySem.W.nsIn K mainGlobals "quiet_ones" = some (some (.ref f19))) (l19:K.lookup f19=some ⟨oc19,od19,.func (PySem.W.fnOf "quiet_ones" "quiet_ones" (qAr qF6) (qAl qF6) (qAb qF6) .none kV19 dc19 pm19 an19 cd19 ct19),sl19⟩) (c19:PySem.W.codeIn K cd19 "quiet_ones" = true) (k19:PySem.W.keepIn K (.ref f19)=true)
  (a20:PySem.W.nsIn K mainGlobals "_law_cell_at" = some (some (.ref f20))) (l20:K.lookup f20=some ⟨oc20,od20,.func (PySem.W.fnOf "_law_cell_at" "_law_cell_at" (qAr sCell) (qAl sCell) (qAb sCell) .none kV20 dc20 pm20 an20 cd20 ct20),sl20⟩) (c20:PySem.W.codeIn K cd20 "_law_cell_at" = true) (k20:PySem.W.keepIn K (.ref f20)=true)
  (a21:PySem.W.nsIn K mainGlobals "_law_purse" = some (some (.ref f21))) (l21:K.lookup f21=some ⟨oc21,od21,.func (PySem.W.fnOf "_law_purse" "_law_purse" (qAr qG2) (qAl qG2) (qAb qG2) .none kV21 dc21 pm21 an21 cd21 ct21),sl21⟩) (c21:PySem.W.codeIn K cd21 "_law_purse" = true) (k21:PySem.W.keepIn K (.ref f21)=true)
  (a22:PySem.W.nsIn K mainGlobals "_law_take" = some (some (.ref f22))) (l22:K.lookup f22=some ⟨oc22,od22,.func (PySem.W.fnOf "_law_take" "_law_take" (qAr sTake) (qAl sTake) (qAb sTake) .none kV22 dc22 pm22 an22 cd22 ct22),sl22⟩) (c22:PySem.W.codeIn K cd22 "_law_take" = true) (k22:PySem.W.keepIn K (.ref f22)=true)
  (a23:PySem.W.nsIn K mainGlobals "_law_names" = some (some (.ref f23))) (l23:K.lookup f23=some ⟨oc23,od23,.func (PySem.W.fnOf "_law_names" "_law_names" (qAr qD8) (qAl qD8) (qAb qD8) .none kV23 dc23 pm23 an23 cd23 ct23),sl23⟩) (c23:PySem.W.codeIn K cd23 "_law_names" = true) (k23:PySem.W.keepIn K (.ref f23)=true)
  (a24:PySem.W.nsIn K mainGlobals "_law_lead" = some (some (.ref f24))) (l24:K.lookup f24=some ⟨oc24,od24,.func (PySem.W.fnOf "_law_lead" "_law_lead" (qAr sLLd) (qAl sLLd) (qAb sLLd) .none kV24 dc24 pm24 an24 cd24 ct24),sl24⟩) (c24:PySem.W.codeIn K cd24 "_law_lead" = true) (k24:PySem.W.keepIn K (.ref f24)=true)
  (a25:PySem.W.nsIn K mainGlobals "_law_steps" = some (some (.ref f25))) (l25:K.lookup f25=some ⟨oc25,od25,.func (PySem.W.fnOf "_law_steps" "_law_steps" (qAr sLSt) (qAl sLSt) (qAb sLSt) .none kV25 dc25 pm25 an25 cd25 ct25),sl25⟩) (c25:PySem.W.codeIn K cd25 "_law_steps" = true) (k25:PySem.W.keepIn K (.ref f25)=true)
  (a26:PySem.W.nsIn K mainGlobals "_law_span" = some (some (.ref f26))) (l26:K.lookup f26=some ⟨oc26,od26,.func (PySem.W.fnOf "_law_span" "_law_span" (qAr sSpa) (qAl sSpa) (qAb sSpa) .none kV26 dc26 pm26 an26 cd26 ct26),sl26⟩) (c26:PySem.W.codeIn K cd26 "_law_span" = true) (k26:PySem.W.keepIn K (.ref f26)=true)
  (a27:PySem.W.nsIn K mainGlobals "_law_crossed" = some (some (.ref f27))) (l27:K.lookup f27=some ⟨oc27,od27,.func (PySem.W.fnOf "_law_crossed" "_law_crossed" (qAr sLCr) (qAl sLCr) (qAb sLCr) .none kV27 dc27 pm27 an27 cd27 ct27),sl27⟩) (c27:PySem.W.codeIn K cd27 "_law_crossed" = true) (k27:PySem.W.keepIn K (.ref f27)=true)
  (a28:PySem.W.nsIn K mainGlobals "_law_bounded" = some (some (.ref f28))) (l28:K.lookup f28=some ⟨oc28,od28,.func (PySem.W.fnOf "_law_bounded" "_law_bounded" (qAr sBou) (qAl sBou) (qAb sBou) .none kV28 dc28 pm28 an28 cd28 ct28),sl28⟩) (c28:PySem.W.codeIn K cd28 "_law_bounded" = true) (k28:PySem.W.keepIn K (.ref f28)=true)
  (a29:PySem.W.nsIn K mainGlobals "_law_ties" = some (some (.ref f29))) (l29:K.lookup f29=some ⟨oc29,od29,.func (PySem.W.fnOf "_law_ties" "_law_ties" (qAr sTies) (qAl sTies) (qAb sTies) .none kV29 dc29 pm29 an29 cd29 ct29),sl29⟩) (c29:PySem.W.codeIn K cd29 "_law_ties" = true) (k29:PySem.W.keepIn K (.ref f29)=true)
  (a30:PySem.W.nsIn K mainGlobals "_law_star_masks" = some (some (.ref f30))) (l30:K.lookup f30=some ⟨oc30,od30,.func (PySem.W.fnOf "_law_star_masks" "_law_star_masks" (qAr sStM) (qAl sStM) (qAb sStM) .none kV30 dc30 pm30 an30 cd30 ct30),sl30⟩) (c30:PySem.W.codeIn K cd30 "_law_star_masks" = true) (k30:PySem.W.keepIn K (.ref f30)=true)
  (a31:PySem.W.nsIn K mainGlobals "_law_small" = some (some (.ref f31))) (l31:K.lookup f31=some ⟨oc31,od31,.func (PySem.W.fnOf "_law_small" "_law_small" (qAr sSma) (qAl sSma) (qAb sSma) .none kV31 dc31 pm31 an31 cd31 ct31),sl31⟩) (c31:PySem.W.codeIn K cd31 "_law_small" = true) (k31:PySem.W.keepIn K (.ref f31)=true)
  (a32:PySem.W.nsIn K mainGlobals "_law_more" = some (some (.ref f32))) (l32:K.lookup f32=some ⟨oc32,od32,.func (PySem.W.fnOf "_law_more" "_law_more" (qAr sMor) (qAl sMor) (qAb sMor) .none kV32 dc32 pm32 an32 cd32 ct32),sl32⟩) (c32:PySem.W.codeIn K cd32 "_law_more" = true) (k32:PySem.W.keepIn K (.ref f32)=true)
  (a33:PySem.W.nsIn K mainGlobals "_law_mixed_names" = some (some (.ref f33))) (l33:K.lookup f33=some ⟨oc33,od33,.func (PySem.W.fnOf "_law_mixed_names" "_law_mixed_names" (qAr sMix) (qAl sMix) (qAb sMix) .none kV33 dc33 pm33 an33 cd33 ct33),sl33⟩) (c33:PySem.W.codeIn K cd33 "_law_mixed_names" = true) (k33:PySem.W.keepIn K (.ref f33)=true)
  (a34:PySem.W.nsIn K mainGlobals "_law_house" = some (some (.ref f34))) (l34:K.lookup f34=some ⟨oc34,od34,.func (PySem.W.fnOf "_law_house" "_law_house" (qAr sHou) (qAl sHou) (qAb sHou) .none kV34 dc34 pm34 an34 cd34 ct34),sl34⟩) (c34:PySem.W.codeIn K cd34 "_law_house" = true) (k34:PySem.W.keepIn K (.ref f34)=true)
  (a35:PySem.W.nsIn K mainGlobals "_law_row" = some (some (.ref f35))) (l35:K.lookup f35=some ⟨oc35,od35,.func (PySem.W.fnOf "_law_row" "_law_row" (qAr sLRow) (qAl sLRow) (qAb sLRow) .none kV35 dc35 pm35 an35 cd35 ct35),sl35⟩) (c35:PySem.W.codeIn K cd35 "_law_row" = true) (k35:PySem.W.keepIn K (.ref f35)=true)
  (a36:PySem.W.nsIn K mainGlobals "_law_table" = some (some (.ref f36))) (l36:K.lookup f36=some ⟨oc36,od36,.func (PySem.W.fnOf "_law_table" "_law_table" (qAr sTab) (qAl sTab) (qAb sTab) .none kV36 dc36 pm36 an36 cd36 ct36),sl36⟩) (c36:PySem.W.codeIn K cd36 "_law_table" = true) (k36:PySem.W.keepIn K (.ref f36)=true)
  (a37:PySem.W.nsIn K mainGlobals "_law_copy" = some (some (.ref f37))) (l37:K.lookup f37=some ⟨oc37,od37,.func (PySem.W.fnOf "_law_copy" "_law_copy" (qAr sLCop) (qAl sLCop) (qAb sLCop) .none kV37 dc37 pm37 an37 cd37 ct37),sl37⟩) (c37:PySem.W.codeIn K cd37 "_law_copy" = true) (k37:PySem.W.keepIn K (.ref f37)=true)
  (a38:PySem.W.nsIn K mainGlobals "_law_rows_good" = some (some (.ref f38))) (l38:K.lookup f38=some ⟨oc38,od38,.func (PySem.W.fnOf "_law_rows_good" "_law_rows_good" (qAr sGood) (qAl sGood) (qAb sGood) .none kV38 dc38 pm38 an38 cd38 ct38),sl38⟩) (c38:PySem.W.codeIn K cd38 "_law_rows_good" = true) (k38:PySem.W.keepIn K (.ref f38)=true)
  (a39:PySem.W.nsIn K mainGlobals "_law_left" = some (some (.ref f39))) (l39:K.lookup f39=some ⟨oc39,od39,.func (PySem.W.fnOf "_law_left" "_law_left" (qAr sLLf) (qAl sLLf) (qAb sLLf) .none kV39 dc39 pm39 an39 cd39 ct39),sl39⟩) (c39:PySem.W.codeIn K cd39 "_law_left" = true) (k39:PySem.W.keepIn K (.ref f39)=true)
  (a40:PySem.W.nsIn K mainGlobals "_law_heaps" = some (some (.ref f40))) (l40:K.lookup f40=some ⟨oc40,od40,.func (PySem.W.fnOf "_law_heaps" "_law_heaps" (qAr sLHp) (qAl sLHp) (qAb sLHp) .none kV40 dc40 pm40 an40 cd40 ct40),sl40⟩) (c40:PySem.W.codeIn K cd40 "_law_heaps" = true) (k40:PySem.W.keepIn K (.ref f40)=true)
  (a41:PySem.W.nsIn K mainGlobals "_law_least" = some (some (.ref f41))) (l41:K.lookup f41=some ⟨oc41,od41,.func (PySem.W.fnOf "_law_least" "_law_least" (qAr sLLea) (qAl sLLea) (qAb sLLea) .none kV41 dc41 pm41 an41 cd41 ct41),sl41⟩) (c41:PySem.W.codeIn K cd41 "_law_least" = true) (k41:PySem.W.keepIn K (.ref f41)=true)
  (a42:PySem.W.nsIn K mainGlobals "_law_in_order" = some (some (.ref f42))) (l42:K.lookup f42=some ⟨oc42,od42,.func (PySem.W.fnOf "_law_in_order" "_law_in_order" (qAr sLIO) (qAl sLIO) (qAb sLIO) .none kV42 dc42 pm42 an42 cd42 ct42),sl42⟩) (c42:PySem.W.codeIn K cd42 "_law_in_order" = true) (k42:PySem.W.keepIn K (.ref f42)=true)
  (a43:PySem.W.nsIn K mainGlobals "_law_quiet" = some (some (.ref f43))) (l43:K.lookup f43=some ⟨oc43,od43,.func (PySem.W.fnOf "_law_quiet" "_law_quiet" (qAr sLQu) (qAl sLQu) (qAb sLQu) .none kV43 dc43 pm43 an43 cd43 ct43),sl43⟩) (c43:PySem.W.codeIn K cd43 "_law_quiet" = true) (k43:PySem.W.keepIn K (.ref f43)=true)
  (a44:PySem.W.nsIn K mainGlobals "_law_block_of" = some (some (.ref f44))) (l44:K.lookup f44=some ⟨oc44,od44,.func (PySem.W.fnOf "_law_block_of" "_law_block_of" (qAr sBlk) (qAl sBlk) (qAb sBlk) .none kV44 dc44 pm44 an44 cd44 ct44),sl44⟩) (c44:PySem.W.codeIn K cd44 "_law_block_of" = true) (k44:PySem.W.keepIn K (.ref f44)=true)
  (a45:PySem.W.nsIn K mainGlobals "law" = some (some (.ref f45))) (l45:K.lookup f45=some ⟨oc45,od45,.func (PySem.W.fnOf "law" "law" (qAr sLaw) (qAl sLaw) (qAb sLaw) .none kV45 dc45 pm45 an45 cd45 ct45),sl45⟩) (c45:PySem.W.codeIn K cd45 "law" = true) (k45:PySem.W.keepIn K (.ref f45)=true)
  (z1:PySem.W.nsIn K mainGlobals "any" = some none)
  (z2:PySem.W.nsIn K mainGlobals "enumerate" = some none)
  (z3:PySem.W.nsIn K mainGlobals "int" = some none)
  (z4:PySem.W.nsIn K mainGlobals "isinstance" = some none)
  (z5:PySem.W.nsIn K mainGlobals "len" = some none)
  (z6:PySem.W.nsIn K mainGlobals "list" = some none)
  (z7:PySem.W.nsIn K mainGlobals "max" = some none)
  (z8:PySem.W.nsIn K mainGlobals "min" = some none)
  (z9:PySem.W.nsIn K mainGlobals "range" = some none)
  (z10:PySem.W.nsIn K mainGlobals "set" = some none)
  (z11:PySem.W.nsIn K mainGlobals "sorted" = some none)
  (z12:PySem.W.nsIn K mainGlobals "str" = some none)
  (z13:PySem.W.nsIn K mainGlobals "sum" = some none)
  : ∃ fd:FuncData,(∀ (s:Shared) (v:Value),BindsTo s fd ⟨[v],[]⟩ [("_law_script",v)])/\∀ base:Heap,K.In base->base.Ns mainGlobals mg->PySem.W.CodeHd base c T->base.BuiltinsAt mg T->FnOk l.prog w K mg base CX0 8 fa fd ["_law_script"] (spLaw K T):=by
 have e:=hfa.symm.trans (hAj X G a45);cases e;have F1:=qAv (st:=sMask) l1 c1 k1;have F2:=qAv (st:=qF5) l2 c2 k2;have F3:=qAv (st:=sLess) l3 c3 k3;have F4:=qAv (st:=sRedu) l4 c4 k4;have F5:=qAv (st:=sSums) l5 c5 k5;have F6:=qAv (st:=sLead) l6 c6 k6;have F7:=qAv (st:=sCrM) l7 c7 k7;have F8:=qAv (st:=sLack) l8 c8 k8;have F9:=qAv (st:=sTabF) l9 c9 k9;have F10:=qAv (st:=qF4) l10 c10 k10;have F11:=qAv (st:=qG4) l11 c11 k11;have F12:=qAv (st:=sLeft) l12 c12 k12;have F13:=qAv (st:=qCi) l13 c13 k13;have F14:=qAv (st:=qE8) l14 c14 k14;have F15:=qAv (st:=sRMas) l15 c15 k15;have F16:=qAv (st:=qDw) l16 c16 k16;have F17:=qAv (st:=qG1) l17 c17 k17;have F18:=qAv (st:=sIsQ) l18 c18 k18;have F19:=qAv (st:=qF6) l19 c19 k19;have F20:=qAv (st:=sCell) l20 c20 k20;have F21:=qAv (st:=qG2) l21 c21 k21;have F22:=qAv (st:=sTake) l22 c22 k22;have F23:=qAv (st:=qD8) l23 c23 k23;have F24:=qAv (st:=sLLd) l24 c24 k24;have F25:=qAv (st:=sLSt) l25 c25 k25;have F26:=qAv (st:=sSpa) l26 c26 k26;have F27:=qAv (st:=sLCr) l27 c27 k27;have F28:=qAv (st:=sBou) l28 c28 k28;have F29:=qAv (st:=sTies) l29 c29 k29;have F30:=qAv (st:=sStM) l30 c30 k30;have F31:=qAv (st:=sSma) l31 c31 k31;have F32:=qAv (st:=sMor) l32 c32 k32;have F33:=qAv (st:=sMix) l33 c33 k33;have F34:=qAv (st:=sHou) l34 c34 k34;have F35:=qAv (st:=sLRow) l35 c35 k35;have F36:=qAv (st:=sTab) l36 c36 k36;have F37:=qAv (st:=sLCop) l37 c37 k37;have F38:=qAv (st:=sGood) l38 c38 k38;have F39:=qAv (st:=sLLf) l39 c39 k39;have F40:=qAv (st:=sLHp) l40 c40 k40;have F41:=qAv (st:=sLLea) l41 c41 k41;have F42:=qAv (st:=sLIO) l42 c42 k42;have F43:=qAv (st:=sLQu) l43 c43 k43;have F44:=qAv (st:=sBlk) l44 c44 k44;have F45:=qAv (st:=sLaw) l45 c45 k45;have b1:=F1.binds (ps:=["names","row"]) fun _ _ _ _ _ _ us hl=>by obtain⟨_,_,rfl⟩:=qHd hl;rfl
 have m1:=hAj X G a1;have b2:=F2.binds (ps:=["names","mask"]) fun _ _ _ _ _ _ us hl=>by obtain⟨_,_,rfl⟩:=qHd hl;rfl
 have m2:=hAj X G a2;have b3:=F3.binds (ps:=["mask","kept"]) fun _ _ _ _ _ _ us hl=>by obtain⟨_,_,rfl⟩:=qHd hl;rfl
 have m3:=hAj X G a3;have b4:=F4.binds (ps:=["masks"]) fun _ _ _ _ _ _ us hl=>by obtain⟨_,rfl⟩:=len1 hl;rfl
 have m4:=hAj X G a4;have b5:=F5.binds (ps:=["masks"]) fun _ _ _ _ _ _ us hl=>by obtain⟨_,rfl⟩:=len1 hl;rfl
 have m5:=hAj X G a5;have b6:=F6.binds (ps:=["mask"]) fun _ _ _ _ _ _ us hl=>by obtain⟨_,rfl⟩:=len1 hl;rfl
 have m6:=hAj X G a6;have b7:=F7.binds (ps:=["steps","width"]) fun _ _ _ _ _ _ us hl=>by obtain⟨_,_,rfl⟩:=qHd hl;rfl
 have m7:=hAj X G a7;have b8:=F8.binds (ps:=["masks","bit"]) fun _ _ _ _ _ _ us hl=>by obtain⟨_,_,rfl⟩:=qHd hl;rfl
 have m8:=hAj X G a8;have b9:=F9.binds (ps:=["names","masks"]) fun _ _ _ _ _ _ us hl=>by obtain⟨_,_,rfl⟩:=qHd hl;rfl
 have m9:=hAj X G a9;have b10:=F10.binds (ps:=["table"]) fun _ _ _ _ _ _ us hl=>by obtain⟨_,rfl⟩:=len1 hl;rfl
 have m10:=hAj X G a10;have b11:=F11.binds (ps:=["table"]) fun _ _ _ _ _ _ us hl=>by obtain⟨_,rfl⟩:=len1 hl;rfl
 have m11:=hAj X G a11;have b12:=F12.binds (ps:=["table","taken","shrunk_ones"]) fun _ _ _ _ _ _ us hl=>by obtain⟨_,_,_,rfl⟩:=len3 hl;rfl
 have m12:=hAj X G a12;have b13:=F13.binds (ps:=["table"]) fun _ _ _ _ _ _ us hl=>by obtain⟨_,rfl⟩:=len1 hl;rfl
 have m13:=hAj X G a13;have b14:=F14.binds (ps:=["rows"]) fun _ _ _ _ _ _ us hl=>by obtain⟨_,rfl⟩:=len1 hl;rfl
 have m14:=hAj X G a14;have b15:=F15.binds (ps:=["steps"]) fun _ _ _ _ _ _ us hl=>by obtain⟨_,rfl⟩:=len1 hl;rfl
 have m15:=hAj X G a15;have b16:=F16.binds (ps:=["table"]) fun _ _ _ _ _ _ us hl=>by obtain⟨_,rfl⟩:=len1 hl;rfl
 have m16:=hAj X G a16;have b17:=F17.binds (ps:=["table"]) fun _ _ _ _ _ _ us hl=>by obtain⟨_,rfl⟩:=len1 hl;rfl
 have m17:=hAj X G a17;have b18:=F18.binds (ps:=["table","wall"]) fun _ _ _ _ _ _ us hl=>by obtain⟨_,_,rfl⟩:=qHd hl;rfl
 have m18:=hAj X G a18;have b19:=F19.binds (ps:=["table"]) fun _ _ _ _ _ _ us hl=>by obtain⟨_,rfl⟩:=len1 hl;rfl
 have m19:=hAj X G a19;have b20:=F20.binds (ps:=["_law_script","_law_k"]) fun _ _ _ _ _ _ us hl=>by obtain⟨_,_,rfl⟩:=qHd hl;rfl
 have m20:=hAj X G a20;have b21:=F21.binds (ps:=["_law_script","_law_at"]) fun _ _ _ _ _ _ us hl=>by obtain⟨_,_,rfl⟩:=qHd hl;rfl
 have m21:=hAj X G a21;have b22:=F22.binds (ps:=["_law_draw","_law_many"]) fun _ _ _ _ _ _ us hl=>by obtain⟨_,_,rfl⟩:=qHd hl;rfl
 have m22:=hAj X G a22;have b23:=F23.binds (ps:=["_law_draw","_law_many"]) fun _ _ _ _ _ _ us hl=>by obtain⟨_,_,rfl⟩:=qHd hl;rfl
 have m23:=hAj X G a23;have b24:=F24.binds (ps:=["_law_mask"]) fun _ _ _ _ _ _ us hl=>by obtain⟨_,rfl⟩:=len1 hl;rfl
 have m24:=hAj X G a24;have b25:=F25.binds (ps:=["_law_masks"]) fun _ _ _ _ _ _ us hl=>by obtain⟨_,rfl⟩:=len1 hl;rfl
 have m25:=hAj X G a25;have b26:=F26.binds (ps:=["_law_base"]) fun _ _ _ _ _ _ us hl=>by obtain⟨_,rfl⟩:=len1 hl;rfl
 have m26:=hAj X G a26;have b27:=F27.binds (ps:=["_law_base","_law_many"]) fun _ _ _ _ _ _ us hl=>by obtain⟨_,_,rfl⟩:=qHd hl;rfl
 have m27:=hAj X G a27;have b28:=F28.binds (ps:=["_law_masks","_law_many"]) fun _ _ _ _ _ _ us hl=>by obtain⟨_,_,rfl⟩:=qHd hl;rfl
 have m28:=hAj X G a28;have b29:=F29.binds (ps:=["_law_draw","_law_many"]) fun _ _ _ _ _ _ us hl=>by obtain⟨_,_,rfl⟩:=qHd hl;rfl
 have m29:=hAj X G a29;have b30:=F30.binds (ps:=["_law_ties_here"]) fun _ _ _ _ _ _ us hl=>by obtain⟨_,rfl⟩:=len1 hl;rfl
 have m30:=hAj X G a30;have b31:=F31.binds (ps:=["_law_draw"]) fun _ _ _ _ _ _ us hl=>by obtain⟨_,rfl⟩:=len1 hl;rfl
 have m31:=hAj X G a31;have b32:=F32.binds (ps:=["_law_draw","_law_many","_law_base"]) fun _ _ _ _ _ _ us hl=>by obtain⟨_,_,_,rfl⟩:=len3 hl;rfl
 have m32:=hAj X G a32;have b33:=F33.binds (ps:=["_law_draw","_law_many","_law_base"]) fun _ _ _ _ _ _ us hl=>by obtain⟨_,_,_,rfl⟩:=len3 hl;rfl
 have m33:=hAj X G a33;have b34:=F34.binds (ps:=["_law_draw","_law_most"]) fun _ _ _ _ _ _ us hl=>by obtain⟨_,_,rfl⟩:=qHd hl;rfl
 have m34:=hAj X G a34;have b35:=F35.binds (ps:=["_law_names_here","_law_mask"]) fun _ _ _ _ _ _ us hl=>by obtain⟨_,_,rfl⟩:=qHd hl;rfl
 have m35:=hAj X G a35;have b36:=F36.binds (ps:=["_law_draw","_law_many","_law_base"]) fun _ _ _ _ _ _ us hl=>by obtain⟨_,_,_,rfl⟩:=len3 hl;rfl
 have m36:=hAj X G a36;have b37:=F37.binds (ps:=["_law_table_here"]) fun _ _ _ _ _ _ us hl=>by obtain⟨_,rfl⟩:=len1 hl;rfl
 have m37:=hAj X G a37;have b38:=F38.binds (ps:=["_law_found","_law_due"]) fun _ _ _ _ _ _ us hl=>by obtain⟨_,_,rfl⟩:=qHd hl;rfl
 have m38:=hAj X G a38;have b39:=F39.binds (ps:=["_law_base","_law_gone","_law_shut"]) fun _ _ _ _ _ _ us hl=>by obtain⟨_,_,_,rfl⟩:=len3 hl;rfl
 have m39:=hAj X G a39;have b40:=F40.binds (ps:=["_law_base","_law_every"]) fun _ _ _ _ _ _ us hl=>by obtain⟨_,_,rfl⟩:=qHd hl;rfl
 have m40:=hAj X G a40;have b41:=F41.binds (ps:=["_law_masks"]) fun _ _ _ _ _ _ us hl=>by obtain⟨_,rfl⟩:=len1 hl;rfl
 have m41:=hAj X G a41;have b42:=F42.binds (ps:=["_law_names_here","_law_masks"]) fun _ _ _ _ _ _ us hl=>by obtain⟨_,_,rfl⟩:=qHd hl;rfl
 have m42:=hAj X G a42;have b43:=F43.binds (ps:=["_law_base","_law_many"]) fun _ _ _ _ _ _ us hl=>by obtain⟨_,_,rfl⟩:=qHd hl;rfl
 have m43:=hAj X G a43;have b44:=F44.binds (ps:=["_law_draw","_law_many","_law_base"]) fun _ _ _ _ _ _ us hl=>by obtain⟨_,_,_,rfl⟩:=len3 hl;rfl
 have m44:=hAj X G a44;have n_any:=hBk X G z1;have n_enumerate:=hBk X G z2;have n_int:=hBk X G z3;have n_isinstance:=hBk X G z4;have n_len:=hBk X G z5;have n_list:=hBk X G z6;have n_max:=hBk X G z7;have n_min:=hBk X G z8;have n_range:=hBk X G z9;have n_set:=hBk X G z10;have n_sorted:=hBk X G z11;have n_str:=hBk X G z12;have n_sum:=hBk X G z13;refine⟨PySem.W.fnOf "law" "law" (qAr sLaw) (qAl sLaw) (qAb sLaw) .none kV45 dc45 pm45 an45 cd45 ct45,fun s v=>.of_eq rfl,fun base _ _ hC hB=>?_⟩;have g1:=ok_mask (P:=l.prog) (w:=w) (mg:=mg) (base:=base) F1;have g2:=ok_rowOf (P:=l.prog) (w:=w) (base:=base) F2  n_len n_enumerate;have g3:=ok_less (P:=l.prog) (w:=w) (base:=base) F3  n_min;have g4:=ok_redu (P:=l.prog) (w:=w) (base:=base) F4 ⟨g3,b3,k3,m3⟩ n_min n_sorted;have g5:=ok_sums (P:=l.prog) (w:=w) (mg:=mg) (base:=base) F5;have g6:=ok_lead (P:=l.prog) (w:=w) (mg:=mg) (base:=base) F6;have g7:=ok_crM (P:=l.prog) (w:=w) (base:=base) F7 ⟨g6,b6,k6,m6⟩ n_sum n_range;have g8:=ok_lack (P:=l.prog) (w:=w) (mg:=mg) (base:=base) F8;have g9:=ok_tabF (P:=l.prog) (w:=w) (base:=base) F9 ⟨g2,b2,k2,m2⟩ ⟨g4,b4,k4,m4⟩ n_list;have g10:=ok_stepM (P:=l.prog) (w:=w) (base:=base) F10 ⟨g1,b1,k1,m1⟩ ⟨g4,b4,k4,m4⟩;have g11:=ok_cross (P:=l.prog) (w:=w) (base:=base) F11 ⟨g9,b9,k9,m9⟩ ⟨g7,b7,k7,m7⟩ ⟨g10,b10,k10,m10⟩ n_len;have g12:=ok_left (P:=l.prog) (w:=w) (base:=base) F12 ⟨g10,b10,k10,m10⟩ ⟨g8,b8,k8,m8⟩ ⟨g1,b1,k1,m1⟩ ⟨g2,b2,k2,m2⟩ ⟨g9,b9,k9,m9⟩;have g13:=ok_blo (P:=l.prog) (w:=w) (base:=base) F13 ⟨g10,b10,k10,m10⟩ ⟨g2,b2,k2,m2⟩ n_range n_len n_sum n_sorted;have g14:=ok_inOrd (P:=l.prog) (w:=w) (base:=base) F14 (code_of F14 a14 ht) hC hB  n_len n_sorted;have g15:=ok_rmas (P:=l.prog) (w:=w) (base:=base) F15 ⟨g5,b5,k5,m5⟩ n_sorted n_any;have g16:=ok_rounds (P:=l.prog) (w:=w) (base:=base) F16 ⟨g14,b14,k14,m14⟩ ⟨g15,b15,k15,m15⟩ ⟨g10,b10,k10,m10⟩ ⟨g2,b2,k2,m2⟩;have g17:=ok_walls (P:=l.prog) (w:=w) (base:=base) F17 ⟨g16,b16,k16,m16⟩ ⟨g11,b11,k11,m11⟩;have g18:=ok_isq (P:=l.prog) (w:=w) (base:=base) F18 ⟨g12,b12,k12,m12⟩ ⟨g13,b13,k13,m13⟩ n_len;have g19:=ok_quo (P:=l.prog) (w:=w) (base:=base) F19 ⟨g17,b17,k17,m17⟩ ⟨g18,b18,k18,m18⟩;have g20:=ok_cell (P:=l.prog) (w:=w) (base:=base) F20  n_len;have g21:=ok_purse (P:=l.prog) (w:=w) (base:=base) F21 ⟨g20,b20,k20,m20⟩ n_range;have g22:=ok_take (P:=l.prog) (w:=w) (mg:=mg) (base:=base) F22;have g23:=ok_names (P:=l.prog) (w:=w) (base:=base) F23 ⟨g22,b22,k22,m22⟩ n_range n_min n_sorted;have g24:=ok_ld (P:=l.prog) (w:=w) (mg:=mg) (base:=base) F24;have g25:=ok_lst (P:=l.prog) (w:=w) (base:=base) F25 ⟨g24,b24,k24,m24⟩ n_int n_sorted;have g26:=ok_spa (P:=l.prog) (w:=w) (mg:=mg) (base:=base) F26;have g27:=ok_lcr (P:=l.prog) (w:=w) (base:=base) F27 ⟨g24,b24,k24,m24⟩ ⟨g25,b25,k25,m25⟩ n_range;have g28:=ok_bou (P:=l.prog) (w:=w) (base:=base) F28 ⟨g25,b25,k25,m25⟩ n_range n_len;have g29:=ok_ti (P:=l.prog) (w:=w) (base:=base) F29 ⟨g22,b22,k22,m22⟩ n_range n_len n_set n_min n_max n_int;have g30:=ok_stM (P:=l.prog) (w:=w) (base:=base) F30  n_enumerate;have g31:=ok_sma (P:=l.prog) (w:=w) (base:=base) F31 ⟨g22,b22,k22,m22⟩ ⟨g25,b25,k25,m25⟩ ⟨g27,b27,k27,m27⟩ ⟨g30,b30,k30,m30⟩ n_range n_len;have g32:=ok_mor (P:=l.prog) (w:=w) (base:=base) F32 ⟨g22,b22,k22,m22⟩ ⟨g25,b25,k25,m25⟩ n_max n_int;have g33:=ok_mix (P:=l.prog) (w:=w) (base:=base) F33 ⟨g22,b22,k22,m22⟩ ⟨g25,b25,k25,m25⟩ n_range n_list n_len;have g34:=ok_hou (P:=l.prog) (w:=w) (base:=base) F34 ⟨g22,b22,k22,m22⟩ ⟨g25,b25,k25,m25⟩ ⟨g27,b27,k27,m27⟩ ⟨g30,b30,k30,m30⟩ ⟨g28,b28,k28,m28⟩ ⟨g29,b29,k29,m29⟩ ⟨g31,b31,k31,m31⟩ ⟨g32,b32,k32,m32⟩ ⟨g33,b33,k33,m33⟩ n_range n_len n_min;have g35:=ok_lrw (P:=l.prog) (w:=w) (base:=base) F35  n_len n_range;have g36:=ok_tab (P:=l.prog) (w:=w) (base:=base) F36 ⟨g22,b22,k22,m22⟩ ⟨g23,b23,k23,m23⟩ ⟨g35,b35,k35,m35⟩ n_range n_len n_list n_int;have g37:=ok_lcop (P:=l.prog) (w:=w) (base:=base) F37  n_list;have g38:=ok_goo (P:=l.prog) (w:=w) (base:=base) F38  n_isinstance n_list n_str;have g39:=ok_llf (P:=l.prog) (w:=w) (base:=base) F39 ⟨g26,b26,k26,m26⟩ ⟨g25,b25,k25,m25⟩;have g40:=ok_lhp (P:=l.prog) (w:=w) (base:=base) F40  n_range;have g41:=ok_llea (P:=l.prog) (w:=w) (mg:=mg) (base:=base) F41;have g42:=ok_lio (P:=l.prog) (w:=w) (base:=base) F42 ⟨g35,b35,k35,m35⟩ n_len n_sorted;have g43:=ok_lqu (P:=l.prog) (w:=w) (base:=base) F43 ⟨g41,b41,k41,m41⟩ ⟨g26,b26,k26,m26⟩ ⟨g27,b27,k27,m27⟩ ⟨g40,b40,k40,m40⟩ ⟨g39,b39,k39,m39⟩ n_len;have g44:=ok_blk (P:=l.prog) (w:=w) (base:=base) F44 ⟨g40,b40,k40,m40⟩ ⟨g35,b35,k35,m35⟩ ⟨g22,b22,k22,m22⟩ ⟨g25,b25,k25,m25⟩ n_len n_range n_list n_max n_sum;exact ok_law F45 ⟨g21,b21,k21,m21⟩ ⟨g34,b34,k34,m34⟩ ⟨g36,b36,k36,m36⟩ ⟨g42,b42,k42,m42⟩ ⟨g37,b37,k37,m37⟩ ⟨g19,b19,k19,m19⟩ ⟨g38,b38,k38,m38⟩ ⟨g44,b44,k44,m44⟩ ⟨g22,b22,k22,m22⟩ ⟨g43,b43,k43,m43⟩ n_range n_int
theorem walk {l:PySem.W.OpenLaw} {q:Program} {loose:List Str} {XP:(Str->Option Value)->Heap->Prop} {YP:World->Heap->Prop} {d dr:DefRec} {K:Params->PySem.W.Frag} (hn:l.most=some 63) (hdf:d.params.defaults=[])
  (hY:∀ (w:World) (h:Heap),YP w h->(K w.params).In h) (hrec:(PyProof.Rows.recsOf q).find? (fun e=>e.name == ("in_order" : Str))=some dr)
  (hK:∀ w:World,∃ c T,PySem.W.tabIn (K w.params) "in_order" = some (c,T)/\PySem.W.noTabs (K w.params)=true)
  (F:∀ (w:World) (mg:Str->Option Value) (fa:Addr) (h:Heap) (c T:Addr),(K w.params).In h->h.Ns mainGlobals mg->mg d.name=some (.ref fa)->PySem.W.tabIn (K w.params) "in_order" = some (c,T) ->
   ∃ fd:FuncData,(∀ (s:Shared) (u:Value),BindsTo s fd ⟨[u],[]⟩ [("_law_script",u)])/\∀ base:Heap,(K w.params).In base->base.Ns mainGlobals mg->PySem.W.CodeHd base c T->base.BuiltinsAt mg T->FnOk l.prog w (K w.params) mg base CX0 8 fa fd ["_law_script"] (spLaw (K w.params) T)) :
  PySem.W.WalkO q loose XP YP l.row.toRowW d [] (fun f vs=>PySem.call f vs) :=
 L2.walk_ofT (n:=63) (k:=8) (x:="_law_script") (CX:=fun _=>CX0) (sp:=fun w T=>spLaw (K w.params) T) hn (by decide) hdf ⟨rfl,by decide,by decide,rfl⟩ hY hrec hK F (fun _ _ _ a ns hl hT hS=>⟨a,ns,rfl,hS,hl,hT,fun _=>rfl⟩) fun _ _ _ _ _ z=>z
theorem tab_mk {K:PySem.W.Frag} {x:Str} {f c T:Addr} {ob ob2:Obj} {fd:FuncData} {vs:Array Value} (a:PySem.W.nsIn K mainGlobals x=some (some (.ref f))) (l:K.lookup f=some ob) (e1:ob.data = .func fd) (e2:fd.code = .ref c) (l2:K.lookup c=some ob2) (e3:ob2.data = .fields vs) (e4:(vs[11]?:Option Value)=some (.ref T)):PySem.W.tabIn K x=some (c,T):=by
 obtain⟨o1,o2,o3,o4⟩:=ob;obtain⟨p1,p2,p3,p4⟩:=ob2;cases e1;cases e3;unfold PySem.W.tabIn;rw[a];dsimp only;rw[l];dsimp only;rw[e2];dsimp only;rw[l2];dsimp only;rw[e4]
end My
namespace PySem.W.Fast
def tw1006633947982122318 := 0
def tw10142045496018189105 := 0
def tw1018377232467462434 := 0
def tw1026759678485535942 := 0
def tw10305473274856321720 := 0
noncomputable def tw10404285299689912386 := 0
def tw10535236367680989272 := 0
def tw1061947738435033131 := 0
def tw10635165688629048684 := 0
def tw10663688271056774454 := 0
noncomputable def tw10762275822524971337 := 0
def tw10770311953582638572 := 0
def tw10852093383588654289 := 0
def tw10864528638056066962 := 0
def tw10897716364067385144 := 0
def tw10914898065224424904 := 0
def tw1092698387765047633 := 0
noncomputable def tw10946775857809056596 := 0
def tw11047544322147825631 := 0
def tw11065392966885047928 := 0
def tw11105471100907412325 := 0
def tw11147896294566805121 := 0
def tw11217331506317593965 := 0
def tw11233955613127084386 := 0
def tw11242152933049059633 := 0
def tw11295317646072440881 := 0
def tw11325766300172044218 := 0
def tw11419509446867178899 := 0
def tw11492468899884217711 := 0
def tw11500101094778827323 := 0
def tw11512844786730036521 := 0
def tw11520046528345326529 := 0
def tw1152948261081563203 := 0
noncomputable def tw11556262336716307873 := 0
noncomputable def tw11577236496208575158 := 0
noncomputable def tw11649776117760823686 := 0
def tw11762829771754566171 := 0
def tw11810327128912248551 := 0
def tw11834255643020154544 := 0
def tw11921738511527469673 := 0
def tw11995253947664933760 := 0
def tw12025188038869070254 := 0
def tw12082535697359670862 := 0
def tw1209341405108711726 := 0
def tw12194416756312994006 := 0
def tw1228478152400003157 := 0
def tw12324629058821066624 := 0
def tw12338811816801394483 := 0
noncomputable def tw12389186712273481847 := 0
noncomputable def tw12400335770403934397 := 0
def tw12408142792182747002 := 0
def tw1250190276110001924 := 0
noncomputable def tw12574634948071824073 := 0
noncomputable def tw12649193161121620015 := 0
def tw12716341299156173093 := 0
def tw12735987481354503799 := 0
def tw12738945197531616695 := 0
def tw12817742413475973299 := 0
noncomputable def tw12861709790648340672 := 0
def tw1288619714830625416 := 0
def tw12919849050795196032 := 0
def tw1301763139465365653 := 0
def tw13086771859528710387 := 0
def tw1313879091461906213 := 0
noncomputable def tw13202748758810998952 := 0
noncomputable def tw13220547391914694821 := 0
def tw13333588554095540087 := 0
def tw13431217805532474964 := 0
noncomputable def tw13438814583150214792 := 0
def tw13459971183317902687 := 0
def tw1359092575423240510 := 0
def tw13598552146730021283 := 0
def tw13605429166621027975 := 0
def tw13686835477947851006 := 0
def tw13714795180911495578 := 0
def tw1375545974323305587 := 0
def tw13819760398488467777 := 0
noncomputable def tw13835857620491838725 := 0
def tw13871165774167879545 := 0
def tw13872364025763360495 := 0
def tw13899577176054580785 := 0
def tw13963454471761837675 := 0
def tw13985425260808054761 := 0
noncomputable def tw14050833593124817816 := 0
def tw14058369468776788057 := 0
def tw14137147215438522999 := 0
def tw1414829870488853211 := 0
def tw14163010860103151220 := 0
def tw14179863558830994456 := 0
def tw14196412437492145079 := 0
def tw1421812054974582776 := 0
noncomputable def tw14284668200178221270 := 0
def tw1433421418645186088 := 0
def tw14356649573936450052 := 0
def tw14383793814363548752 := 0
def tw14458716107739920201 := 0
def tw1455424852407409511 := 0
def tw14652999699458801068 := 0
def tw14695588334942914932 := 0
noncomputable def tw14703328548911109850 := 0
def tw14719084206220783453 := 0
def tw14752267277633179129 := 0
def tw14757187370981848782 := 0
def tw14869902300304619704 := 0
def tw1488079824950268842 := 0
def tw14947893861105640339 := 0
noncomputable def tw15002525874655393501 := 0
def tw15014093657998298518 := 0
noncomputable def tw15105482985914686455 := 0
def tw15136304192841555458 := 0
def tw15142461406433004251 := 0
def tw1524800270711991849 := 0
def tw15253949646522282521 := 0
def tw15365442206096584518 := 0
def tw15438497385199219317 := 0
def tw15545673043357206634 := 0
noncomputable def tw15601621512062032429 := 0
def tw15674132037305330102 := 0
noncomputable def tw15711817082873006643 := 0
noncomputable def tw15713271663758255089 := 0
def tw15778100809517365370 := 0
def tw15958071095566142626 := 0
noncomputable def tw15996483116698982112 := 0
def tw16191553465342314293 := 0
def tw16249262878865721140 := 0
def tw16287465335733044227 := 0
def tw16435736495922454177 := 0
def tw16455485588237110190 := 0
def tw1648367885747260083 := 0
def tw16783471562634930442 := 0
def tw16873934288957053045 := 0
def tw16970912872427712819 := 0
def tw1705110856224173484 := 0
def tw17082215624398796126 := 0
def tw17112212937968523279 := 0
noncomputable def tw17121746623394808752 := 0
def tw17225499071655437593 := 0
def tw17250087470981814222 := 0
noncomputable def tw17286810274021599925 := 0
def tw17308607358781405729 := 0
def tw17308925818177887724 := 0
def tw17409531325904308941 := 0
def tw17418648235779767077 := 0
def tw17492315227089307892 := 0
def tw17564284665399283423 := 0
noncomputable def tw17598896189444532138 := 0
noncomputable def tw17633955730656466055 := 0
def tw17637705645884624546 := 0
def tw17639319125384633728 := 0
def tw17661124337645201041 := 0
def tw17733562989016777228 := 0
def tw17740894869112046864 := 0
def tw17763672331691673738 := 0
noncomputable def tw17770474522099274575 := 0
def tw1779338722381559037 := 0
def tw17809018777982589253 := 0
def tw179047732975907676 := 0
noncomputable def tw17996962808550448469 := 0
def tw18075402627644567275 := 0
def tw18125524190187470451 := 0
noncomputable def tw18195875036441867880 := 0
def tw18266415325915296213 := 0
def tw18426052285743777483 := 0
def tw1855075019554994784 := 0
def tw185973442073693854 := 0
def tw1900068589471547031 := 0
def tw1913940426798369888 := 0
def tw1926971089489940296 := 0
def tw2008179228852560980 := 0
def tw201483075518584114 := 0
def tw2041761830661230584 := 0
def tw2108284396383669361 := 0
def tw2259309772889103835 := 0
def tw2266909377699418111 := 0
def tw2274541195479744861 := 0
def tw260178628554626813 := 0
def tw2685568693730944913 := 0
def tw2687731145861925241 := 0
def tw2946308332428651602 := 0
def tw3065136613657277300 := 0
def tw3282981019858732538 := 0
def tw3353552617868355529 := 0
def tw3368366954313983745 := 0
def tw3429262369009116113 := 0
def tw3594078338448972545 := 0
def tw3613845679088585761 := 0
def tw3613900534318568115 := 0
def tw36692534973457504 := 0
def tw3725409889556847982 := 0
def tw3764244992825996058 := 0
def tw3775094597812313928 := 0
def tw3907448502481729818 := 0
def tw3950088750379227739 := 0
def tw4003917778584414490 := 0
def tw4040808559444159200 := 0
def tw4098170772417816408 := 0
def tw4180760233604916891 := 0
def tw4228442478227574325 := 0
def tw4312667046947356222 := 0
def tw4325687156676607521 := 0
def tw4331189710537633123 := 0
def tw4412490925355589054 := 0
def tw4414983600572481556 := 0
def tw444540070458755750 := 0
def tw4459296014850372182 := 0
def tw4483155307414182121 := 0
def tw4568855930589619631 := 0
def tw4603552586045627987 := 0
def tw4677621001347199526 := 0
def tw4700144430401017955 := 0
def tw4787780698866252640 := 0
def tw4818115242709788910 := 0
def tw4824514207450869486 := 0
def tw4839454464659797479 := 0
def tw4959717903064166163 := 0
def tw4999445129934932654 := 0
def tw5024396741064493101 := 0
def tw5043182304571937666 := 0
def tw5083018614054232942 := 0
def tw5172888661935239218 := 0
def tw5181489097793079177 := 0
def tw527018921945813524 := 0
def tw5286567357800955077 := 0
def tw5288147100882694415 := 0
def tw5340926069039263936 := 0
def tw5381319727844428444 := 0
def tw5384887383030694257 := 0
def tw5390769765048375584 := 0
def tw5430644772946851045 := 0
def tw5435579545038249219 := 0
def tw5480435258575097555 := 0
def tw5494814662307148649 := 0
def tw5539304767357772798 := 0
def tw5555793135914513352 := 0
def tw5570451913484885764 := 0
def tw5634302328602265664 := 0
def tw5643982574300773970 := 0
def tw570238900461799490 := 0
def tw5711881470014635326 := 0
def tw5854957811078233831 := 0
def tw5874854431077782316 := 0
def tw5884189052718264659 := 0
def tw614443367044883880 := 0
def tw6212762267932160960 := 0
def tw6423762446066645711 := 0
def tw6523295147572446032 := 0
def tw6628638941982009204 := 0
def tw6638242810828484694 := 0
def tw6672131334660254580 := 0
def tw6698206564659872801 := 0
def tw6711636515141422434 := 0
def tw6727987736497917143 := 0
def tw6740419737642967236 := 0
def tw6793738389333858780 := 0
def tw6923929912879351360 := 0
def tw7013786380905307579 := 0
def tw7043311428517163779 := 0
def tw7130402247650808932 := 0
def tw724706967104728498 := 0
def tw7315194928065024885 := 0
def tw7338704010091876607 := 0
def tw742217450423012379 := 0
def tw7449725628814071735 := 0
def tw745087944312248361 := 0
def tw7573549316527065298 := 0
def tw7664783459609801611 := 0
def tw7701512321278346701 := 0
def tw7760074097805044674 := 0
def tw8045059196702658545 := 0
def tw8109703902367601093 := 0
def tw8215771622953963590 := 0
def tw8265460466357569408 := 0
def tw8302166211687103266 := 0
def tw8389487777245682898 := 0
def tw8427918555383245874 := 0
def tw8457169212533241589 := 0
def tw8458259060272956573 := 0
def tw8563101355637422205 := 0
def tw8696802025259235566 := 0
def tw8723782374717710957 := 0
def tw8733068756074430558 := 0
def tw8777658455136752569 := 0
def tw8843451034799109609 := 0
def tw8976513729405832960 := 0
def tw916556195459183318 := 0
def tw9168792819158632288 := 0
def tw9233701787387441057 := 0
def tw9258141472459568223 := 0
def tw9279281520631877678 := 0
def tw9324307199478819508 := 0
def tw9415099260763537902 := 0
def tw9566242773904920357 := 0
def tw9580877130821006105 := 0
def tw9681057714275640315 := 0
def tw9690378635721208514 := 0
def tw9739431818133470256 := 0
def tw9802358808949995013 := 0
def tw9857195078880899317 := 0
def tw9882725688711853821 := 0
def tw2548530743873913104 := 0
end PySem.W.Fast
open PySem PySem.W PyProof.Rows
set_option maxRecDepth 100000 in
set_option maxHeartbeats 0 in
theorem PySem.Challenge.cw_roundsalone_k49_quiet_ones_holds : PySem.Challenge.rw_roundsalone_k49_quiet_ones.Holds := by
 w_on;o_law;k_head;(case hw=>w_witness2)
 k_fill
 refine' My.walk (l:=PySem.Challenge.rw_roundsalone_k49_quiet_ones) rfl rfl (fun w h Y=>PySem.W.km_in_of Y) ?hr ?Kt ?F
 case hr=>rfl
 case Kt =>
  intro w
  refine'⟨_,_,My.tab_mk ?a ?l ?e1 ?e2 ?l2 ?e3 ?e4,?n⟩
  (case a=>k_is)
  (case l=>k_is)
  (case e1=>rfl)
  (case e2=>rfl)
  (case l2=>k_is)
  (case e3=>rfl)
  (case e4=>rfl)
  (case n=>kernel_rfl)
 case F =>
  intro w mg fa h c T KX G hmg ht
  refine' My.all_mk KX G hmg ht ?a1 ?l1 ?c1 ?k1 ?a2 ?l2 ?c2 ?k2 ?a3 ?l3 ?c3 ?k3 ?a4 ?l4 ?c4 ?k4 ?a5 ?l5 ?c5 ?k5 ?a6 ?l6 ?c6 ?k6 ?a7 ?l7 ?c7 ?k7 ?a8 ?l8 ?c8 ?k8 ?a9 ?l9 ?c9 ?k9 ?a10 ?l10 ?c10 ?k10 ?a11 ?l11 ?c11 ?k11 ?a12 ?l12 ?c12 ?k12 ?a13 ?l13 ?c13 ?k13 ?a14 ?l14 ?c14 ?k14 ?a15 ?l15 ?c15 ?k15 ?a16 ?l16 ?c16 ?k16 ?a17 ?l17 ?c17 ?k17 ?a18 ?l18 ?c18 ?k18 ?a19 ?l19 ?c19 ?k19 ?a20 ?l20 ?c20 ?k20 ?a21 ?l21 ?c21 ?k21 ?a22 ?l22 ?c22 ?k22 ?a23 ?l23 ?c23 ?k23 ?a24 ?l24 ?c24 ?k24 ?a25 ?l25 ?c25 ?k25 ?a26 ?l26 ?c26 ?k26 ?a27 ?l27 ?c27 ?k27 ?a28 ?l28 ?c28 ?k28 ?a29 ?l29 ?c29 ?k29 ?a30 ?l30 ?c30 ?k30 ?a31 ?l31 ?c31 ?k31 ?a32 ?l32 ?c32 ?k32 ?a33 ?l33 ?c33 ?k33 ?a34 ?l34 ?c34 ?k34 ?a35 ?l35 ?c35 ?k35 ?a36 ?l36 ?c36 ?k36 ?a37 ?l37 ?c37 ?k37 ?a38 ?l38 ?c38 ?k38 ?a39 ?l39 ?c39 ?k39 ?a40 ?l40 ?c40 ?k40 ?a41 ?l41 ?c41 ?k41 ?a42 ?l42 ?c42 ?k42 ?a43 ?l43 ?c43 ?k43 ?a44 ?l44 ?c44 ?k44 ?a45 ?l45 ?c45 ?k45 ?z1 ?z2 ?z3 ?z4 ?z5 ?z6 ?z7 ?z8 ?z9 ?z10 ?z11 ?z12 ?z13
  (case a1=>k_is)
  (case l1=>k_is)
  (case c1=>k_is)
  (case k1=>k_is)
  (case a2=>k_is)
  (case l2=>k_is)
  (case c2=>k_is)
  (case k2=>k_is)
  (case a3=>k_is)
  (case l3=>k_is)
  (case c3=>k_is)
  (case k3=>k_is)
  (case a4=>k_is)
  (case l4=>k_is)
  (case c4=>k_is)
  (case k4=>k_is)
  (case a5=>k_is)
  (case l5=>k_is)
  (case c5=>k_is)
  (case k5=>k_is)
  (case a6=>k_is)
  (case l6=>k_is)
  (case c6=>k_is)
  (case k6=>k_is)
  (case a7=>k_is)
  (case l7=>k_is)
  (case c7=>k_is)
  (case k7=>k_is)
  (case a8=>k_is)
  (case l8=>k_is)
  (case c8=>k_is)
  (case k8=>k_is)
  (case a9=>k_is)
  (case l9=>k_is)
  (case c9=>k_is)
  (case k9=>k_is)
  (case a10=>k_is)
  (case l10=>k_is)
  (case c10=>k_is)
  (case k10=>k_is)
  (case a11=>k_is)
  (case l11=>k_is)
  (case c11=>k_is)
  (case k11=>k_is)
  (case a12=>k_is)
  (case l12=>k_is)
  (case c12=>k_is)
  (case k12=>k_is)
  (case a13=>k_is)
  (case l13=>k_is)
  (case c13=>k_is)
  (case k13=>k_is)
  (case a14=>k_is)
  (case l14=>k_is)
  (case c14=>k_is)
  (case k14=>k_is)
  (case a15=>k_is)
  (case l15=>k_is)
  (case c15=>k_is)
  (case k15=>k_is)
  (case a16=>k_is)
  (case l16=>k_is)
  (case c16=>k_is)
  (case k16=>k_is)
  (case a17=>k_is)
  (case l17=>k_is)
  (case c17=>k_is)
  (case k17=>k_is)
  (case a18=>k_is)
  (case l18=>k_is)
  (case c18=>k_is)
  (case k18=>k_is)
  (case a19=>k_is)
  (case l19=>k_is)
  (case c19=>k_is)
  (case k19=>k_is)
  (case a20=>k_is)
  (case l20=>k_is)
  (case c20=>k_is)
  (case k20=>k_is)
  (case a21=>k_is)
  (case l21=>k_is)
  (case c21=>k_is)
  (case k21=>k_is)
  (case a22=>k_is)
  (case l22=>k_is)
  (case c22=>k_is)
  (case k22=>k_is)
  (case a23=>k_is)
  (case l23=>k_is)
  (case c23=>k_is)
  (case k23=>k_is)
  (case a24=>k_is)
  (case l24=>k_is)
  (case c24=>k_is)
  (case k24=>k_is)
  (case a25=>k_is)
  (case l25=>k_is)
  (case c25=>k_is)
  (case k25=>k_is)
  (case a26=>k_is)
  (case l26=>k_is)
  (case c26=>k_is)
  (case k26=>k_is)
  (case a27=>k_is)
  (case l27=>k_is)
  (case c27=>k_is)
  (case k27=>k_is)
  (case a28=>k_is)
  (case l28=>k_is)
  (case c28=>k_is)
  (case k28=>k_is)
  (case a29=>k_is)
  (case l29=>k_is)
  (case c29=>k_is)
  (case k29=>k_is)
  (case a30=>k_is)
  (case l30=>k_is)
  (case c30=>k_is)
  (case k30=>k_is)
  (case a31=>k_is)
  (case l31=>k_is)
  (case c31=>k_is)
  (case k31=>k_is)
  (case a32=>k_is)
  (case l32=>k_is)
  (case c32=>k_is)
  (case k32=>k_is)
  (case a33=>k_is)
  (case l33=>k_is)
  (case c33=>k_is)
  (case k33=>k_is)
  (case a34=>k_is)
  (case l34=>k_is)
  (case c34=>k_is)
  (case k34=>k_is)
  (case a35=>k_is)
  (case l35=>k_is)
  (case c35=>k_is)
  (case k35=>k_is)
  (case a36=>k_is)
  (case l36=>k_is)
  (case c36=>k_is)
  (case k36=>k_is)
  (case a37=>k_is)
  (case l37=>k_is)
  (case c37=>k_is)
  (case k37=>k_is)
  (case a38=>k_is)
  (case l38=>k_is)
  (case c38=>k_is)
  (case k38=>k_is)
  (case a39=>k_is)
  (case l39=>k_is)
  (case c39=>k_is)
  (case k39=>k_is)
  (case a40=>k_is)
  (case l40=>k_is)
  (case c40=>k_is)
  (case k40=>k_is)
  (case a41=>k_is)
  (case l41=>k_is)
  (case c41=>k_is)
  (case k41=>k_is)
  (case a42=>k_is)
  (case l42=>k_is)
  (case c42=>k_is)
  (case k42=>k_is)
  (case a43=>k_is)
  (case l43=>k_is)
  (case c43=>k_is)
  (case k43=>k_is)
  (case a44=>k_is)
  (case l44=>k_is)
  (case c44=>k_is)
  (case k44=>k_is)
  (case a45=>k_is)
  (case l45=>k_is)
  (case c45=>k_is)
  (case k45=>k_is)
  (case z1=>k_is)
  (case z2=>k_is)
  (case z3=>k_is)
  (case z4=>k_is)
  (case z5=>k_is)
  (case z6=>k_is)
  (case z7=>k_is)
  (case z8=>k_is)
  (case z9=>k_is)
  (case z10=>k_is)
  (case z11=>k_is)
  (case z12=>k_is)
  (case z13=>k_is)
#print axioms PySem.Challenge.cw_roundsalone_k49_quiet_ones_holds
