import PyProof.Rows.All
import Wide.All
import OpenK.AllK
import Wide.FinOn
import Lean
import PyProof.EqAt
import PyProof.EqKinds
import PyProof.TupleCall
import KE.KSortKey
import KE.KLam
import KE.KRevIter
import PyProof.FactsAll.range_2
import PyProof.ReprBulk
import PyProof.FString5
import PyProof.Rows.MinMaxN
import PyProof.P3In
import KE.KSortTup
import PySem.Challenge.RW_roundsalone_k31_shares
noncomputable section
set_option Elab.async false
set_option linter.all false
set_option maxHeartbeats 16000000
set_option maxRecDepth 100000
abbrev hA1:=@List.length_map
abbrev hA2:=@List.getElem?_eq_getElem
abbrev hA3:=@List.map_append
abbrev hA4:=@List.mem_cons_of_mem
abbrev hA5:=@List.take_of_length_le
abbrev hA6:=@List.mem_cons_self
abbrev hA7:=@List.getD_eq_getElem?_getD
abbrev hA8:=@List.mem_append_right
abbrev hA9:=@List.mem_singleton
abbrev hAa:=@Nat.le_refl
abbrev hAb:=@List.mem_map
abbrev hAc:=@List.length_append
abbrev hAd:=@List.mem_append
abbrev hAe:=@List.mem_append_left
abbrev hAf:=@List.size_toArray
abbrev hAg:=@List.mem_cons
abbrev hAh:=@List.mem_of_getElem?
abbrev hAi:=@List.getElem?_map
abbrev hAj:=@List.mem_filter
abbrev hAk:=@List.length_take
abbrev hAl:=@Nat.eq_of_testBit_eq
abbrev hAm:=@List.getElem?_eq_some_iff
abbrev hAn:=@Nat.lt_of_lt_of_le
abbrev hAo:=@Nat.testBit_xor
abbrev hAp:=@Nat.zero_le
abbrev hAq:=@Option.some.inj
abbrev hAr:=@List.pairwise_cons
abbrev hAs:=@List.length_filter_le
abbrev hAt:=@PySem.boot_len
abbrev hAu:=@Nat.ne_of_lt
abbrev hAv:=@Nat.testBit_and
abbrev hAw:=@Nat.le_trans
abbrev hAx:=@PySem.F.plainAttrs_list
abbrev hAy:=@List.mem_range
abbrev hAz:=@Bool.false_ne_true
abbrev hB0:=@List.length_range
abbrev hB1:=@Nat.testBit_zero
abbrev hB3:=@List.mem_map_of_mem
abbrev hB4:=@Nat.testBit_two_pow
abbrev hB5:=@Nat.le_of_lt
abbrev hB6:=@List.map_map
abbrev hB7:=@List.getElem?_eq_none
abbrev hB8:=@Int.toNat_natCast
abbrev hB9:=@Int.emod_lt_of_pos
abbrev hBb:=@List.pairwise_map
abbrev hBc:=@List.pairwise_append
abbrev hBd:=@PySem.W.mg_none_of
abbrev hBe:=@List.nodup_cons
abbrev hBf:=@Nat.pow_le_pow_right
abbrev hBg:=@Array.perm_iff_toList_perm
abbrev hBh:=@Array.getElem?_toList
abbrev hBi:=@Int.emod_nonneg
abbrev hBj:=@List.map_cons
abbrev hBk:=@Nat.le_succ
abbrev hBl:=@Nat.zero_testBit
abbrev hBm:=@List.foldl_append
abbrev hBn:=@PySem.F.slot_list_append
abbrev hBo:=@PySem.F.type_list_append
abbrev hBp:=@List.Pairwise.imp_of_mem
abbrev hBq:=@List.perm_ext_iff_of_nodup
abbrev hBr:=@List.filterMap_cons
abbrev hBs:=@List.map_congr_left
abbrev hBt:=@Nat.testBit_log2
abbrev hBu:=@Nat.xor_assoc
abbrev hBv:=@Nat.lt_succ_of_lt
abbrev hBw:=@List.pairwise_singleton
abbrev hBx:=@Nat.lt_pow_two_of_testBit
abbrev hBy:=@Array.length_toList
abbrev hBz:=@Nat.testBit_two_pow_sub_one
abbrev hC0:=@List.length_filterMap_le
abbrev hC1:=@Nat.xor_self
abbrev hC3:=@Nat.mod_two_eq_zero_or_one
abbrev hC4:=@List.getElem_mem
abbrev hC5:=@Nat.not_lt_zero
abbrev hC6:=@Array.getD_eq_getD_getElem?
abbrev hC7:=@PySem.mem_of_lookup
abbrev hC8:=@List.append_nil
abbrev hC9:=@Nat.succ_le_succ
abbrev hCa:=@Nat.lt_succ_self
abbrev hCb:=@List.length_cons
abbrev hCc:=@Bool.false_eq_true
abbrev hCd:=@Nat.xor_lt_two_pow
abbrev hCe:=@List.filter_append
abbrev hCf:=@List.range_succ
abbrev hCg:=@Nat.zero_xor
abbrev hCh:=@List.filter_sublist
abbrev hCi:=@Bool.and_eq_true
abbrev hCj:=@Nat.testBit_succ
abbrev hCk:=@Nat.testBit_or
abbrev hCl:=@List.nodup_append
abbrev hCm:=@Nat.ne_of_gt
abbrev hCn:=@Nat.one_le_two_pow
abbrev hCo:=@PySem.W.kia_one
abbrev hCp:=@List.drop_eq_getElem_cons
abbrev hCq:=@List.getElem?_range
abbrev hCr:=@List.mergeSort_perm
abbrev hCs:=@List.ext_getElem?
abbrev hCt:=@PyProof.Rows.callWith_type1
abbrev hCu:=@PySem.F.called_set
abbrev hCv:=@Bool.true_and
abbrev hCw:=@List.not_mem_nil
abbrev hCx:=@List.mem_flatten
abbrev hCy:=@Nat.testBit_eq_decide_div_mod_eq
abbrev hCz:=@List.drop_of_length_le
abbrev hD0:=@Nat.lt_irrefl
abbrev hD1:=@List.getElem?_append_left
abbrev hD2:=@Array.getElem?_eq_getElem
abbrev hD3:=@List.pairwise_iff_getElem
abbrev hD4:=@Classical.byContradiction
abbrev hD5:=@List.filterMap_append
abbrev hD6:=@List.mem_filterMap
abbrev hD7:=@Int.natCast_nonneg
abbrev hD8:=@List.map_singleton
abbrev hD9:=@List.lookup_cons
abbrev hDa:=@List.all_eq_true
abbrev hDb:=@Bool.not_eq_true
abbrev hDc:=@List.mem_of_mem_take
abbrev hDd:=@List.sum_cons
abbrev hDe:=@List.Perm.refl
abbrev hDf:=@Nat.xor_comm
abbrev hDg:=@List.Perm.of_eq
abbrev hDh:=@Int.toNat_of_nonneg
abbrev hDi:=@Nat.le_antisymm
abbrev hDj:=@Nat.testBit_lt_two_pow
abbrev hDk:=@List.getElem?_append_right
abbrev hDl:=@Nat.lt_log2_self
abbrev hDm:=@List.mem_flatMap
abbrev hDn:=@List.length_replicate
abbrev hDo:=@Nat.lt_of_le_of_lt
abbrev hDp:=@Nat.pow_succ
abbrev hDq:=@PyProof.Rows.kws_cons
abbrev hDr:=@List.map_id'
abbrev hDs:=@Nat.shiftRight_eq_div_pow
abbrev hDt:=@PyProof.Rows.kws_nil
abbrev hDu:=@Option.map_some
abbrev hDv:=@Array.Perm.refl
abbrev hDw:=@Nat.pow_le_pow_iff_right
abbrev hDx:=@PySem.F.slot_list_index
abbrev hDy:=@PySem.F.type_list_index
abbrev hDz:=@List.filter_cons_of_pos
abbrev hE0:=@List.filter_cons_of_neg
abbrev hE1:=@List.sum_append_nat
abbrev hE2:=@Nat.le_add_right
abbrev hE3:=@Bool.and_false
abbrev hE4:=@PySem.W.cellsFrom_some
abbrev hE5:=@List.range_succ_eq_map
abbrev hE6:=@Bool.eq_iff_iff
abbrev hE7:=@Bool.or_eq_true
abbrev hE8:=@List.cons_lt_cons_iff
abbrev hE9:=@List.perm_append_comm
abbrev hEa:=@Nat.le_succ_of_le
abbrev hEb:=@List.Pairwise.imp
abbrev hEc:=@List.mem_iff_getElem
abbrev hEd:=@Array.toList_inj
abbrev hEe:=@List.map_snd_zip
abbrev hEf:=@List.nodup_range
abbrev hEg:=@Nat.log2_lt
abbrev hEh:=@PySem.wpAny_bind
abbrev hEi:=@decide_eq_true
abbrev hEj:=@decide_eq_false
abbrev hEk:=@PySem.wpAny_pure
abbrev hEl:=@of_decide_eq_true
abbrev hEm:=@if_neg
abbrev hEn:=@if_pos
abbrev hEo:=@PySem.wpAny_loadPart'
abbrev hEp:=@decide_eq_true_iff
abbrev hEq:=@PySem.sizeLine_eq
abbrev hEr:=@PyProof.Rows.listUpdate_at
abbrev hEs:=@PySem.wpAny_call_entry
abbrev hEt:=@PySem.wpAny_holding
abbrev hEu:=@PySem.wpAny_mono
abbrev hEv:=@PySem.codeAny_builtin
abbrev hEw:=@PySem.wpAny_truthy_bool
abbrev hEx:=@PySem.wpAny_newObj_type
abbrev hEy:=@PySem.wpAny_newList
abbrev hEz:=@PySem.wpAny_Call_Name_kw
abbrev hF0:=@PySem.plainId_quiet
abbrev hF1:=@PySem.wpAny_passesOwn
abbrev hF2:=@PySem.wpAny_setState_of
abbrev hF3:=@PySem.wpAny_getItem_str_slice
abbrev hF6:=@PySem.wpAny_of_eq
abbrev hF7:=@PySem.wpAny_setEntries_of
abbrev hF8:=@PyProof.Rows.seqEpoch_at
abbrev hF9:=@beq_self_eq_true
abbrev hFa:=@PySem.wpAny_askSetting
abbrev hFb:=@PySem.wpAny_setField_rec
abbrev hFc:=@PySem.call_meets
abbrev hFd:=@bne_self_eq_false
abbrev hFe:=@PySem.wpAny_newTuple
abbrev hFf:=@PySem.codeAny_mono
abbrev hFg:=@PyProof.Rows.listItems_at
abbrev hFh:=@if_false
abbrev hFi:=@or_false
abbrev hFj:=@PySem.wpAny_attempt
abbrev hFk:=@of_decide_eq_false
abbrev hFl:=@PySem.wpAny_pyIter_list
abbrev hFm:=@PySem.fits_of_scanBound
abbrev hFn:=@PyProof.Rows.size_push'
abbrev hFo:=@PyProof.Rows.plain_sorted
abbrev hFp:=@PyProof.Rows.entry_sorted
abbrev hFq:=@PyProof.Rows.sortedAll_old
abbrev hFr:=@PySem.wpAny_execs_nil
abbrev hFs:=@PySem.pushCells_keeps
abbrev hFt:=@PySem.post_val_or_str
abbrev hFu:=@PyProof.Rows.kind_sorted
abbrev hFv:=@PyProof.Rows.sortedAll_at
abbrev hFw:=@PyProof.Rows.collect_list
abbrev hFx:=@PySem.wpAny_fieldsOf
abbrev hFy:=@PyProof.Rows.args_list_sort
abbrev hFz:=@PySem.wpAny_rule
set_option hygiene false
local macro_rules
|`(v4 $i $s $e)=>`(qAj (i:=$i) (FnScope.nd $s) rfl (Or.inl rfl) $e)
|`(v5 $i $s)=>`(qAm (i:=$i) (FnScope.nd $s) rfl (Or.inl rfl))
|`(v6 $i $s $e)=>`(qAj (i:=$i) (FnScope.nd $s) rfl (Or.inr rfl) $e)
|`(v7 $i $s)=>`(qAm (i:=$i) (FnScope.nd $s) rfl (Or.inr rfl))
|`(v8 $a $b $c $d $e)=>`(FnOk P w K mg base CX0 $a $b $c $d $e)
|`(v9 $a $b $c $d $e $f)=>`(Cl P w K mg base CX0 $a $b $c $d $e $f)
|`(vA 0)=>`((s2.heap.update a (Obj.mapSeq λ_=>(#[]:Array Value))).push (seqObj "tuple" its.toArray 0))
|`(vB 0)=>`((s.heap.update a (Obj.mapSeq λ_=>#[])).push (seqObj "tuple" vs.toArray 0))
|`(vC 0)=>`((s.heap.push (seqObj "list" #[] 0)).update s.heap.objs.size (Obj.mapSeq (·++(as.map Value.ref).toArray)))
namespace L2
open PySem PySem.Spec PyProof.Rows
abbrev Key:=Sum Int Str
noncomputable def zDa:Key->Value->Bool
 |.inl k,v=>Value.isInt k v
 |.inr x,v=>Value.isStrOf x v
noncomputable def zF0(w:World):Key->Int
 |.inl k=>hashInt k
 |.inr x=>hashStr w x
theorem qBo:∀ {k:Key} {v:Value},zDa k v=true->(∃i t,k=Sum.inl i/\v=Value.int i t)\/(∃x t,k=Sum.inr x/\v=Value.str x t)
 |.inl i,v,h=>by
  obtain⟨t,e⟩:=Value.isInt_shape (k:=i) (v:=v) h;exact .inl ⟨i,t,rfl,e⟩
 |.inr x,v,h=>by
  obtain⟨t,e⟩:=Value.isStrOf_shape (x:=x) (v:=v) h;exact .inr ⟨x,t,rfl,e⟩
theorem zC9(a b:Int):decide ((Sum.inl a:Key)=Sum.inl b)=(a == b):=by
 by_cases e:a=b
 ·subst e;simp
 ·have h:¬(Sum.inl a:Key)=Sum.inl b:=λq=>e (Sum.inl.inj q)
  rw[hEj h];exact(beq_eq_false_iff_ne.mpr e).symm
theorem zC6(a b:Str):decide ((Sum.inr a:Key)=Sum.inr b)=decide (a=b):=by
 by_cases e:a=b
 ·subst e;simp
 ·have h:¬(Sum.inr a:Key)=Sum.inr b:=λq=>e (Sum.inr.inj q)
  rw[hEj h,hEj e]
theorem zC8(a:Int)(b:Str):decide ((Sum.inl a:Key)=Sum.inr b)=false:=hEj (λq=>nomatch q)
theorem zC7(a:Str)(b:Int):decide ((Sum.inr a:Key)=Sum.inl b)=false:=hEj (λq=>nomatch q)
noncomputable def qS7(prog:Program)(w:World):PySem.KeyKind prog w Key where
 is:=zDa
 hash:=zF0 w
 inj:=λv a b ha hb=>by
  rcases qBo ha with ⟨i,t,rfl,rfl⟩|⟨x,t,rfl,rfl⟩
  ·rcases qBo hb with ⟨j,u,rfl,e⟩|⟨y,u,rfl,e⟩
   ·injection e with e1 _;rw[e1]
   ·exact nomatch e
  ·rcases qBo hb with ⟨j,u,rfl,e⟩|⟨y,u,rfl,e⟩
   ·exact nomatch e
   ·injection e with e1 _;rw[e1]
 byValue:=λk v h=>by
  rcases qBo h with ⟨i,t,rfl,rfl⟩|⟨x,t,rfl,rfl⟩ <;> rfl
 pyHash:=λhv h=>by
  rcases qBo hv with ⟨i,t,rfl,rfl⟩|⟨x,t,rfl,rfl⟩
  ·exact wpAny_pyHash_int h
  ·exact wpAny_pyHash_str h
 eqBool:=λhu hv h=>by
  rcases qBo hu with ⟨i,t,rfl,rfl⟩|⟨x,t,rfl,rfl⟩
  ·rcases qBo hv with ⟨j,u,rfl,rfl⟩|⟨y,u,rfl,rfl⟩
   ·rw[zC9]at h;exact wpAny_eqBool_int h
   ·rw[zC8]at h;exact SeqAt.EqAt.int_str i t y u _ _ _ _ h
  ·rcases qBo hv with ⟨j,u,rfl,rfl⟩|⟨y,u,rfl,rfl⟩
   ·rw[zC7]at h;exact SeqAt.EqAt.str_int x t j u _ _ _ _ h
   ·rw[zC6]at h;exact wpAny_eqBool_str h
 «strs»:=λk x t v h=>by
  rcases qBo h with ⟨i,u,rfl,e⟩|⟨y,u,rfl,e⟩
  ·exact nomatch e
  ·injection e with e1 _
   subst e1;cases v <;> rfl
inductive V where
 |non|bl (b:Bool)|int (i:Int)|str (x:Str)|byt (b:Array UInt8)|flt (b:UInt64)|ref (a:Addr)|ty (n:String)
 deriving DecidableEq
def qDa:V->Value->Prop
 |.non,u=>u=Value.none
 |.bl b,u=>u=Value.bool b
 |.int i,u=>∃t,u=Value.int i t
 |.str x,u=>∃t,u=Value.str x t
 |.byt b,u=>∃t,u=Value.bytes b t
 |.flt b,u=>∃t,u=Value.float b t
 |.ref a,u=>u=Value.ref a
 |.ty n,u=>u=Value.type n
abbrev qBn:List V->List Value->Prop:=Paired qDa
theorem qBn.length(r:qBn xs us):xs.length=us.length:=Paired.length r
theorem qBn.get:∀ {xs:List V} {us:List Value} {i:Nat} {x:V},qBn xs us->xs[i]?=some x->∃u,us[i]?=some u/\qDa x u
 |_,_,_,_,.nil,e=>by simp at e
 |_,_,0,_,.cons r _,e=>by simp at e;subst e;exact⟨_,rfl,r⟩
 |_,_,i+1,x,.cons _ t,e=>by
  obtain⟨u,h1,h2⟩:=qBn.get (i:=i) (x:=x) t (by simpa using e);exact⟨u,by simpa using h1,h2⟩
theorem qBn.append:∀ {xs ys:List V} {us ws:List Value},qBn xs us->qBn ys ws->qBn (xs++ys) (us++ws)
 |_,_,_,_,.nil,s=>s
 |_,_,_,_,.cons r t,s=>.cons r (qBn.append t s)
theorem qBn.take:∀ {xs:List V} {us:List Value} (n:Nat),qBn xs us->qBn (xs.take n) (us.take n)
 |_,_,0,_=>.nil
 |_,_,_+1,.nil=>.nil
 |_,_,n+1,.cons r t=>.cons r (qBn.take n t)
theorem qBn.drop:∀ {xs:List V} {us:List Value} (n:Nat),qBn xs us->qBn (xs.drop n) (us.drop n)
 |_,_,0,r=>r
 |_,_,_+1,.nil=>.nil
 |_,_,n+1,.cons _ t=>qBn.drop n t
def zE6:Option V->Option Value->Prop
 |some v,some u=>qDa v u
 |none,none=>True
 |_,_=>False
def KV{κ:Type}:List (κ×V)->List (κ×Value)->Prop:=Paired λ(p:κ×V) (q:κ×Value)=>p.1=q.1/\qDa p.2 q.2
noncomputable def kV:Key->V
 |.inl i=>.int i
 |.inr x=>.str x
inductive HO where
  |lst (xs:List V)
  |tup (xs:List V)
  |dK (kvs:List (Key×V))|dT (kvs:List (List Key×V))
  |set (S:Int->Bool) (n:Nat)
  |ins (C dx:Addr) (fs:List (Str×V))
  |own (x:Addr)
  |xd (fs:List (Str×V))
  |met (f x:Addr)
  |rng (lo hi:Int)
  |frz (o:Obj) (u:HO)
  |tbl (ps:Array Value)
  |ext (φ:Heap->Prop)
abbrev Hp:=Addr->Option HO
noncomputable def upd(H:Hp)(a:Addr)(o:HO):Hp:=λb=>if b=a then some o else H b
theorem upd_same:upd H a o a=some o:=by unfold upd;rw[hEn rfl]
theorem qAk(h:b≠a):upd H a o b=H b:=by unfold upd;rw[hEm h]
theorem qAo{H:Hp}{a b:Addr}{o:HO}(h:H a=some o)(h':H b=none):a≠b:=by
 intro e;subst e;rw[h]at h';cases h'
section
variable(P:Program)(w:World)
def qC1(H:Hp)(h:Heap)(a:Addr):HO->Prop
 |.lst xs=>xs.length<=sizeLine/\∃(its:List Value) (n:Nat),qBn xs its/\h.get? a=some { cls:=.type "list",data:=.seq its.toArray n }
 |.tup xs=>xs.length<=sizeLine/\∃its:List Value,qBn xs its/\IsTup h a its.toArray
 |.dK kvs=>kvs.length<=sizeLine/\(a == sysModules)=false/\∃vs,KV kvs vs/\h.DictOf (qS7 P w) a vs
 |.dT kvs=>kvs.length<=sizeLine/\(a == sysModules)=false/\∃xs:List (List Key×Addr×Value),
   Paired (λ(p:List Key×V) (q:List Key×Addr×Value)=>p.1=q.1/\H q.2.1=some (.tup (p.1.map kV))/\qDa p.2 q.2.2) kvs xs /\
   ∃o es ep,h.get? a=some o/\o.ExactDict/\o.data = .dict es ep/\es.toList=xs.map (entryOfKey (tupleKind (qS7 P w)))/\(xs.map (·.1)).Nodup
 |.set S n=>h.SetOf (intKind P w) a S n
 |.ins C dx fs=>H dx=some (.own a)/\fs.length<=1000/\dx≠a/\h.get? a=some (PySem.W.instObj C dx) /\
   ∃mA,h.Ns1 dx mA/\(∀f,zE6 (fs.lookup f) (mA f))/\PySem.Within mA (fs.map (·.1))
 |.own _=>∃o,h.get? a=some o
 |.xd fs=>∃mA,h.Ns1 a mA/\∀f,zE6 (fs.lookup f) (mA f)
 |.rng lo hi=>∃t u v,h.get? a=some { cls:=.type "range",data:=.fields #[.int lo t,.int hi u,.int 1 v] }
 |.frz o u=>h.get? a=some o/\qC1 H h a u
 |.tbl ps=>h.get? a=some { cls:=.none,data:=.fields ps }
 |.met f x=>h.get? a=some (PySem.W.methodObj (.ref f) (.ref x))
 |.ext φ=>φ h/\(∃o,h.get? a=some o)/\∀h1 h2:Heap,φ h1->(∀o,h1.get? a=some o->h2.get? a=some o)->φ h2
def HOk(H:Hp)(h:Heap):Prop:=∀a o,H a=some o->qC1 P w H h a o
end
section
variable{P:Program}{w:World}{H H':Hp}{h h':Heap}{a:Addr}{o:HO}
theorem qC1.lt(x:qC1 P w H h a o):a<h.objs.size:=by
 cases o with
 |lst xs=>obtain⟨_,_,_,_,e⟩:=x;exact Heap.lt_size e
 |tup xs=>obtain⟨_,_,_,p⟩:=x;exact p.lt
 |dK kvs=>obtain⟨_,_,_,_,o,_,_,e,_⟩:=x;exact Heap.lt_size e
 |dT kvs=>obtain⟨_,_,_,_,o,_,_,e,_⟩:=x;exact Heap.lt_size e
 |set S n=>obtain⟨o,_,_,_,e,_⟩:=x;exact Heap.lt_size e
 |ins C dx fs=>obtain⟨_,_,_,e,_⟩:=x;exact Heap.lt_size e
 |own y=>obtain⟨_,e⟩:=x;exact Heap.lt_size e
 |xd fs=>obtain⟨_,⟨_,_,_,e,_⟩,_⟩:=x;exact Heap.lt_size e
 |rng lo hi=>obtain⟨_,_,_,e⟩:=x;exact Heap.lt_size e
 |frz ob u=>obtain⟨e,_⟩:=x;exact Heap.lt_size e
 |tbl ps=>exact Heap.lt_size (show h.get? a=some _ from x)
 |met f y=>exact Heap.lt_size (show h.get? a=some _ from x)
 |ext φ=>obtain⟨_,⟨_,e⟩,_⟩:=x;exact Heap.lt_size e
theorem Paired.mapP:∀ {l₁:List α} {l₂:List β},Paired F l₁ l₂->(∀a b,F a b->G a b)->Paired G l₁ l₂
 |_,_,.nil,_=>.nil
 |_,_,.cons r t,f=>.cons (f _ _ r) (Paired.mapP t f)
theorem qC1.stay(x:qC1 P w H h a o)(k:∀b u,(b=a\/H b=some (.own a))->h.get? b=some u->h'.get? b=some u)
  (ho:∀b,H b=some (.own a)->H' b=some (.own a)) (ht:∀b xs,H b=some (.tup xs)->H' b=some (.tup xs)):qC1 P w H' h' a o:=by
 induction o with
 |lst xs=>obtain⟨z,its,n,r,e⟩:=x;exact⟨z,its,n,r,k _ _ (.inl rfl) e⟩
 |tup xs=>obtain⟨z,its,r,ob,e,c⟩:=x;exact⟨z,its,r,ob,k _ _ (.inl rfl) e,c⟩
 |dK kvs=>obtain⟨z,y,vs,r,ob,es,ep,e,c⟩:=x;exact⟨z,y,vs,r,ob,es,ep,k _ _ (.inl rfl) e,c⟩
 |dT kvs =>
  obtain⟨z,y,xs,r,ob,es,ep,e,c⟩:=x;exact⟨z,y,xs,Paired.mapP r λp q z=>⟨z.1,ht _ _ z.2.1,z.2.2⟩,ob,es,ep,k _ _ (.inl rfl) e,c⟩
 |set S n=>obtain⟨ob,es,ep,t,e,c⟩:=x;exact⟨ob,es,ep,t,k _ _ (.inl rfl) e,c⟩
 |ins C dx fs =>
  obtain⟨d,z,ne,e,mA,⟨od,es,ep,e2,c⟩,r⟩:=x;exact⟨ho _ d,z,ne,k _ _ (.inl rfl) e,mA,⟨od,es,ep,k _ _ (.inr d) e2,c⟩,r⟩
 |own y=>obtain⟨ob,e⟩:=x;exact⟨ob,k _ _ (.inl rfl) e⟩
 |xd fs=>obtain⟨mA,⟨od,es,ep,e,c⟩,r⟩:=x;exact⟨mA,⟨od,es,ep,k _ _ (.inl rfl) e,c⟩,r⟩
 |rng lo hi=>obtain⟨t,u,v,e⟩:=x;exact⟨t,u,v,k _ _ (.inl rfl) e⟩
 |frz ob u ih=>obtain⟨e,q⟩:=x;exact⟨k _ _ (.inl rfl) e,ih q⟩
 |tbl ps =>
  have e:h.get? a=some { cls:=.none,data:=.fields ps }:=x;show h'.get? a=some { cls:=.none,data:=.fields ps };exact k a _ (.inl rfl) e
 |met f y =>
  have e:h.get? a=some (PySem.W.methodObj (.ref f) (.ref y)):=x;show h'.get? a=some (PySem.W.methodObj (.ref f) (.ref y));exact k a _ (.inl rfl) e
 |ext φ=>obtain⟨p,⟨o,e⟩,st⟩:=x;exact⟨st _ _ p λo q=>k _ _ (.inl rfl) q,⟨o,k _ _ (.inl rfl) e⟩,st⟩
theorem HOk.lt(x:HOk P w H h)(e:H a=some o):a<h.objs.size:=(x a o e).lt
theorem HOk.fresh(x:HOk P w H h)(e:h.objs.size<=a):H a=none:=by
 cases q:H a with
 |none=>rfl
 |some u=>exact absurd (hAn (x.lt q) e) (hD0 _)
theorem HOk.kept(x:HOk P w H h)(k:∀b u,h.get? b=some u->h'.get? b=some u):HOk P w H h':=λa o e =>
 (x a o e).stay (λb u _ q=>k b u q) (λ_ q=>q) λ_ _ q=>q
theorem HOk.laid(x:HOk P w H h)(k:∀b u,h.get? b=some u->h'.get? b=some u)(hp:h.objs.size<=a)(new:qC1 P w (upd H a o) h' a o):HOk P w (upd H a o) h':=λb u e=>by
 have hn:=x.fresh hp;by_cases hb:b=a
 ·subst hb;rw[upd_same]at e;cases e;exact new
 ·rw[qAk hb]at e;exact(x b u e).stay (λc v _ q=>k c v q) (λc q=>by rw[qAk (qAo q hn)];exact q) λc xs q=>by rw[qAk (qAo q hn)];exact q
end
def Rd(H:Hp)(a:Addr)(u:HO):Prop:=H a=some u\/∃o,H a=some (.frz o u)
theorem Rd.ok(r:Rd H a u)(x:HOk P w H h):qC1 P w H h a u:=by
 rcases r with r|⟨o,r⟩
 ·exact x a u r
 ·obtain⟨_,q⟩:=x a _ r;exact q
def Mut:Option HO->Prop
 |some (.lst _)=>True
 |some (.dK _)=>True
 |some (.dT _)=>True
 |some (.set _ _)=>True
 |some (.ins _ _ _)=>True
 |some (.ext _)=>True
 |_=>False
section
variable{P:Program}{w:World}{H:Hp}{h h':Heap}{x e:Addr}{o':HO}
theorem HOk.write(ok:HOk P w H h)(mu:Mut (H x))(he:e=x\/H e=some (.own x))(k:∀b u,b≠e->h.get? b=some u->h'.get? b=some u)(heo:∃u,h'.get? e=some u)
  (new:qC1 P w (upd H x o') h' x o'):HOk P w (upd H x o') h':=λb u q=>by
 have nown:∀c y,H c=some (.own y)->c≠x:=λc y r z=>by subst z;rw[r]at mu;exact mu
 have ntup:∀c xs,H c=some (.tup xs)->c≠x:=λc xs r z=>by subst z;rw[r]at mu;exact mu
 by_cases hb:b=x
 ·subst hb;rw[upd_same]at q;cases q;exact new
 ·rw[qAk hb]at q;by_cases hbe:b=e
  ·have q':H b=some (.own x):=by
    rcases he with z|z
    ·exact absurd (hbe.trans z) hb
    ·rw[hbe];exact z
   rw[q]at q';cases q';obtain⟨v,hv⟩:=heo;exact⟨v,by rw[hbe];exact hv⟩
  ·refine(ok b u q).stay (λc v hc r=>k c v ?_ r) (λc r=>by rw[qAk (nown c b r)];exact r) λc xs r=>by rw[qAk (ntup c xs r)];exact r
   rcases hc with rfl|hc
   ·exact hbe
   ·rintro rfl;rcases he with z|z
    ·exact nown c b hc z
    ·rw[hc]at z;cases z;exact hb rfl
end
structure Un(fs ex:List Addr)(H H':Hp)(h h':Heap):Prop where
 keep:∀b o,h.get? b=some o->H b=none->b∉fs->b∉ex->h'.get? b=some o
 slot:∀b o,h.get? b=some o->H b=none->b∈fs->b∉ex->∃sl,h'.get? b=some { o with slots:=sl }
 free:∀b o,h.get? b=some o->H b=none->b∉ex->H' b=none
 there:∀b o,h.get? b=some o->b∉ex->∃o',h'.get? b=some o'
 tups:∀b xs,H b=some (.tup xs)->H' b=some (.tup xs)
 frzs:∀b o u,H b=some (.frz o u)->H' b=some (.frz o u)
 tbls:∀b ps,H b=some (.tbl ps)->∃more,H' b=some (.tbl (ps++more))
section
variable{fs fs' ex ex':List Addr}{H H1 H2:Hp}{h h1 h2 h':Heap}{a x e:Addr}{o:HO}
theorem Un.any(u:Un fs ex H H1 h h1)(q:h.get? b=some ob)(n:H b=none)(hx:b∉ex):∃sl,h1.get? b=some { ob with slots:=sl }:=by
 by_cases hb:b∈fs
 ·exact u.slot b ob q n hb hx
 ·exact⟨ob.slots,u.keep b ob q n hb hx⟩
theorem Un.kept(k:∀b u,h.get? b=some u->h'.get? b=some u):Un fs ex H H h h' :=
 ⟨λb ob q _ _ _=>k b ob q,λb ob q _ _ _=>⟨ob.slots,k b ob q⟩,λ_ _ _ n _=>n,λb ob q _=>⟨ob,k b ob q⟩,λ_ _ q=>q,λ_ _ _ q=>q,λ_ ps q=>⟨#[],by rw[q];simp⟩⟩
theorem Un.refl:Un fs ex H H h h:=Un.kept λ_ _ q=>q
theorem Un.laid(k:∀b u,h.get? b=some u->h'.get? b=some u)(hp:h.objs.size<=a)(hn:H a=none):Un fs ex H (upd H a o) h h' where
 keep:=λb u q _ _ _=>k b u q
 slot:=λb u q _ _ _=>⟨u.slots,k b u q⟩
 free:=λb u q n _=>by rw[qAk (hAu (hAn (Heap.lt_size q) hp))];exact n
 there:=λb u q _=>⟨u,k b u q⟩
 tups:=λb xs q=>by rw[qAk (qAo q hn)];exact q
 frzs:=λb u xs q=>by rw[qAk (qAo q hn)];exact q
 tbls:=λb ps q=>⟨#[],by rw[qAk (qAo q hn),q];simp⟩
theorem Un.write(mu:Mut (H x))(he:e=x\/H e=some (.own x))(k:∀b u,b≠e->h.get? b=some u->h'.get? b=some u)(heo:∃u,h'.get? e=some u):Un fs ex H (upd H x o) h h':=by
 have hx:∀b,H b=none->b≠x:=λb n z=>by subst z;rw[n]at mu;exact mu
 have hb:∀b,H b=none->b≠e:=λb n z=>by
  subst z;rcases he with r|r
  ·exact hx b n r
  ·rw[n]at r;cases r
 have hm:∀b u,H b=some u->¬Mut (some u)->b≠x:=λb u q nm z=>by subst z;rw[q]at mu;exact nm mu
 refine⟨λb u q n _ _=>k b u (hb b n) q,λb u q n _ _=>⟨u.slots,k b u (hb b n) q⟩,λb u q n _=>by rw[qAk (hx b n)];exact n,λb u q _=>?_,
  λb xs q=>by rw[qAk (hm b _ q λz=>z)];exact q,λb u xs q=>by rw[qAk (hm b _ q λz=>z)];exact q,λb ps q=>⟨#[],by rw[qAk (hm b _ q λz=>z),q];simp⟩⟩
 by_cases hbe:b=e
 ·subst hbe;exact heo
 ·exact⟨u,k b u hbe q⟩
end
noncomputable def trk(h:Heap)(H:Hp):List Addr:=(List.range h.objs.size).filter λa=>(H a).isSome
noncomputable def qTl(h:Heap)(H:Hp):Heap:=PySem.W.hideAll h (trk h H)
theorem qTk(h:Heap)(H:Hp):(qTl h H).objs.size=h.objs.size:=PySem.W.hideAll_size _ _
theorem qWs(e:h.get? b=some o)(n:H b=none):(qTl h H).get? b=some o :=
 PySem.W.hideAll_get _ e λhm=>by
  have q:(H b).isSome=true:=(hAj.mp hm).2;rw[n]at q;simp at q
theorem zAv(e:(qTl h H).get? b=some o):h.get? b=some o/\H b=none:=by
 have e':h.get? b=some o:=PySem.W.of_hideAll (trk h H) e;refine⟨e',?_⟩;cases q:H b with
 |none=>rfl
 |some x =>
  have hm:b∈trk h H:=hAj.mpr ⟨hAy.mpr (Heap.lt_size e'),by simp[q]⟩;have z:(qTl h H).get? b=none:=PySem.W.hideAll_none (trk h H) hm;rw[z]at e;cases e
noncomputable def zBr(g h:Heap)(L:Addr):List (Addr×Obj):=(List.range h.objs.size).filterMap λa=>if a=L\/(g.get? a).isSome=true then none else (h.get? a).map λo=>(a,o)
noncomputable def rest(g h:Heap)(L d:Addr):List (Addr×Obj):=(zBr g h L).filter λp=>decide (p.1≠d)
structure Mod(K:PySem.W.Frag)(mg:Str->Option Value)(base:Heap):Prop where
 kin:K.In base
 glob:base.Ns mainGlobals mg
 blt:∃mb,base.Ns builtinsNs mb/\∀x:Str,x≠"__name__"->mb x=bootBuiltins x
 nolimit:base.NoLimit
structure Cx where
 prog:Program
 w:World
 K:PySem.W.Frag
 mg:Str->Option Value
 base:Heap
 A:Around
 N:List Str
 s₀:Shared
 H₀:Hp
 env:Env
 outer:List Env
 stack:List Env
 ex:List Addr
 fn:Str->Bool
 calm:Bool
 pn:List (Addr×Obj)
 xe:Value->Shared->Prop
noncomputable def frs(l:List Env):List Addr:=l.filterMap (·.frame)
noncomputable abbrev Cx.fs(X:Cx):List Addr:=frs X.outer
def Vis(sc:Scope)(x:Str):Prop:=sc.names.lookup x=some .local\/sc.names.lookup x=some .cell\/sc.names.lookup x=some .free
def Loc(sc:Scope)(x:Str):Prop:=sc.names.lookup x=some .local\/sc.names.lookup x=some .cell
def zF6(env:Env)(h:Heap)(m:Str->Option Value)(x:Str)(u:Value):Prop :=
 (env.kindOf x=some .local/\m x=some u)\/((env.kindOf x=some .cell\/env.kindOf x=some .free)/\∃c,env.cells.lookup x=some c/\h.IsCell c (some u))
structure Cx.Ok(X:Cx):Prop where
 mod:Mod X.K X.mg X.base
 kind:X.env.scope.kind = .function
 glob:X.env.globals=mainGlobals
 blt:X.env.builtins=builtinsNs
 above:X.s₀.heap.objs.size<=X.env.locals
 inj:∀x y c,X.env.cells.lookup x=some c->X.env.cells.lookup y=some c->x=y
 has:∀x,(X.env.kindOf x=some .cell\/X.env.kindOf x=some .free)->∃c,X.env.cells.lookup x=some c
 cab:∀x c,X.fn x=true->X.env.cells.lookup x=some c->X.s₀.heap.objs.size<=c
 hd:X.calm=true->X.A.handled=none
 frames:X.A.frames=some X.stack
 stk:X.stack=X.outer\/(X.stack=X.env :: X.outer/\X.env.frame=some X.env.locals)
 exf:∀b∈X.ex,b≠X.env.locals/\∀x c,X.env.cells.lookup x=some c->c≠b
 bs:∀b o,X.base.get? b=some o->X.s₀.heap.get? b=some o/\X.H₀ b=none
 bsz:X.base.objs.size<=X.s₀.heap.objs.size
 noex:∀b o,X.base.get? b=some o->b∉X.ex
 exfs:∀b∈X.ex,b∉X.fs
 funs:X.s₀.heap.FunFrames X.base X.outer
 frf:∀b∈X.fs,X.H₀ b=none
structure Inv(X:Cx)(aB:List (Addr×Obj))(σ:List (Option V))(H:Hp)(s:Shared):Prop where
 ok:X.Ok
 os:s.os=X.s₀.os
 bare:AllBare s.gens
 base:Un X.fs X.ex X.H₀ H X.s₀.heap s.heap
 loc:∃m,s.heap.Ns X.env.locals m/\∀(i:Nat) (x:Str) (v:V),X.N[i]?=some x->σ[i]?=some (some v)->Vis X.env.scope x->∃u,qDa v u/\zF6 X.env s.heap m x u
 cell:∀x c,X.env.cells.lookup x=some c->∃v,s.heap.IsCell c v
 free:H X.env.locals=none
 freeC:∀x c,X.env.cells.lookup x=some c->H c=none
 pin:∀p∈X.pn++aB,s.heap.get? p.1=some p.2/\H p.1=none/\p.1≠X.env.locals/\p.1∉X.fs/\∀v,p.2.data≠.cell v
 hok:HOk X.prog X.w H s.heap
 len:σ.length=X.N.length
section
variable{X:Cx}{aB:List (Addr×Obj)}{σ:List (Option V)}{H H':Hp}{s:Shared}{h':Heap}
theorem Cx.Ok.nofr(ok:X.Ok)(e:X.base.get? b=some o):b∉X.fs:=λhb=>by
 have:=(ok.funs.mem hb).1;rw[e]at this;cases this
theorem Inv.bs(I:Inv X aB σ H s):∀b o,X.base.get? b=some o->s.heap.get? b=some o/\H b=none:=λb o e =>
 ⟨I.base.keep b o (I.ok.bs b o e).1 (I.ok.bs b o e).2 (I.ok.nofr e) (I.ok.noex b o e),I.base.free b o (I.ok.bs b o e).1 (I.ok.bs b o e).2 (I.ok.noex b o e)⟩
theorem Inv.bk(I:Inv X aB σ H s):∀b o,X.base.get? b=some o->s.heap.get? b=some o:=λb o e=>(I.bs b o e).1
theorem Inv.mod(I:Inv X aB σ H s):Mod X.K X.mg X.base:=I.ok.mod
theorem Inv.kIn(I:Inv X aB σ H s):X.K.In s.heap:=I.ok.mod.kin.keeps I.bk
theorem Inv.lt(I:Inv X aB σ H s):X.env.locals<s.heap.objs.size:=let ⟨_,hn,_⟩:=I.loc;hn.lt
theorem Inv.sz(I:Inv X aB σ H s):X.s₀.heap.objs.size<=s.heap.objs.size:=hAw I.ok.above (hB5 I.lt)
theorem Inv.nofs(I:Inv X aB σ H s)(h:s.heap.objs.size<=a):a∉X.fs:=λhb=>by
 obtain⟨_,o,ho,_⟩:=I.ok.funs.mem hb;exact absurd (hAn (Heap.lt_size ho) (hAw I.sz h)) (hD0 _)
theorem Inv.cne(I:Inv X aB σ H s):∀x c,X.env.cells.lookup x=some c->c≠X.env.locals:=λx c e z=>by
 obtain⟨v,o,ho,hd⟩:=I.cell x c e;obtain⟨m,⟨o',es,ep,ho',hd',_⟩,_⟩:=I.loc;rw[z,ho']at ho;cases ho;rw[hd']at hd;cases hd
theorem Inv.funs(I:Inv X aB σ H s):s.heap.FunFrames X.base X.outer:=by
 have all:∀(l:List Env),(∀b∈frs l,b∈X.fs)->X.s₀.heap.FunFrames X.base l->s.heap.FunFrames X.base l:=by
  intro l
  induction l with
  |nil=>intro _ _;trivial
  |cons env r ih =>
   intro hs hl;obtain⟨hk,⟨L,o,hf,hn,ho,hd⟩,hr⟩:=hl;have hL:L∈X.fs:=hs L (by unfold frs;rw[hBr,hf];exact hA6);obtain⟨sl,e⟩:=I.base.slot L o ho (I.ok.frf L hL) hL λz=>I.ok.exfs L z hL
   exact⟨hk,⟨L,_,hf,hn,e,hd⟩,ih (λb hb=>hs b (by unfold frs;rw[hBr,hf];exact hA4 _ hb)) hr⟩
 exact all X.outer (λ_ hb=>hb) I.ok.funs
theorem Inv.stack(I:Inv X aB σ H s):s.heap.FunFrames X.base X.stack:=by
 rcases I.ok.stk with e|⟨e,hf⟩
 ·rw[e];exact I.funs
 ·rw[e];obtain⟨m,hn,_⟩:=I.loc;refine .cons (by rw[I.ok.kind];decide) hf hn ?_ I.funs;exact Heap.get?_none_of_le (hAw I.ok.bsz I.ok.above)
theorem Inv.stkSub(I:Inv X aB σ H s):∀b∈frs X.stack,b∈X.env.locals :: X.fs:=λb hb=>by
 rcases I.ok.stk with e|⟨e,hf⟩
 ·rw[e]at hb;exact hA4 _ hb
 ·rw[e]at hb;unfold frs at hb;rw[hBr,hf]at hb;exact hb
theorem Inv.stkFree(I:Inv X aB σ H s):∀b∈frs X.stack,H b=none:=λb hb=>by
 rcases hAg.mp (I.stkSub b hb) with e|hb
 ·rw[e];exact I.free
 ·obtain⟨_,o,ho,_⟩:=I.ok.funs.mem hb;exact I.base.free b o ho (I.ok.frf b hb) λz=>I.ok.exfs b z hb
theorem Inv.step{g':Array GenState}{t':Nat}{d':Drawn}{ch:List Addr}(I:Inv X aB σ H s)
  (hch:∀b∈ch,(b∈X.ex\/X.s₀.heap.objs.size<=b)/\b≠X.env.locals/\(∀x c,X.env.cells.lookup x=some c->c≠b)/\∀p∈X.pn++aB,p.1≠b)
  (keep:∀b o,b≠X.env.locals->b∉X.fs->b∉ch->s.heap.get? b=some o->H b=none->h'.get? b=some o)
  (slot:∀b o,b≠X.env.locals->b∈X.fs->b∉ch->s.heap.get? b=some o->H b=none->∃sl,h'.get? b=some { o with slots:=sl }) (free:∀b o,b∉ch->s.heap.get? b=some o->H b=none->H' b=none)
  (there:∀b o,b∉ch->s.heap.get? b=some o->∃o',h'.get? b=some o')
  (tups:∀b xs,H b=some (.tup xs)->H' b=some (.tup xs)) (frzs:∀b o u,H b=some (.frz o u)->H' b=some (.frz o u)) (tbls:∀b ps,H b=some (.tbl ps)->∃more,H' b=some (.tbl (ps++more)))
  (ns:∀m,s.heap.Ns X.env.locals m->h'.Ns X.env.locals m) (hok:HOk X.prog X.w H' h') (hg:AllBare g') :
  Inv X aB σ H' { s with heap:=h',gens:=g',drawn:=d',toks:=t' }:=by
 have neL:∀b o,X.s₀.heap.get? b=some o->b≠X.env.locals:=λb o e=>hAu (hAn (Heap.lt_size e) I.ok.above)
 have neC:∀b o,X.s₀.heap.get? b=some o->b∉X.ex->b∉ch:=λb o e hx hb=>by
  rcases(hch b hb).1 with z|z
  ·exact hx z
  ·exact absurd (hAn (Heap.lt_size e) z) (hD0 _)
 have cellK:∀x c,X.env.cells.lookup x=some c->∀v,s.heap.IsCell c v->h'.IsCell c v:=λx c e v ⟨o,ho,hd⟩=>by
  have nch:c∉ch:=λz=>(hch c z).2.2.1 x c e rfl
  by_cases hc:c∈X.fs
  ·obtain⟨sl,q⟩:=slot c o (I.cne x c e) hc nch ho (I.freeC x c e);exact⟨_,q,hd⟩
  ·exact⟨o,keep c o (I.cne x c e) hc nch ho (I.freeC x c e),hd⟩
 refine⟨I.ok,I.os,hg,⟨λb o e n hb hx=>?_,λb o e n hb hx=>?_,λb o e n hx=>?_,λb o e hx=>?_,λb xs e=>tups b xs (I.base.tups b xs e),λb o xs e=>frzs b o xs (I.base.frzs b o xs e),λb ps e=>?_⟩,?_,λx c e=>?_,?_,λx c e=>?_,λp hp=>?_,hok,I.len⟩
 ·exact keep b o (neL b o e) hb (neC b o e hx) (I.base.keep b o e n hb hx) (I.base.free b o e n hx)
 ·obtain⟨sl,e1⟩:=I.base.slot b o e n hb hx;obtain⟨sl',e2⟩:=slot b _ (neL b o e) hb (neC b o e hx) e1 (I.base.free b o e n hx);exact⟨sl',e2⟩
 ·obtain⟨o',e1⟩:=I.base.there b o e hx;exact free b o' (neC b o e hx) e1 (I.base.free b o e n hx)
 ·obtain⟨o',e1⟩:=I.base.there b o e hx;exact there b o' (neC b o e hx) e1
 ·obtain⟨m1,e1⟩:=I.base.tbls b ps e;obtain⟨m2,e2⟩:=tbls b _ e1;exact⟨m1++m2,by rw[e2,Array.append_assoc]⟩
 ·obtain⟨m,hn,hl⟩:=I.loc;refine⟨m,ns m hn,λi x v e1 e2 e3=>?_⟩;obtain⟨u,r,l⟩:=hl i x v e1 e2 e3;refine⟨u,r,?_⟩;rcases l with l|⟨k,c,e,z⟩
  ·exact .inl l
  ·exact .inr ⟨k,c,e,cellK x c e _ z⟩
 ·obtain⟨v,z⟩:=I.cell x c e;exact⟨v,cellK x c e v z⟩
 ·obtain⟨m,⟨o,_,_,ho,_⟩,_⟩:=I.loc;exact free _ o (λz=>(hch _ z).2.1 rfl) ho I.free
 ·obtain⟨v,o,ho,hd⟩:=I.cell x c e;exact free c o (λz=>(hch c z).2.2.1 x c e rfl) ho (I.freeC x c e)
 ·obtain⟨e,n,ne,nf,d⟩:=I.pin p hp;have nch:p.1∉ch:=λz=>(hch p.1 z).2.2.2 p hp rfl
  exact⟨keep p.1 p.2 ne nf nch e n,free p.1 p.2 nch e n,ne,nf,d⟩
theorem Inv.un{t':Nat}(I:Inv X aB σ H s)(u:Un X.fs [] H H' s.heap h')(hok:HOk X.prog X.w H' h'):Inv X aB σ H' { s with heap:=h',toks:=t' }:=by
 obtain⟨m,⟨o,es,ep,ho,r⟩,_⟩:=id I.loc;obtain⟨sl,hL⟩:=u.any ho I.free (by simp);exact I.step (g':=s.gens) (d':=s.drawn) (ch:=[]) (λ_ z=>nomatch z) (λb o _ hb _ e n=>u.keep b o e n hb (by simp)) (λb o _ hb _ e n=>u.slot b o e n hb (by simp)) (λb o _ e n=>u.free b o e n (by simp)) (λb o _ e=>u.there b o e (by simp)) u.tups u.frzs u.tbls (λm' hm=>by
  obtain⟨o',es',ep',ho',r'⟩:=hm;rw[ho]at ho';cases ho';exact⟨_,es',ep',hL,r'⟩) hok I.bare
theorem Inv.call{g':Array GenState}{t':Nat}{d':Drawn}{ch:List Addr}(I:Inv X aB σ H s)(u:Un (frs X.stack) ch H H' s.heap h')(hok:HOk X.prog X.w H' h')(hg:AllBare g')
  (hch:∀b∈ch,(b∈X.ex\/X.s₀.heap.objs.size<=b)/\b≠X.env.locals/\(∀x c,X.env.cells.lookup x=some c->c≠b)/\∀p∈X.pn++aB,p.1≠b) :
  Inv X aB σ H' { s with heap:=h',gens:=g',drawn:=d',toks:=t' }:=by
 obtain⟨m,⟨o,es,ep,ho,r⟩,_⟩:=id I.loc;obtain⟨sl,hL⟩:=u.any ho I.free λz=>(hch _ z).2.1 rfl
 exact I.step (ch:=ch) hch (λb o hL hb hc e n=>u.keep b o e n (λz=>(hAg.mp (I.stkSub b z)).elim hL hb) hc) (λb o _ _ hc e n=>u.any e n hc) (λb o hc e n=>u.free b o e n hc) (λb o hc e=>u.there b o e hc) u.tups u.frzs u.tbls (λm' hm=>by
  obtain⟨o',es',ep',ho',r'⟩:=hm;rw[ho]at ho';cases ho';exact⟨_,es',ep',hL,r'⟩) hok hg
theorem Inv.turned{t':Nat}{it:Addr}(I:Inv X aB σ H s)(k:∀b o,b≠it->s.heap.get? b=some o->h'.get? b=some o)(hn:H it=none)(hL:it≠X.env.locals)
  (h1:it∈X.ex\/X.s₀.heap.objs.size<=it) (h2:∀x c,X.env.cells.lookup x=some c->c≠it) (h3:∀p∈X.pn++aB,p.1≠it):Inv X aB σ H { s with heap:=h',toks:=t' }:=by
 have nit:∀b u,H b=some u->b≠it:=λb u e z=>by rw[z,hn]at e;cases e
 refine I.step (g':=s.gens) (d':=s.drawn) (ch:=[it]) (λb hb=>?_) (λb o _ _ hc e _=>k b o (λz=>hc (by simp[z])) e) (λb o _ _ hc e _=>⟨o.slots,k b o (λz=>hc (by simp[z])) e⟩) (λ_ _ _ _ n=>n)
  (λb o hc e=>⟨o,k b o (λz=>hc (by simp[z])) e⟩) (λ_ _ e=>e) (λ_ _ _ e=>e) (λb ps e=>⟨#[],by rw[e];simp⟩) (λm hm=>?_) (λb u e=>?_) I.bare
 ·have e:b=it:=by simpa using hb
  subst e;exact⟨h1,hL,h2,h3⟩
 ·obtain⟨o,es,ep,ho,r⟩:=hm;exact⟨o,es,ep,k _ o (Ne.symm hL) ho,r⟩
 ·refine(I.hok b u e).stay (λc v hc q=>k c v ?_ q) (λ_ q=>q) λ_ _ q=>q
  rcases hc with z|z
  ·rw[z];exact nit b u e
  ·exact nit c _ z
theorem Inv.tok(I:Inv X aB σ H s)(t:Nat):Inv X aB σ H { s with toks:=t }:=I.un (h':=s.heap) (t':=t) Un.refl I.hok
theorem Inv.kept(I:Inv X aB σ H s)(k:∀b u,s.heap.get? b=some u->h'.get? b=some u):Inv X aB σ H { s with heap:=h',toks:=t' }:=I.un (Un.kept k) (I.hok.kept k)
theorem Inv.laid(I:Inv X aB σ H s)(k:∀b u,s.heap.get? b=some u->h'.get? b=some u)(hp:s.heap.objs.size<=a)(new:qC1 X.prog X.w (upd H a o) h' a o) :
  Inv X aB σ (upd H a o) { s with heap:=h',toks:=t' }:=I.un (Un.laid k hp (I.hok.fresh hp)) (I.hok.laid k hp new)
theorem Inv.write(I:Inv X aB σ H s)(mu:Mut (H x))(he:e=x\/H e=some (.own x))(k:∀b u,b≠e->s.heap.get? b=some u->h'.get? b=some u)(heo:∃u,h'.get? e=some u)
  (new:qC1 X.prog X.w (upd H x o) h' x o):Inv X aB σ (upd H x o) { s with heap:=h',toks:=t' }:=I.un (Un.write mu he k heo) (I.hok.write mu he k heo new)
theorem Inv.weak(I:Inv X aB σ H s)(hl:σ'.length=σ.length)(w:∀(i:Nat) v,σ'[i]?=some (some v)->σ[i]?=some (some v)):Inv X aB σ' H s :=
 ⟨I.ok,I.os,I.bare,I.base,let ⟨m,hn,hl'⟩:=I.loc;⟨m,hn,λi x v e1 e2 e3=>hl' i x v e1 (w i v e2) e3⟩,I.cell,I.free,I.freeC,I.pin,I.hok,hl.trans I.len⟩
theorem Inv.pins_of(I:Inv X aB σ H s)(h:∀p∈pins',s.heap.get? p.1=some p.2/\H p.1=none/\p.1≠X.env.locals/\p.1∉X.fs/\∀v,p.2.data≠.cell v):Inv X pins' σ H s :=
 ⟨I.ok,I.os,I.bare,I.base,I.loc,I.cell,I.free,I.freeC,λp hp=>(hAd.mp hp).elim (λz=>I.pin p (hAe _ z)) (h p),I.hok,I.len⟩
theorem qO8{N:List Str}(hN:N.Nodup){i j:Nat}{x:Str}(a:N[i]?=some x)(b:N[j]?=some x):i=j:=by
 obtain⟨h1,e1⟩:=hAm.mp a;obtain⟨h2,e2⟩:=hAm.mp b;exact(List.getElem_inj hN).mp (e1.trans e2.symm)
theorem qKz{M:Model}{A:Around}{E:Value->Shared->Prop}{i:Nat}{x:Str}{v:V}{u:Value}{Q:Unit->Shared->Prop}(I:Inv X aB σ H s)(hN:X.N.Nodup)(hi:X.N[i]?=some x)(hx:Loc X.env.scope x)(r:qDa v u)
  (h:∀s',Inv X aB (σ.set i (some v)) H s'->(∃a,Heap.SameBut a s.heap s'.heap/\(a=X.env.locals\/X.env.cells.lookup x=some a))->Q () s') (hf:X.fn x=true\/X.env.scope.names.lookup x=some .local:=by first|exact .inl rfl|exact .inr rfl|assumption):wpAny M A (storeName X.env x u) Q E s:=by
 obtain⟨m,hn,hl⟩:=id I.loc;have hcls:(X.env.scope.kind == .class || (X.env.scope.kind == .module && X.env.locals != X.env.globals))=false:=by rw[I.ok.kind];rfl
 have hiσ:i < σ.length:=by rw[I.len];exact(hAm.mp hi).1
 have cne:=I.cne;have tracked:∀ {a:Addr} {h':Heap},(∃o,s.heap.get? a=some o/\H a=none)->Heap.SameBut a s.heap h'->HOk X.prog X.w H h':=λ{a h'} ha hs b ob e=>by
  obtain⟨_,_,hfree⟩:=ha;refine(I.hok b ob e).stay (λc w' hc q=>(hs.2 c ?_).trans q) (λ_ q=>q) λ_ _ q=>q
  rintro rfl;rcases hc with rfl|hc
  ·rw[hfree]at e;cases e
  ·rw[hfree]at hc;cases hc
 rcases hx with hk|hk
 ·refine wpAny_storeName_local hk hn (λh' hn' hs=>?_) hcls;obtain⟨oL,_,_,hoL,_⟩:=id hn;refine h _ ⟨I.ok,I.os,I.bare,⟨λb o e n hb hx=>?_,λb o e n hb hx=>?_,I.base.free,λb o e hx=>?_,I.base.tups,I.base.frzs,I.base.tbls⟩,⟨_,hn',λj y v' e1 e2 e3=>?_⟩,λy c e=>?_,I.free,I.freeC,λp hp=>?_,tracked ⟨oL,hoL,I.free⟩ hs,by simpa using I.len⟩ ⟨_,hs,.inl rfl⟩
  ·exact(hs.2 b (hAu (hAn (Heap.lt_size e) I.ok.above))).trans (I.base.keep b o e n hb hx)
  ·obtain⟨sl,e1⟩:=I.base.slot b o e n hb hx;exact⟨sl,(hs.2 b (hAu (hAn (Heap.lt_size e) I.ok.above))).trans e1⟩
  ·obtain⟨o',e1⟩:=I.base.there b o e hx;exact⟨o',(hs.2 b (hAu (hAn (Heap.lt_size e) I.ok.above))).trans e1⟩
  ·by_cases hj:j=i
   ·subst hj;rw[hi]at e1;cases e1;rw[List.getElem?_set_self hiσ]at e2;cases e2;exact⟨u,r,.inl ⟨hk,by simp⟩⟩
   ·rw[List.getElem?_set_ne (Ne.symm hj)]at e2;obtain⟨u',r',q⟩:=hl j y v' e1 e2 e3;refine⟨u',r',?_⟩;rcases q with ⟨k,e⟩|⟨k,c,e,z⟩
    ·refine .inl ⟨k,?_⟩;have:y≠x:=λe=>hj (qO8 hN e1 (e▸hi))
     simp[this,e]
    ·exact .inr ⟨k,c,e,z.sameBut hs (cne y c e)⟩
  ·obtain⟨w',z⟩:=I.cell y c e;exact⟨w',z.sameBut hs (cne y c e)⟩
  ·obtain⟨e,n,ne,nf,d⟩:=I.pin p hp;exact⟨(hs.2 p.1 ne).trans e,n,ne,nf,d⟩
 ·have hfn:X.fn x=true:=by
   rcases hf with z|z
   ·exact z
   ·rw[z]at hk;cases hk
  obtain⟨c,hc⟩:=I.ok.has x (.inl hk);obtain⟨w',z⟩:=I.cell x c hc;refine wpAny_storeName_cell I.ok.kind hk hc z (λh' hc' hs=>?_);obtain⟨oc,hoc,hocd⟩:=id z;refine h { s with heap:=h' } ⟨I.ok,I.os,I.bare,⟨λb o e n hb hx=>?_,λb o e n hb hx=>?_,I.base.free,λb o e hx=>?_,I.base.tups,I.base.frzs,I.base.tbls⟩,⟨m,hn.sameBut hs (Ne.symm (cne x c hc)),λj y v' e1 e2 e3=>?_⟩,λy c' e=>?_,I.free,I.freeC,λp hp=>?_,tracked ⟨oc,hoc,I.freeC x c hc⟩ hs,by simpa using I.len⟩ ⟨c,hs,.inr hc⟩
  ·exact(hs.2 b (hAu (hAn (Heap.lt_size e) (I.ok.cab x c hfn hc)))).trans (I.base.keep b o e n hb hx)
  ·obtain⟨sl,e1⟩:=I.base.slot b o e n hb hx;exact⟨sl,(hs.2 b (hAu (hAn (Heap.lt_size e) (I.ok.cab x c hfn hc)))).trans e1⟩
  ·obtain⟨o',e1⟩:=I.base.there b o e hx;exact⟨o',(hs.2 b (hAu (hAn (Heap.lt_size e) (I.ok.cab x c hfn hc)))).trans e1⟩
  ·by_cases hj:j=i
   ·subst hj;rw[hi]at e1;cases e1;rw[List.getElem?_set_self hiσ]at e2;cases e2;exact⟨u,r,.inr ⟨.inl hk,c,hc,hc'⟩⟩
   ·rw[List.getElem?_set_ne (Ne.symm hj)]at e2;obtain⟨u',r',q⟩:=hl j y v' e1 e2 e3;refine⟨u',r',?_⟩;rcases q with q|⟨k,c',e,z'⟩
    ·exact .inl q
    ·refine .inr ⟨k,c',e,z'.sameBut hs ?_⟩;rintro rfl;exact hj (qO8 hN e1 (I.ok.inj _ _ _ e hc▸hi))
  ·by_cases hcc:c'=c
   ·subst hcc;exact⟨_,hc'⟩
   ·obtain⟨w2,z2⟩:=I.cell y c' e;exact⟨w2,z2.sameBut hs hcc⟩
  ·obtain⟨e,n,ne,nf,d⟩:=I.pin p hp;refine⟨(hs.2 p.1 ?_).trans e,n,ne,nf,d⟩;intro q;rw[q,hoc]at e;have q':oc=p.2:=hAq e;exact d w' (by rw[<-q'];exact hocd)
theorem qJv(I:Inv X aB σ H s)(hN:X.N.Nodup)(hi:X.N[i]?=some x)(hx:Loc X.env.scope x)(r:qDa v u)
  (h:∀s',Inv X aB (σ.set i (some v)) H s'->Q () s') (hf:X.fn x=true\/X.env.scope.names.lookup x=some .local:=by first|exact .inl rfl|exact .inr rfl|assumption):wpAny M A (storeName X.env x u) Q E s :=
 qKz I hN hi hx r (λs' I' _=>h s' I') hf
theorem Inv.call'(I:Inv X aB σ H s)(ho:s'.os=s.os)(u:Un (frs X.stack) ch H H' s.heap s'.heap)(hok:HOk X.prog X.w H' s'.heap)(hg:AllBare s'.gens)
  (hch:∀b∈ch,(b∈X.ex\/X.s₀.heap.objs.size<=b)/\b≠X.env.locals/\(∀x c,X.env.cells.lookup x=some c->c≠b)/\∀p∈X.pn++aB,p.1≠b):Inv X aB σ H' s':=by
 obtain⟨h',g',d',t',o'⟩:=s';have e:o'=s.os:=ho;subst e;exact I.call (g':=g') (t':=t') (d':=d') u hok hg hch
end
abbrev XK:=Value->Option Addr->Hp->Prop
abbrev St:=List (Option V)
abbrev VK:=V->Hp->Prop
abbrev TE:=St->Hp->VK->Prop
abbrev TT:=St->Hp->(Bool->Hp->Prop)->Prop
abbrev TA:=St->Hp->(List V->Hp->Prop)->Prop
structure Ends where
 nx:St->Hp->Prop
 rt:VK
 bk:St->Hp->Prop:=λ_ _=>False
 ct:St->Hp->Prop:=λ_ _=>False
abbrev TS:=Ends->St->Hp->Prop
def EP(X:Cx)(aB:List (Addr×Obj))(σ:St)(Q:VK)(u:Value)(s':Shared):Prop:=∃v H',Inv X aB σ H' s'/\qDa v u/\Q v H'
def TP(X:Cx)(aB:List (Addr×Obj))(σ:St)(Q:Bool->Hp->Prop)(b:Bool)(s':Shared):Prop:=∃H',Inv X aB σ H' s'/\Q b H'
def AP(X:Cx)(aB:List (Addr×Obj))(σ:St)(Q:List V->Hp->Prop)(us:List Value)(s':Shared):Prop:=∃vs H',Inv X aB σ H' s'/\qBn vs us/\Q vs H'
def SP(X:Cx)(aB:List (Addr×Obj))(D:Ends)(f:Flow)(s':Shared):Prop :=
 match f with
 |.next=>∃σ' H',Inv X aB σ' H' s'/\D.nx σ' H'
 |.brk=>∃σ' H',Inv X aB σ' H' s'/\D.bk σ' H'
 |.cont=>∃σ' H',Inv X aB σ' H' s'/\D.ct σ' H'
 |.ret u=>∃v σ' H',Inv X aB σ' H' s'/\qDa v u/\D.rt v H'
def PE(X:Cx)(e:Expr)(t:TE):Prop :=
 ∀(aB:List (Addr×Obj)) (s:Shared) (σ:St) (H:Hp) (Q:VK),Inv X aB σ H s->t σ H Q->wpAny (model X.prog X.w) X.A (eval e X.env) (EP X aB σ Q) X.xe s
def PT(X:Cx)(e:Expr)(t:TT):Prop :=
 ∀(aB:List (Addr×Obj)) (s:Shared) (σ:St) (H:Hp) (Q:Bool->Hp->Prop),Inv X aB σ H s->t σ H Q->wpAny (model X.prog X.w) X.A (isTrue e X.env (eval e X.env)) (TP X aB σ Q) X.xe s
def PW(X:Cx)(e:Expr)(t:TT):Prop :=
 ∀(whole:Sem Value) (aB:List (Addr×Obj)) (s:Shared) (σ:St) (H:Hp) (Q:Bool->Hp->Prop),Inv X aB σ H s->t σ H Q->wpAny (model X.prog X.w) X.A (isTrue e X.env whole) (TP X aB σ Q) X.xe s
theorem PW.pt(h:PW X e t):PT X e t:=h _
def PA(X:Cx)(es:List Expr)(t:TA):Prop :=
 ∀(pos:Pos) (aB:List (Addr×Obj)) (s:Shared) (σ:St) (H:Hp) (Q:List V->Hp->Prop),Inv X aB σ H s->t σ H Q->wpAny (model X.prog X.w) X.A (spliced (backTo pos (starEach es X.env))) (AP X aB σ Q) X.xe s
def PS(X:Cx)(st:Stmt)(t:TS):Prop :=
 ∀(aB:List (Addr×Obj)) (s:Shared) (σ:St) (H:Hp) (D:Ends),Inv X aB σ H s->t D σ H->wpAny (model X.prog X.w) X.A (exec st X.env) (SP X aB D) X.xe s
def PSs(X:Cx)(st:List Stmt)(t:TS):Prop :=
 ∀(aB:List (Addr×Obj)) (s:Shared) (σ:St) (H:Hp) (D:Ends),Inv X aB σ H s->t D σ H->wpAny (model X.prog X.w) X.A (execs st X.env) (SP X aB D) X.xe s
theorem thn(h:wpAny M A t Q E s)(hQ:∀a s,Q a s->Q' a s):wpAny M A t Q' E s:=hEu h hQ λ_ _ x=>x
section
variable{X:Cx}
def qRe(i:Nat):TE:=λσ H Q=>∃v,σ[i]?=some (some v)/\Q v H
def tC(v:V):TE:=λ_ H Q=>Q v H
theorem zCs(hN:X.N[i]?=some x)(hv:Vis X.env.scope x)(hd:(x == ("__debug__" : Str))=false:=by decide)(hcd:(x == ("__classdict__" : Str))=false:=by decide):PE X (.Name x pos) (qRe i):=by
 intro aB s σ H Q I h;obtain⟨v,e,h⟩:=h;obtain⟨m,hn,hl⟩:=I.loc;obtain⟨u,r,l⟩:=hl i x v hN e hv;have fin:EP X aB σ Q u s:=⟨v,H,I,r,h⟩;rcases l with ⟨hk,hm⟩|⟨hk,c,hc,hcell⟩
 ·exact wpAny_Name (wpAny_loadName_local I.ok.kind hk hn hm fin) hd
 ·rcases hk with hk|hk
  ·exact wpAny_Name (wpAny_loadName_cell I.ok.kind hk hc hcell fin) hd
  ·exact wpAny_Name (wpAny_loadName_free I.ok.kind hk hc hcell fin hcd) hd
theorem qAb{i j pos}:PE X (.Constant (.int i) j pos) (tC (.int i)):=λ_ _ _ H _ I h=>wpAny_Constant_int ⟨.int i,H,I.tok _,⟨_,rfl⟩,h⟩
theorem qE5{b j pos}:PE X (.Constant (.bool b) j pos) (tC (.bl b)):=λ_ _ _ H _ I h=>Constant_bool ⟨.bl b,H,I,rfl,h⟩
theorem qEu{x j pos}:PE X (.Constant (.str x) j pos) (tC (.str x)):=λ_ _ _ H _ I h=>Calls.Constant_str ⟨.str x,H,I.tok _,⟨_,rfl⟩,h⟩
def Gl(X:Cx)(x:Str):Prop:=X.env.kindOf x=some .globalImplicit
theorem zA4(I:Inv X aB σ H s)(hg:Gl X x)(hm:X.mg x=some u)(h:Q u s)
  (hd:(x == ("__debug__" : Str))=false:=by decide):wpAny (model X.prog X.w) X.A (eval (.Name x pos) X.env) Q E s :=
 Calls.Name_function_global I.ok.kind hg (Calls.loadGlobal_global (by rw[I.ok.glob];exact I.mod.glob.keeps I.bk) hm h) hd
theorem qEw(I:Inv X aB σ H s)(hg:Gl X x)(hm:X.mg x=none)(hv:bootBuiltins x=some u)(h:Q u s)
  (hn:x≠"__name__":=by decide) (hd:(x == ("__debug__" : Str))=false:=by decide):wpAny (model X.prog X.w) X.A (eval (.Name x pos) X.env) Q E s:=by
 obtain⟨mb,h1,h2⟩:=I.mod.blt;exact Calls.Name_function_global I.ok.kind hg (Calls.loadGlobal_builtin (by rw[I.ok.glob];exact I.mod.glob.keeps I.bk) hm (by rw[I.ok.blt];exact h1.keeps I.bk) ((h2 x hn).trans hv) h) hd
theorem qIa(hg:Gl X x)(hm:X.mg x=none)(hv:bootBuiltins x=some u)(r:qDa v u)(hn:x≠"__name__":=by decide)(hd:(x == ("__debug__" : Str))=false:=by decide):PE X (.Name x pos) (tC v) :=
 λ_ _ _ H _ I h=>qEw I hg hm hv ⟨v,H,I,r,h⟩ hn hd
variable{a b:Expr}{ta tb:TE}{pos:Pos}
def tB(t:TE):TT:=λσ H Q=>t σ H λx H1=>∃c,x = .bl c/\Q c H1
theorem qDz(h:PE X e t)(he:∀whole,isTrue e X.env whole=(do let v ← whole;standAt e.pos;holding [v] (truthy v)):=by intro _;rfl):PT X e (tB t):=by
 intro aB s σ H Q I hw;refine isTrue_plain (thn (h aB s σ H _ I hw) λv s1 ⟨x,H1,I1,r1,q1⟩=>?_) (he _);obtain⟨d,rfl,q⟩:=q1;cases r1;exact hEw ⟨H1,I1,q⟩
variable{tA tB':TT}{rest:List Expr}
def zFu(t u:TT):TT:=λσ H Q=>t σ H λc H1=>if c=true then u σ H1 Q else Q false H1
def tOr(t u:TT):TT:=λσ H Q=>t σ H λc H1=>if c=true then Q true H1 else u σ H1 Q
def zFn(t:TT):TT:=λσ H Q=>t σ H λc H1=>Q (!c) H1
theorem qH7(ha:PT X a tA):PW X (.BoolOp .And [a] pos) tA:=by
 intro wh aB s σ H Q I h;refine isTrue_and (thn (ha aB s σ H Q I h) λc s1 e=>?_);cases c with
 |true=>exact isTrue_and_nil e
 |false=>exact e
theorem qJb(ha:PT X a tA):PW X (.BoolOp .Or [a] pos) tA:=by
 intro wh aB s σ H Q I h;refine isTrue_or (thn (ha aB s σ H Q I h) λc s1 e=>?_);cases c with
 |false=>exact isTrue_or_nil e
 |true=>exact e
theorem qLd(ha:PT X a tA)(hb:PW X (.BoolOp .And (b :: rest) pos) tB'):PW X (.BoolOp .And (a :: b :: rest) pos) (zFu tA tB'):=by
 intro wh aB s σ H Q I h;refine isTrue_and (thn (ha aB s σ H _ I h) λc s1 ⟨H1,I1,q1⟩=>?_);cases c with
 |true=>exact hb wh aB s1 σ H1 Q I1 q1
 |false=>exact⟨H1,I1,q1⟩
theorem qLc(ha:PT X a tA)(hb:PW X (.BoolOp .Or (b :: rest) pos) tB'):PW X (.BoolOp .Or (a :: b :: rest) pos) (tOr tA tB'):=by
 intro wh aB s σ H Q I h;refine isTrue_or (thn (ha aB s σ H _ I h) λc s1 ⟨H1,I1,q1⟩=>?_);cases c with
 |true=>exact⟨H1,I1,q1⟩
 |false=>exact hb wh aB s1 σ H1 Q I1 q1
theorem qGy(ha:PT X a tA):PT X (.UnaryOp .Not a pos) (zFn tA):=by
 intro aB s σ H Q I h;exact isTrue_not (ha aB s σ H (λc H1=>Q (!c) H1) I h)
def zEc(ta tb:TE):TE:=λσ H Q=>ta σ H λx H1=>∃c,x = .bl c/\if c=true then tb σ H1 Q else Q (.bl false) H1
def zD7(ta:TE):TE:=λσ H Q=>ta σ H λx H1=>∃c,x = .bl c/\Q (.bl (!c)) H1
theorem qO5{op}(h:PE X a t):PE X (.BoolOp op [a] pos) t:=λaB s σ H Q I hw=>BoolOp_one (h aB s σ H Q I hw)
theorem qLh(ha:PE X a ta)(hb:PE X (.BoolOp .And (b :: rest) pos) tb):PE X (.BoolOp .And (a :: b :: rest) pos) (zEc ta tb):=by
 intro aB s σ H Q I h;refine BoolOp_and (thn (ha aB s σ H _ I h) λv s1 ⟨x,H1,I1,r1,q1⟩=>?_);obtain⟨c,rfl,q1⟩:=q1;cases r1;refine hEw ?_;cases c with
 |true=>exact hb aB s1 σ H1 Q I1 q1
 |false=>exact⟨.bl false,H1,I1,rfl,q1⟩
theorem qX6(ha:PE X a ta):PE X (.UnaryOp .Not a pos) (zD7 ta):=by
 intro aB s σ H Q I h;refine UnaryOp_ (thn (ha aB s σ H _ I h) λv s1 ⟨x,H1,I1,r1,q1⟩=>?_);obtain⟨c,rfl,q1⟩:=q1;cases r1;exact not_of (hEw ⟨.bl (!c),H1,I1,rfl,q1⟩)
def tIf(t:TT)(ta tb:TE):TE:=λσ H Q=>t σ H λc H1=>if c=true then ta σ H1 Q else tb σ H1 Q
theorem qEl(hc:PT X c tA)(ha:PE X a ta)(hb:PE X b tb):PE X (.IfExp c a b pos) (tIf tA ta tb):=by
 intro aB s σ H Q I h;refine wpAny_IfExp (thn (hc aB s σ H _ I h) λd s1 ⟨H1,I1,q1⟩=>?_);cases d with
 |true=>exact ha aB s1 σ H1 Q I1 q1
 |false=>exact hb aB s1 σ H1 Q I1 q1
end
def SqL(K:PySem.W.Frag)(H:Hp)(a:Addr)(xs:List V):Prop :=
 Rd H a (.lst xs) \/
  ∃(o:Obj) (its:Array Value) (n:Nat),K.lookup a=some o/\o.cls = .type "list"/\o.dict=none/\o.data = .seq its n/\its.size<=sizeLine/\qBn xs its.toList
def SqT(K:PySem.W.Frag)(H:Hp)(a:Addr)(xs:List V):Prop :=
 Rd H a (.tup xs) \/
  ∃(o:Obj) (its:Array Value) (n:Nat),K.lookup a=some o/\o.cls = .type "tuple"/\o.data = .seq its n/\its.size<=sizeLine/\qBn xs its.toList
noncomputable def zF5:Value->Option V
 |.none=>some .non
 |.bool b=>some (.bl b)
 |.int i _=>some (.int i)
 |.str x _=>some (.str x)
 |.bytes b _=>some (.byt b)
 |.float b _=>some (.flt b)
 |.ref a=>some (.ref a)
 |.type n=>some (.ty n)
 |_=>none
theorem qDa.abs(r:qDa x u):zF5 u=some x:=by
 cases x with
 |non=>cases r;rfl
 |bl _=>cases r;rfl
 |int _=>obtain⟨t,rfl⟩:=r;rfl
 |str _=>obtain⟨t,rfl⟩:=r;rfl
 |byt _=>obtain⟨t,rfl⟩:=r;rfl
 |flt _=>obtain⟨t,rfl⟩:=r;rfl
 |ref _=>cases r;rfl
 |ty _=>cases r;rfl
theorem qDa.inj(r:qDa x u)(q:qDa y u):x=y:=hAq (r.abs.symm.trans q.abs)
theorem qBn.inj:∀ {xs ys:List V} {us:List Value},qBn xs us->qBn ys us->xs=ys
 |_,_,_,.nil,.nil=>rfl
 |_,_,_,.cons r t,.cons r' t'=>by rw[r.inj r',qBn.inj t t']
section
variable{X:Cx}{aB:List (Addr×Obj)}{σ:St}{H:Hp}{s:Shared}{a:Addr}{xs ys:List V}
theorem SqL.of{K:PySem.W.Frag}(h:H a=some (.lst xs)):SqL K H a xs:=.inl (.inl h)
theorem SqT.of{K:PySem.W.Frag}(h:H a=some (.tup xs)):SqT K H a xs:=.inl (.inl h)
theorem Inv.list(I:Inv X aB σ H s)(h:SqL X.K H a xs):∃its:List Value,qBn xs its/\PlainL s.heap a its.toArray/\xs.length<=sizeLine:=by
 rcases h with h|⟨o,its,n,hk,hc,hd,hs,hz,r⟩
 ·obtain⟨z,its,n,r,e⟩:=h.ok I.hok;exact⟨its,r,⟨_,n,e,rfl,rfl,rfl⟩,z⟩
 ·refine⟨its.toList,r,⟨o,n,I.kIn a o hk,hc,hd,by simpa using hs⟩,?_⟩;have e:=r.length;simp only[hBy]at e;omega
theorem Inv.tuple(I:Inv X aB σ H s)(h:SqT X.K H a xs):∃its:List Value,qBn xs its/\IsTup s.heap a its.toArray/\xs.length<=sizeLine:=by
 rcases h with h|⟨o,its,n,hk,hc,hs,hz,r⟩
 ·obtain⟨z,its,r,p⟩:=h.ok I.hok;exact⟨its,r,p,z⟩
 ·refine⟨its.toList,r,⟨o,I.kIn a o hk,hc,n,by simpa using hs⟩,?_⟩;have e:=r.length;simp only[hBy]at e;omega
theorem Inv.list_inj(I:Inv X aB σ H s)(h:SqL X.K H a xs)(h':SqL X.K H a ys):xs=ys:=by
 obtain⟨its,r,⟨o,n,e,_,_,d⟩,_⟩:=I.list h;obtain⟨its',r',⟨o',n',e',_,_,d'⟩,_⟩:=I.list h';rw[e]at e';cases e';rw[d]at d';injection d' with d1 _
 have:its=its':=by simpa using congrArg Array.toList d1
 subst this;exact r.inj r'
theorem Inv.tuple_inj(I:Inv X aB σ H s)(h:SqT X.K H a xs)(h':SqT X.K H a ys):xs=ys:=by
 obtain⟨its,r,⟨o,e,_,n,d⟩,_⟩:=I.tuple h;obtain⟨its',r',⟨o',e',_,n',d'⟩,_⟩:=I.tuple h';rw[e]at e';cases e';rw[d]at d';injection d' with d1 _
 have:its=its':=by simpa using congrArg Array.toList d1
 subst this;exact r.inj r'
end
noncomputable abbrev Cx.wish(X:Cx)(E:Value->Shared->Prop):Cx:={ X with xe:=E }
noncomputable abbrev Cx.nox(X:Cx):Cx:=X.wish λ_ _=>False
theorem Cx.Ok.wish{X:Cx}(ok:X.Ok)(E:Value->Shared->Prop):(X.wish E).Ok :=
 ⟨ok.mod,ok.kind,ok.glob,ok.blt,ok.above,ok.inj,ok.has,ok.cab,ok.hd,ok.frames,ok.stk,ok.exf,ok.bs,ok.bsz,ok.noex,ok.exfs,ok.funs,ok.frf⟩
theorem Cx.Ok.unwish{X:Cx}{E:Value->Shared->Prop}(ok:(X.wish E).Ok):X.Ok :=
 ⟨ok.mod,ok.kind,ok.glob,ok.blt,ok.above,ok.inj,ok.has,ok.cab,ok.hd,ok.frames,ok.stk,ok.exf,ok.bs,ok.bsz,ok.noex,ok.exfs,ok.funs,ok.frf⟩
section
variable{X:Cx}{aB:List (Addr×Obj)}{σ:St}{H:Hp}{s:Shared}{E:Value->Shared->Prop}
theorem Inv.wish(I:Inv X aB σ H s)(E:Value->Shared->Prop):Inv (X.wish E) aB σ H s:=⟨I.ok.wish E,I.os,I.bare,I.base,I.loc,I.cell,I.free,I.freeC,I.pin,I.hok,I.len⟩
theorem Inv.unwish(I:Inv (X.wish E) aB σ H s):Inv X aB σ H s:=⟨I.ok.unwish,I.os,I.bare,I.base,I.loc,I.cell,I.free,I.freeC,I.pin,I.hok,I.len⟩
theorem SP.unwish(h:SP (X.wish E) aB D f s'):SP X aB D f s':=by
 cases f with
 |next=>obtain⟨σ',H',I,q⟩:=h;exact⟨σ',H',I.unwish,q⟩
 |brk=>obtain⟨σ',H',I,q⟩:=h;exact⟨σ',H',I.unwish,q⟩
 |cont=>obtain⟨σ',H',I,q⟩:=h;exact⟨σ',H',I.unwish,q⟩
 |ret u=>obtain⟨v,σ',H',I,r,q⟩:=h;exact⟨v,σ',H',I.unwish,r,q⟩
theorem PSs.nox{st:List Stmt}{t:TS}(h:PSs X.nox st t):PSs X st t:=λaB s σ H D I hw =>
 hEu (h aB s σ H D (I.wish _) hw) (λ_ _ q=>q.unwish) λ_ _ z=>False.elim z
end
section
variable{X:Cx}{st:Stmt}{rest:List Stmt}{t u:TS}{e:Expr}{te:TE}{pos:Pos}
def zD8:TS:=λD σ H=>D.nx σ H
def zFl(t u:TS):TS:=λD σ H=>t { D with nx:=u D } σ H
theorem qAx:PSs X [] zD8:=λ_ _ σ H _ I h=>hFr ⟨σ,H,I,h⟩
theorem qAa(h1:PS X st t)(h2:PSs X rest u):PSs X (st :: rest) (zFl t u):=by
 intro aB s σ H D I h;refine wpAny_execs_cons (thn (h1 aB s σ H { D with nx:=u D } I h) λf s1 q=>?_);cases f with
 |next =>
  obtain⟨σ',H',I',q⟩:=q;exact h2 aB s1 σ' H' D I' q
 |ret v=>exact q
 |brk=>exact q
 |cont=>exact q
theorem qAd(h1:PS X st t):PSs X [st] t:=by
 intro aB s σ H D I h;refine wpAny_execs_cons (thn (h1 aB s σ H D I h) λf s1 q=>?_);cases f with
 |next=>exact hFr q
 |ret v=>exact q
 |brk=>exact q
 |cont=>exact q
theorem Inv.quiet(I:Inv X aB σ H s):interactive X.env=false:=by simp[interactive,I.ok.kind]
def zEa(te:TE):TS:=λD σ H=>te σ H λ_ H1=>D.nx σ H1
theorem qCd(he:PE X e te)(hs:swapsWith e none pos.line X.env=pure false:=by rfl):PS X (.Expr e pos) (zEa te):=by
 intro aB s σ H D I h;exact wpAny_Expr_any (thn (he aB s σ H _ I h) λv s1 ⟨x,H1,I1,r1,q1⟩=>⟨σ,H1,I1,q1⟩) I.quiet hs
def zFm(te:TE):TS:=λD σ H=>te σ H D.rt
theorem qAt(he:PE X e te):PS X (.Return (some e) pos) (zFm te):=by
 intro aB s σ H D I h;exact wpAny_Return_some (thn (he aB s σ H _ I h) λv s1 ⟨x,H1,I1,r1,q1⟩=>⟨x,σ,H1,I1,r1,q1⟩)
def zFp(c:TT)(t u:TS):TS:=λD σ H=>c σ H λb H1=>if b=true then t D σ H1 else u D σ H1
theorem qBj(hc:PT X c tc)(ha:PSs X a t)(hb:PSs X b u):PS X (.If c a b pos) (zFp tc t u):=by
 intro aB s σ H D I h;refine wpAny_If (thn (hc aB s σ H _ I h) λd s1 ⟨H1,I1,q1⟩=>?_);cases d with
 |true=>exact ha aB s1 σ H1 D I1 q1
 |false=>exact hb aB s1 σ H1 D I1 q1
end
abbrev TG:=V->St->Hp->(St->Hp->Prop)->Prop
abbrev TGs:=List V->St->Hp->(St->Hp->Prop)->Prop
def PG(X:Cx)(target:Expr)(t:TG):Prop :=
 ∀(aB:List (Addr×Obj)) (s:Shared) (σ:St) (H:Hp) (v:V) (u:Value) (Q:St->Hp->Prop),Inv X aB σ H s->qDa v u->t v σ H Q ->
  wpAny (model X.prog X.w) X.A (assign target X.env u) (λ_ s'=>∃σ' H',Inv X aB σ' H' s'/\Q σ' H') X.xe s
def PGs(X:Cx)(ts:List Expr)(t:TGs):Prop :=
 ∀(aB:List (Addr×Obj)) (s:Shared) (σ:St) (H:Hp) (vs:List V) (us:List Value) (Q:St->Hp->Prop),Inv X aB σ H s->qBn vs us->t vs σ H Q ->
  wpAny (model X.prog X.w) X.A (assignInOrder ((assignEach ts X.env).map (·.2)) us) (λ_ s'=>∃σ' H',Inv X aB σ' H' s'/\Q σ' H') X.xe s
abbrev TIp:=V->V->Hp->VK->Prop
def PIp(X:Cx)(op:Operator)(t:TIp):Prop :=
 ∀(aB:List (Addr×Obj)) (s:Shared) (σ:St) (H:Hp) (x y:V) (v u:Value) (Q:VK),Inv X aB σ H s->qDa x v->qDa y u->t x y H Q ->
  wpAny (model X.prog X.w) X.A (inplaceOp op v u) (EP X aB σ Q) X.xe s
section
variable{X:Cx}{pos:Pos}
def qNs(i:Nat):TG:=λv σ H Q=>Q (σ.set i (some v)) H
theorem qAm(hN:X.N.Nodup)(hi:X.N[i]?=some x)(hx:Loc X.env.scope x)(hf:X.fn x=true\/X.env.scope.names.lookup x=some .local:=by first|exact .inl rfl|exact .inr rfl|assumption):PG X (.Name x pos) (qNs i):=by
 intro aB s σ H v u Q I r h;exact wpAny_assign_Name (qJv I hN hi hx r (λs' I'=>⟨_,H,I',h⟩) hf)
def zF3:TGs:=λvs σ H Q=>vs=[]/\Q σ H
def zEz(t:TG)(u:TGs):TGs:=λvs σ H Q=>∃v r,vs=v :: r/\t v σ H λσ' H'=>u r σ' H' Q
theorem qBc:PGs X [] zF3:=by
 intro aB s σ H vs us Q I r h;obtain⟨e,h⟩:=h;subst e;cases r;exact assignInOrder_nil ⟨σ,H,I,h⟩
theorem qAs(h1:PG X e t)(h2:PGs X es u)
  (hs:(assignEach (e :: es) X.env).map (·.2)=assign e X.env :: (assignEach es X.env).map (·.2):=by rfl):PGs X (e :: es) (zEz t u):=by
 intro aB s σ H vs us Q I r h;obtain⟨v,vr,e1,h⟩:=h;subst e1;cases r with
 |cons r rr =>
  rw[hs];refine assignInOrder_cons (thn (h1 aB s σ H _ _ _ I r h) λ_ s1 ⟨σ1,H1,I1,q1⟩=>?_);exact h2 aB s1 σ1 H1 _ _ Q I1 rr q1
def zBe(K:PySem.W.Frag)(n:Nat)(t:TGs):TG:=λv σ H Q=>∃a xs,v = .ref a/\SqT K H a xs/\xs.length=n/\t xs σ H Q
theorem qB0(hc:X.calm=true)(h:PGs X es t)
  (hn:(assignEach es X.env).length=n:=by rfl) (hst:(assignEach es X.env).findIdx? (·.1)=none:=by rfl):PG X (.Tuple es k pos) (zBe X.K n t):=by
 intro aB s σ H v u Q I r hw;obtain⟨a,xs,e1,hq,hl,hw⟩:=hw;subst e1;cases r;obtain⟨its,rv,ht,hz⟩:=I.tuple hq;refine assign_Tuple_tuple (I.ok.hd hc) ht (by simp[hn,<-hl,rv.length]) hst λh' hx=>?_
 have I1:Inv X aB σ H { s with heap:=h' }:=I.kept (t':=s.toks) λb o e=>hx b o (hAu (Heap.lt_size e)) e
 exact h aB _ σ H xs _ Q I1 (by simpa using rv) hw
def zB4(te:TE)(g:TG):TS:=λD σ H=>te σ H λx H1=>g x σ H1 D.nx
theorem qGz(he:PE X e te)(hg:PG X tg g)(hs:swapsWithSole [tg] e pos.line X.env=pure false:=by rfl)(hw:swappedStores [tg] e X.env=pure none:=by rfl)
  (h1:(assignEach [tg] X.env).map (·.2)=[assign tg X.env]:=by rfl):PS X (.Assign [tg] e pos) (zB4 te g):=by
 intro aB s σ H D I h;refine wpAny_Assign_stores (thn (he aB s σ H _ I h) λv s1 ⟨x,H1,I1,r1,q1⟩=>?_) hs hw;rw[h1];exact thn (hg aB s1 σ H1 x v _ I1 r1 q1) λ_ s2 q=>q
theorem qAj(hN:X.N.Nodup)(hi:X.N[i]?=some x)(hx:Loc X.env.scope x)(he:PE X e te)(hs:swapsWith e (some (.Name x pos')) pos.line X.env=pure false:=by rfl)(hf:X.fn x=true\/X.env.scope.names.lookup x=some .local:=by first|exact .inl rfl|exact .inr rfl|assumption) :
  PS X (.Assign [.Name x pos'] e pos) (zB4 te (qNs i)):=by
 intro aB s σ H D I h;refine wpAny_Assign_Name (thn (he aB s σ H _ I h) λv s1 ⟨y,H1,I1,r1,q1⟩=>?_) hs;exact qJv I1 hN hi hx r1 (λs2 I2=>⟨_,H1,I2,q1⟩) hf
def zFt(i:Nat)(te:TE)(ti:TIp):TS:=λD σ H=>∃x,σ[i]?=some (some x)/\te σ H λy H1=>ti x y H1 λz H2=>D.nx (σ.set i (some z)) H2
theorem qLe(hN:X.N.Nodup)(hi:X.N[i]?=some x)(hx:Loc X.env.scope x)(he:PE X e te)(ho:PIp X op ti)(hf:X.fn x=true\/X.env.scope.names.lookup x=some .local:=by first|exact .inl rfl|exact .inr rfl|assumption) :
  PS X (.AugAssign (.Name x pos') op e pos) (zFt i te ti):=by
 intro aB s σ H D I h;obtain⟨v,e1,h⟩:=h;obtain⟨m,hn,hl⟩:=I.loc;have vis:Vis X.env.scope x:=by rcases hx with k|k;exact .inl k;exact .inr (.inl k)
 obtain⟨u,r,l⟩:=hl i x v hi e1 vis;refine wpAny_AugAssign_Name ?_;have go:wpAny (model X.prog X.w) X.A (eval e X.env) (λw s₂=>wpAny (model X.prog X.w) X.A (inplaceOp op u w) (λr s₃=>wpAny (model X.prog X.w) X.A (storeName X.env x r) (λ_=>SP X aB D .next) X.xe s₃) X.xe s₂) X.xe s:=by
  refine thn (he aB s σ H _ I h) λw s1 ⟨y,H1,I1,r1,q1⟩=>?_
  refine thn (ho aB s1 σ H1 v y u w _ I1 r r1 q1) λz s2 ⟨zv,H2,I2,r2,q2⟩=>?_
  exact qJv I2 hN hi hx r2 (λs3 I3=>⟨_,H2,I3,q2⟩) hf
 rcases l with ⟨hk,hm⟩|⟨hk,c,hc,hcell⟩
 ·exact wpAny_loadName_local I.ok.kind hk hn hm go
 ·rcases hk with hk|hk
  ·exact wpAny_loadName_cell I.ok.kind hk hc hcell go
  ·rcases hx with k|k
   ·have:X.env.scope.names.lookup x=some .free:=hk;rw[k]at this;cases this
   ·have:X.env.scope.names.lookup x=some .free:=hk;rw[k]at this;cases this
def ipI(f:Int->Int->Int):TIp:=λx y H Q=>∃i j,x = .int i/\y = .int j/\Q (.int (f i j)) H
theorem qPo:PIp X .Add (ipI λi j=>i+j):=by
 intro aB s σ H x y v u Q I r1 r2 h;obtain⟨i,j,e1,e2,q⟩:=h;subst e1;subst e2;obtain⟨t,rfl⟩:=r1;obtain⟨t',rfl⟩:=r2;exact iadd_int ⟨.int _,H,I.tok _,⟨_,rfl⟩,q⟩
theorem zDe:PIp X .Sub (ipI λi j=>i-j):=by
 intro aB s σ H x y v u Q I r1 r2 h;obtain⟨i,j,e1,e2,q⟩:=h;subst e1;subst e2;obtain⟨t,rfl⟩:=r1;obtain⟨t',rfl⟩:=r2;exact isub_int ⟨.int _,H,I.tok _,⟨_,rfl⟩,q⟩
end
section
variable{X:Cx}{pos:Pos}
def zB0(c:TT)(tb:TS):TS:=λD σ H=>∃W:Nat->St->Hp->Prop,(∃m,W m σ H)/\∀m σ H,W m σ H ->
 c σ H λb H1=>if b=true then ∃N:St->Hp->Prop,(∀σ' H',N σ' H'->∃m',m'<m/\W m' σ' H')/\tb { D with nx:=N,ct:=N,bk:=D.nx } σ H1 else D.nx σ H1
theorem qKd(hp:PassesOwn (model X.prog X.w) X.A X.env X.xe)(hc:PT X c tc)(hb:PSs X body tb):PS X (.While c body [] pos) (zB0 tc tb):=by
 intro aB s σ H D I h;obtain⟨W,⟨m0,w0⟩,turn⟩:=h;refine wpAny_While (codeAny_whileLoop (λn s'=>∃σ' H',Inv X aB σ' H' s'/\W n σ' H') ?_ m0 ⟨σ,H,I,w0⟩);rintro n s1 ⟨σ1,H1,I1,w1⟩;refine hF1 hp (thn (hc aB s1 σ1 H1 _ I1 (turn n σ1 H1 w1)) λb s2 ⟨H2,I2,q2⟩=>?_);cases b with
 |true =>
  obtain⟨N,hN,q2⟩:=q2;rw[hEn rfl];refine hF1 hp (thn (hb aB s2 σ1 H2 _ I2 q2) λf s3 q3=>?_);cases f with
  |next =>
   obtain⟨σ3,H3,I3,n3⟩:=q3;obtain⟨m',hm,w3⟩:=hN σ3 H3 n3;exact⟨m',hm,σ3,H3,I3,w3⟩
  |cont =>
   obtain⟨σ3,H3,I3,n3⟩:=q3;obtain⟨m',hm,w3⟩:=hN σ3 H3 n3;exact⟨m',hm,σ3,H3,I3,w3⟩
  |brk=>exact q3
  |ret v=>exact q3
 |false =>
  rw[hEm hAz];exact hFr ⟨σ1,H2,I2,q2⟩
end
structure It where
 go:Nat->Hp->Prop
 yld:Nat->Hp->V->Hp->Prop
 stop:Nat->Hp->Prop
def qQ3(X:Cx)(aB:List (Addr×Obj))(H:Hp)(b:Addr):Prop :=
 H b=none/\b≠X.env.locals/\b∉X.fs/\(b∈X.ex\/X.s₀.heap.objs.size<=b)/\(∀x c,X.env.cells.lookup x=some c->c≠b)/\∀p∈X.pn++aB,p.1≠b
theorem Inv.fpOk(I:Inv X aB σ H s)(hb:s.heap.objs.size<=b)(hn:H' b=none):qQ3 X aB H' b:=by
 refine⟨hn,hCm (hAn I.lt hb),I.nofs hb,.inr (hAw I.sz hb),λx c e z=>?_,λp hp z=>?_⟩
 ·obtain⟨v,q⟩:=I.cell x c e;exact absurd (hAn q.lt (by rw[z];exact hb)) (hD0 _)
 ·exact absurd (hAn (Heap.lt_size (I.pin p hp).1) (by rw[z];exact hb)) (hD0 _)
structure Turn(P:Program)(w:World)(K:PySem.W.Frag)(tg:Expr)(J:It)(fp:List Addr)(it:Addr)(tn:Nat->Heap->Prop)(c:Cx->Prop:=λX=>X.calm=true):Prop where
 mem:it∈fp
 obj:∀i h,tn i h->∀b∈fp,∃o,h.get? b=some o/\∀v,o.data≠.cell v
 keep:∀i h h',tn i h->(∀b∈fp,∀o,h.get? b=some o->h'.get? b=some o)->tn i h'
 item:∀(X:Cx),X.prog=P->X.w=w->X.K=K->c X->∀(i:Nat) (aB:List (Addr×Obj)) (s:Shared) (σ:St) (H:Hp) (E:Value->Shared->Prop),Inv X aB σ H s->(∀b∈fp,qQ3 X aB H b)->tn i s.heap->J.go i H ->
  wpAny (model P w) X.A (pyNext (.ref it)) (λr s1=>∃u,r=some u /\
   wpAny (model P w) X.A (letOwnedTupleGo tg (.ref it) u) (λ_ s2=>∃x H',Inv X aB σ H' s2/\qDa x u/\J.yld i H x H'/\tn (i+1) s2.heap/\∀b∈fp,H' b=none) E s1) E s
 done:∀(X:Cx),X.prog=P->X.w=w->X.K=K->c X->∀(i:Nat) (aB:List (Addr×Obj)) (s:Shared) (σ:St) (H:Hp) (E:Value->Shared->Prop),Inv X aB σ H s->(∀b∈fp,qQ3 X aB H b)->tn i s.heap->J.stop i H ->
  wpAny (model P w) X.A (pyNext (.ref it)) (λr s1=>r=none/\Inv X aB σ H s1) E s
 self:∀(A:Around) (i:Nat) (s:Shared) (Q:Value->Shared->Prop) (E:Value->Shared->Prop),tn i s.heap->Q (.ref it) s->wpAny (model P w) A (pyIter (.ref it)) Q E s
abbrev TI:=St->Hp->(It->Hp->Prop)->Prop
def PIE(X:Cx)(aB:List (Addr×Obj))(σ:St)(tg:Expr)(R:It->Hp->Prop)(itv:Value)(s2:Shared):Prop :=
 ∃(it:Addr) (fp:List Addr) (tn:Nat->Heap->Prop) (J:It) (H':Hp),itv = .ref it/\Inv X aB σ H' s2/\Turn X.prog X.w X.K tg J fp it tn/\tn 0 s2.heap/\(∀b∈fp,qQ3 X aB H' b)/\R J H'
def PI(X:Cx)(tg iter:Expr)(wi:TI):Prop :=
 ∀(aB:List (Addr×Obj)) (s:Shared) (σ:St) (H:Hp) (R:It->Hp->Prop),Inv X aB σ H s->wi σ H R ->
  wpAny (model X.prog X.w) X.A (eval iter X.env) (λv s1=>wpAny (model X.prog X.w) X.A (pyIter v) (PIE X aB σ tg R) X.xe s1) X.xe s
theorem qWt(ho:s.heap.get? it=some o)(hc:o.cls = .type n)(hd:o.data = .fields vs)
  (hn:["enumerate","zip","dict_itemiterator","dict_reverseitemiterator","odict_iterator","itertools.zip_longest","itertools.pairwise"].contains n=false) (hQ:Q () s):wpAny M A (letOwnedTupleGo tg (.ref it) u) Q E s:=by
 unfold letOwnedTupleGo;cases tg <;> first
  |exact hEk hQ
  |(cases u <;> first
    |exact hEk hQ
    |(refine hEh (wpAny_load ho ?_);rw[hc,hd];show wpAny M A (if (["enumerate","zip","dict_itemiterator","dict_reverseitemiterator","odict_iterator","itertools.zip_longest","itertools.pairwise"].contains n && vs[0]? == some (rawInt _))=true then _ else _) Q E s;rw[hEm (by intro h;rw[hn,Bool.false_and]at h;cases h)];exact hEk hQ))
noncomputable def Itl(K:PySem.W.Frag)(a:Addr):It :=
 ⟨λi H=>∃xs x,SqL K H a xs/\xs[i]?=some x,λi H x H'=>H'=H/\∀xs,SqL K H a xs->xs[i]?=some x,λi H=>∃xs,SqL K H a xs/\xs.length<=i⟩
noncomputable def Itt(K:PySem.W.Frag)(a:Addr):It :=
 ⟨λi H=>∃xs x,SqT K H a xs/\xs[i]?=some x,λi H x H'=>H'=H/\∀xs,SqT K H a xs->xs[i]?=some x,λi H=>∃xs,SqT K H a xs/\xs.length<=i⟩
noncomputable def Itr(lo:Int)(n:Nat):It:=⟨λi _=>i<n,λi H x H'=>H'=H/\x = .int (lo+i),λi _=>n<=i⟩
theorem qQ9{P:Program}{w:World}{K:PySem.W.Frag}{tg:Expr}(a it:Addr):Turn P w K tg (Itl K a) [it] it (λi h=>h.IsListIter it a i) where
 mem:=by simp
 obj:=λi h st b hb=>by
  have e:b=it:=by simpa using hb
  subst e;obtain⟨o,e,c,d⟩:=st;exact⟨o,e,λv z=>by rw[d]at z;cases z⟩
 keep:=λi h h' st k=>st.at λo e=>k it (by simp) o e
 item:=by
  intro X hP hw hK hc i aB s σ H E I hf st hg;subst hP hw hK;obtain⟨xs,x,hq,hx⟩:=hg;obtain⟨its,rv,p,hz⟩:=I.list hq;obtain⟨u,hu,ru⟩:=rv.get hx;obtain⟨f0,f1,f2,f3,f4,f5⟩:=hf it (by simp);refine wpAny_pyNext_list_item st p.isList (x:=u) (by simpa using hu) λh' st' sb=>?_
  have I1:Inv X aB σ H { s with heap:=h' }:=I.turned (t':=s.toks) (λb o hb e=>(sb.2 b hb).trans e) f0 f1 f3 f4 f5;obtain⟨o,e,c,d⟩:=id st';exact⟨u,rfl,qWt (s:={ s with heap:=h' }) e c d (by decide) ⟨x,H,I1,ru,⟨rfl,λys hy=>by rw[I.list_inj hy hq];exact hx⟩,st',λb hb=>(hf b hb).1⟩⟩
 done:=by
  intro X hP hw hK hc i aB s σ H E I hf st hg;subst hP hw hK;obtain⟨xs,hq,hx⟩:=hg;obtain⟨its,rv,p,hz⟩:=I.list hq;obtain⟨f0,f1,f2,f3,f4,f5⟩:=hf it (by simp);have hl:=rv.length;exact wpAny_pyNext_list_end (I.ok.hd hc) st p.isList (by simp;omega) λh' eb=>⟨rfl,I.turned (t':=s.toks) (λb o hb e=>eb b o hb e) f0 f1 f3 f4 f5⟩
 self:=λ_ _ _ _ _ st h=>wpAny_pyIter_listiter st h
theorem qQg{P:Program}{w:World}{K:PySem.W.Frag}{tg:Expr}(a it:Addr):Turn P w K tg (Itt K a) [it] it (λi h=>h.IsTupleIter it a i) where
 mem:=by simp
 obj:=λi h st b hb=>by
  have e:b=it:=by simpa using hb
  subst e;obtain⟨o,e,c,d⟩:=st;exact⟨o,e,λv z=>by rw[d]at z;cases z⟩
 keep:=λi h h' st k=>st.at λo e=>k it (by simp) o e
 item:=by
  intro X hP hw hK hc i aB s σ H E I hf st hg;subst hP hw hK;obtain⟨xs,x,hq,hx⟩:=hg;obtain⟨its,rv,p,hz⟩:=I.tuple hq;obtain⟨u,hu,ru⟩:=rv.get hx;obtain⟨f0,f1,f2,f3,f4,f5⟩:=hf it (by simp);refine wpAny_pyNext_tuple_item st (show s.heap.IsTuple a its.toArray from p) (x:=u) (by simpa using hu) λh' st' sb=>?_
  have I1:Inv X aB σ H { s with heap:=h' }:=I.turned (t':=s.toks) (λb o hb e=>(sb.2 b hb).trans e) f0 f1 f3 f4 f5;obtain⟨o,e,c,d⟩:=id st';exact⟨u,rfl,qWt (s:={ s with heap:=h' }) e c d (by decide) ⟨x,H,I1,ru,⟨rfl,λys hy=>by rw[I.tuple_inj hy hq];exact hx⟩,st',λb hb=>(hf b hb).1⟩⟩
 done:=by
  intro X hP hw hK hc i aB s σ H E I hf st hg;subst hP hw hK;obtain⟨xs,hq,hx⟩:=hg;obtain⟨its,rv,p,hz⟩:=I.tuple hq;obtain⟨f0,f1,f2,f3,f4,f5⟩:=hf it (by simp);have hl:=rv.length;exact wpAny_pyNext_tuple_end (I.ok.hd hc) st (show s.heap.IsTuple a its.toArray from p) (by simp;omega) λh' eb=>⟨rfl,I.turned (t':=s.toks) (λb o hb e=>eb b o hb e) f0 f1 f3 f4 f5⟩
 self:=λ_ _ _ _ _ st h=>wpAny_pyIter_tupleiter st h
theorem qQh{P:Program}{w:World}{K:PySem.W.Frag}{tg:Expr}(it:Addr)(lo:Int)(n:Nat):Turn P w K tg (Itr lo n) [it] it (λi h=>IsRangeIter h it (lo+(i:Nat)*1) ((n:Int)-(i:Nat)) 1) where
 mem:=by simp
 obj:=λi h st b hb=>by
  have e:b=it:=by simpa using hb
  subst e;exact⟨_,st,λv z=>by
   have z':Data.fields _=Data.cell v:=z;cases z'⟩
 keep:=λi h h' st k=>k it (by simp) _ st
 item:=by
  intro X hP hw hK hc i aB s σ H E I hf st hg;subst hP hw hK;obtain⟨f0,f1,f2,f3,f4,f5⟩:=hf it (by simp);have W:=Walks.range (prog:=X.prog) (w:=X.w) (I.ok.hd hc) it lo 1 n;refine W.item i s _ _ hg st λv h' tk hv st' kk=>?_
  obtain⟨t,rfl⟩:=hv;have I1:Inv X aB σ H { s with heap:=h',toks:=tk }:=I.turned (λb o hb e=>kk b o (by simpa using hb) e) f0 f1 f3 f4 f5;refine⟨_,rfl,qWt (s:={ s with heap:=h',toks:=tk }) (n:="range_iterator") st' rfl rfl (by decide) ⟨.int (lo+i),H,I1,⟨t,?_⟩,⟨rfl,rfl⟩,st',λb hb=>(hf b hb).1⟩⟩;rw[Int.mul_one]
 done:=by
  intro X hP hw hK hc i aB s σ H E I hf st hg;subst hP hw hK;obtain⟨f0,f1,f2,f3,f4,f5⟩:=hf it (by simp);exact wpAny_pyNext_range_end (I.ok.hd hc) st (by have:n<=i:=hg;omega) λh' eb=>⟨rfl,I.turned (t':=s.toks) (λb o hb e=>eb b o hb e) f0 f1 f3 f4 f5⟩
 self:=λ_ _ _ _ _ st h=>wpAny_pyIter_rangeiter st h
section
variable{X:Cx}{tg:Expr}
def zBa(K:PySem.W.Frag)(tl:TE):TI:=λσ H R=>tl σ H λx H1=>∃a,x = .ref a/\(∃xs,SqL K H1 a xs)/\R (Itl K a) H1
def zF2(K:PySem.W.Frag)(tl:TE):TI:=λσ H R=>tl σ H λx H1=>∃a,x = .ref a/\(∃xs,SqT K H1 a xs)/\R (Itt K a) H1
theorem qAp{l:Expr}{tl:TE}(hl:PE X l tl):PI X tg l (zBa X.K tl):=by
 intro aB s σ H R I h;refine thn (hl aB s σ H _ I h) λv s1 ⟨x,H1,I1,r1,q1⟩=>?_
 obtain⟨a,e,⟨xs,hq⟩,q⟩:=q1;subst e;cases r1;obtain⟨its,rv,p,hz⟩:=I1.list hq;refine hFl p.isList ?_;refine⟨s1.heap.objs.size,[s1.heap.objs.size],_,_,H1,rfl,I1.kept (t':=s1.toks) λb o e=>Heap.get?_push_of_some _ e,qQ9 a _,⟨_,Heap.get?_push_size _ rfl,rfl,rfl⟩,λb hb=>?_,q⟩;have e:b=s1.heap.objs.size:=by simpa using hb
 subst e;exact I1.fpOk (hAa _) (I1.hok.fresh (hAa _))
theorem zCr{l:Expr}{tl:TE}(hl:PE X l tl):PI X tg l (zF2 X.K tl):=by
 intro aB s σ H R I h;refine thn (hl aB s σ H _ I h) λv s1 ⟨x,H1,I1,r1,q1⟩=>?_
 obtain⟨a,e,⟨xs,hq⟩,q⟩:=q1;subst e;cases r1;obtain⟨its,rv,p,hz⟩:=I1.tuple hq;refine wpAny_pyIter_tuple (show s1.heap.IsTuple a its.toArray from p) ?_;refine⟨s1.heap.objs.size,[s1.heap.objs.size],_,_,H1,rfl,I1.kept (t':=s1.toks) λb o e=>Heap.get?_push_of_some _ e,qQg a _,⟨_,Heap.get?_push_size _ rfl,rfl,rfl⟩,λb hb=>?_,q⟩;have e:b=s1.heap.objs.size:=by simpa using hb
 subst e;exact I1.fpOk (hAa _) (I1.hok.fresh (hAa _))
theorem qV2{aB:List (Addr×Obj)}{σ:St}{H:Hp}{s:Shared}{R:It->Hp->Prop}{E:Value->Shared->Prop}{lo hi:Int}{t u v:Tok}{tk:Nat}(I:Inv X aB σ H s)(h1:-(2^62)<=lo)(h2:lo<2^62)(h3:-(2^62)<=hi)(h4:hi<2^62)
  (q:R (Itr lo (hi-lo).toNat) H):wpAny (model X.prog X.w) X.A (pyIter (.ref s.heap.objs.size)) (PIE X aB σ tg R) E { s with heap:=s.heap.push { cls:=.type "range",data:=.fields #[.int lo t,.int hi u,.int 1 v] },toks:=tk }:=by
 refine wpAny_pyIter_range (IsRange.new ..) (small_one h1 h2 h3 h4) ?_;have I1:Inv X aB σ H { s with heap:=s.heap.push { cls:=.type "range",data:=.fields #[.int lo t,.int hi u,.int 1 v] },toks:=tk }:=I.kept λb o e=>Heap.get?_push_of_some _ e
 refine⟨(s.heap.push { cls:=.type "range",data:=.fields #[.int lo t,.int hi u,.int 1 v] }).objs.size,[(s.heap.push { cls:=.type "range",data:=.fields #[.int lo t,.int hi u,.int 1 v] }).objs.size],_,_,H,rfl,
  I1.kept (t':=tk) λb o e=>Heap.get?_push_of_some _ e,qQh _ lo (hi-lo).toNat,?_,λb hb=>?_,q⟩
 ·have e1:lo+((0:Nat):Int)*1=lo:=by simp
  have e2:(((hi-lo).toNat:Nat):Int)-((0:Nat):Int)=Builtin.Range.rangeSize lo hi 1:=by rw[rangeSize_one];split <;> omega
  show IsRangeIter _ _ (lo+((0:Nat):Int)*1) ((((hi-lo).toNat:Nat):Int)-((0:Nat):Int)) 1;rw[e1,e2];exact Heap.get?_push_size _ rfl
 ·have e:b=(s.heap.push { cls:=.type "range",data:=.fields #[.int lo t,.int hi u,.int 1 v] }).objs.size:=by simpa using hb
  subst e;exact I1.fpOk (hAa _) (I1.hok.fresh (hAa _))
def zEw(ta:TA):TI:=λσ H R=>ta σ H λvs H1=>∃j:Int,vs=[.int j]/\-(2^62)<=j/\j<2^62/\R (Itr 0 j.toNat) H1
theorem qBg{a:Expr}{ta:TA}{p pos:Pos}(hg:Gl X "range")(hm:X.mg "range"=none)(ha:PA X [a] ta)(hs:starEach [a] X.env=[(false,eval a X.env)]:=by rfl):PI X tg (.Call (.Name "range" p) [a] [] pos) (zEw ta):=by
 intro aB s σ H R I h;refine Call_ (qEw I hg hm boot_range (hCt (thn (ha pos aB s σ H _ I h) λus s1 ⟨vs,H1,I1,r1,q1⟩=>?_) hs rfl));obtain⟨j,e,q1,q2,q⟩:=q1;subst e;cases r1 with
 |cons r rr =>
  cases rr;obtain⟨t,rfl⟩:=r;exact call_range_1 (qV2 I1 (by omega) (by omega) q1 q2 (by simpa using q))
def zFq(wi:TI)(g:TG)(tb:TS):TS:=λD σ H=>wi σ H λJ H1=>∃W:Nat->Nat->St->Hp->Prop,(∃m,W 0 m σ H1)/\∀i m σ H,W i m σ H ->
 (J.stop i H/\D.nx σ H)\/(J.go i H/\∃N:St->Hp->Prop,(∀σ' H',N σ' H'->∃m',m'<m/\W (i+1) m' σ' H')/\∀x H',J.yld i H x H'->g x σ H' λσ2 H2=>tb { D with nx:=N,ct:=N,bk:=D.nx } σ2 H2)
noncomputable def qJd(fp:List Addr)(h:Heap):List (Addr×Obj):=fp.filterMap λb=>(h.get? b).map λo=>(b,o)
theorem qC4(hb:b∈fp)(e:h.get? b=some o):(b,o)∈qJd fp h:=hD6.mpr ⟨b,hb,by rw[e];rfl⟩
theorem qS2(hp:p∈qJd fp h):p.1∈fp/\h.get? p.1=some p.2:=by
 obtain⟨b,hb,e⟩:=hD6.mp hp;cases q:h.get? b with
 |none=>rw[q]at e;cases e
 |some o =>
  rw[q]at e;have e':(b,o)=p:=hAq e;subst e';exact⟨hb,q⟩
theorem Inv.pinned(I:Inv X aB σ H s)(hf:∀b∈fp,qQ3 X aB H b)(ho:∀b∈fp,∃o,s.heap.get? b=some o/\∀v,o.data≠.cell v):Inv X (aB++qJd fp s.heap) σ H s :=
 I.pins_of λp hp=>(hAd.mp hp).elim (λz=>I.pin p (hA8 _ z)) λz=>by
  obtain⟨hb,e⟩:=qS2 z;obtain⟨f0,f1,f2,_⟩:=hf p.1 hb;obtain⟨o,e',d⟩:=ho p.1 hb;rw[e]at e';cases e';exact⟨e,f0,f1,f2,d⟩
theorem Inv.unpinned(I:Inv X (aB++pl) σ H s):Inv X aB σ H s:=I.pins_of λp hp=>I.pin p (hA8 _ (hAe _ hp))
theorem qBf(hp:PassesOwn (model X.prog X.w) X.A X.env X.xe)(hc:X.calm=true)(hi:PI X tg iter wi)(hg:PG X tg g)(hb:PSs X body tb)
  (hs:∀x,foldedSetIterable iter X.env x=pure x:=by intro _;rfl):PS X (.For tg iter body [] pos) (zFq wi g tb):=by
 intro aB s σ H D I h;refine wpAny_For (thn (hi aB s σ H _ I h) λv s1 h1=>thn h1 λitv s2 h2=>?_) hs;obtain⟨it,fp,tn,J,H2,e,I2,T,st2,f2,W,⟨m0,w0⟩,turn⟩:=h2;subst e;have stat:∀ {H':Hp},(∀b∈fp,H' b=none)->∀b∈fp,qQ3 X aB H' b:=λhn b hb=>⟨hn b hb,(f2 b hb).2⟩
 refine codeAny_forLoop_any (λn s'=>∃i σ' H',Inv X aB σ' H' s'/\tn i s'.heap/\(∀b∈fp,H' b=none)/\W i n σ' H') ?_ m0 ⟨0,σ,H2,I2,st2,λb hb=>(f2 b hb).1,w0⟩;rintro n s3 ⟨i,σ3,H3,I3,st3,fr3,w3⟩;rcases turn i n σ3 H3 w3 with ⟨stop,qn⟩|⟨go,N,hN,step⟩
 ·refine hF1 hp (thn (T.done X rfl rfl rfl hc i aB s3 σ3 H3 X.xe I3 (stat fr3) st3 stop) λr s4 ⟨hr,I4⟩=>?_);subst hr;exact hFr ⟨σ3,H3,I4,qn⟩
 ·refine hF1 hp (thn (T.item X rfl rfl rfl hc i aB s3 σ3 H3 X.xe I3 (stat fr3) st3 go) λr s4 ⟨u,hr,h4⟩=>?_);subst hr;refine hF1 hp (thn h4 λ_ s5 ⟨x,H5,I5,r5,y5,st5,fr5⟩=>?_);have I5':=I5.pinned (stat fr5) (T.obj _ _ st5);refine hF1 hp (thn (hg _ s5 σ3 H5 x u _ I5' r5 (step x H5 y5)) λ_ s6 ⟨σ6,H6,I6,q6⟩=>?_);refine hF1 hp (thn (hb _ s6 σ6 H6 _ I6 q6) λf s7 q7=>?_);have again:∀ {σ7:St} {H7:Hp},Inv X (aB++qJd fp s5.heap) σ7 H7 s7->N σ7 H7->∃m,m<n/\∃i σ' H',Inv X aB σ' H' s7/\tn i s7.heap/\(∀b∈fp,H' b=none)/\W i m σ' H':=λ{σ7 H7} I7 n7=>by
   obtain⟨m',hm,w7⟩:=hN σ7 H7 n7;refine⟨m',hm,i+1,σ7,H7,I7.unpinned,T.keep _ _ _ st5 λb hb o e=>(I7.pin (b,o) (hA8 _ (hA8 _ (qC4 hb e)))).1,λb hb=>?_,w7⟩;obtain⟨o,e,d⟩:=T.obj _ _ st5 b hb;exact(I7.pin (b,o) (hA8 _ (hA8 _ (qC4 hb e)))).2.1
  cases f with
  |next=>obtain⟨σ7,H7,I7,n7⟩:=q7;exact again I7 n7
  |cont=>obtain⟨σ7,H7,I7,n7⟩:=q7;exact again I7 n7
  |brk=>obtain⟨σ7,H7,I7,q7⟩:=q7;exact⟨σ7,H7,I7.unpinned,q7⟩
  |ret v=>obtain⟨x7,σ7,H7,I7,r7,q7⟩:=q7;exact⟨x7,σ7,H7,I7.unpinned,r7,q7⟩
end
theorem qBm{K:PySem.W.Frag}{a:Addr}{xs:List V}{g:TG}{tb:TS}{D:Ends}{σ:St}{H:Hp}(Pv:Nat->St->Hp->Prop)(h0:Pv 0 σ H)(hl:∀i σ H,i<=xs.length->Pv i σ H->SqL K H a xs)
  (hs:∀i x σ H,xs[i]?=some x->Pv i σ H->g x σ H λσ2 H2=>tb { D with nx:=Pv (i+1),ct:=Pv (i+1),bk:=D.nx } σ2 H2) (hd:∀σ H,Pv xs.length σ H->D.nx σ H) :
  ∃W:Nat->Nat->St->Hp->Prop,(∃m,W 0 m σ H)/\∀i m σ H,W i m σ H ->
   ((Itl K a).stop i H/\D.nx σ H)\/((Itl K a).go i H/\∃N:St->Hp->Prop,(∀σ' H',N σ' H'->∃m',m'<m/\W (i+1) m' σ' H')/\∀x H',(Itl K a).yld i H x H'->g x σ H' λσ2 H2=>tb { D with nx:=N,ct:=N,bk:=D.nx } σ2 H2):=by
 refine⟨λi m σ H=>m=xs.length-i/\i<=xs.length/\Pv i σ H,⟨xs.length,by simp,hAp _,h0⟩,?_⟩;rintro i m σ H ⟨rfl,hi,p⟩;have q:=hl i σ H hi p;by_cases hlt:i<xs.length
 ·refine .inr ⟨⟨xs,xs[i],q,by simp[hlt]⟩,Pv (i+1),λσ' H' p'=>⟨xs.length-(i+1),by omega,rfl,hlt,p'⟩,λx H' y=>?_⟩;obtain⟨e,y⟩:=y;subst e;exact hs i x σ _ (y xs q) p
 ·have e:i=xs.length:=by omega
  subst e;exact .inl ⟨⟨xs,q,hAa _⟩,hd σ H p⟩
theorem qB5{lo:Int}{n:Nat}{g:TG}{tb:TS}{D:Ends}{σ:St}{H:Hp}(Pv:Nat->St->Hp->Prop)(h0:Pv 0 σ H)
  (hs:∀i σ H,i<n->Pv i σ H->g (.int (lo+i)) σ H λσ2 H2=>tb { D with nx:=Pv (i+1),ct:=Pv (i+1),bk:=D.nx } σ2 H2) (hd:∀σ H,Pv n σ H->D.nx σ H) :
  ∃W:Nat->Nat->St->Hp->Prop,(∃m,W 0 m σ H)/\∀i m σ H,W i m σ H ->
   ((Itr lo n).stop i H/\D.nx σ H)\/((Itr lo n).go i H/\∃N:St->Hp->Prop,(∀σ' H',N σ' H'->∃m',m'<m/\W (i+1) m' σ' H')/\∀x H',(Itr lo n).yld i H x H'->g x σ H' λσ2 H2=>tb { D with nx:=N,ct:=N,bk:=D.nx } σ2 H2):=by
 refine⟨λi m σ H=>m=n-i/\i<=n/\Pv i σ H,⟨n,by simp,hAp _,h0⟩,?_⟩;rintro i m σ H ⟨rfl,hi,p⟩;by_cases hlt:i<n
 ·refine .inr ⟨hlt,Pv (i+1),λσ' H' p'=>⟨n-(i+1),by omega,rfl,hlt,p'⟩,λx H' y=>?_⟩;obtain⟨e,y⟩:=y;subst e y;exact hs i σ _ hlt p
 ·have e:i=n:=by omega
  subst e;exact .inl ⟨hAa _,hd σ H p⟩
abbrev R2:=V->V->Hp->VK->Prop
def OpR(X:Cx)(f:Value->Value->Sem Value)(r:R2):Prop :=
 ∀(aB:List (Addr×Obj)) (s:Shared) (σ:St) (H:Hp) (x y:V) (v u:Value) (Q:VK),Inv X aB σ H s->qDa x v->qDa y u->r x y H Q ->
  wpAny (model X.prog X.w) X.A (f v u) (EP X aB σ Q) X.xe s
def UnR(X:Cx)(f:Value->Sem Value)(r:V->Hp->VK->Prop):Prop :=
 ∀(aB:List (Addr×Obj)) (s:Shared) (σ:St) (H:Hp) (x:V) (v:Value) (Q:VK),Inv X aB σ H s->qDa x v->r x H Q ->
  wpAny (model X.prog X.w) X.A (f v) (EP X aB σ Q) X.xe s
def qB2(X:Cx)(f:Value)(r:List V->Hp->VK->Prop):Prop :=
 ∀(aB:List (Addr×Obj)) (s:Shared) (σ:St) (H:Hp) (xs:List V) (us:List Value) (Q:VK),Inv X aB σ H s->qBn xs us->r xs H Q ->
  wpAny (model X.prog X.w) X.A (call f us) (EP X aB σ Q) X.xe s
def tOp(r:R2)(ta tb:TE):TE:=λσ H Q=>ta σ H λx H1=>tb σ H1 λy H2=>r x y H2 Q
def tUn(r:V->Hp->VK->Prop)(ta:TE):TE:=λσ H Q=>ta σ H λx H1=>r x H1 Q
def rI(C:Int->Int->Prop)(g:Int->Int->V):R2:=λx y H Q=>∃i j,x = .int i/\y = .int j/\C i j/\Q (g i j) H
def rI0(g:Int->Int->V):R2:=λx y H Q=>∃i j,x = .int i/\y = .int j/\Q (g i j) H
def rU(g:Int->V):V->Hp->VK->Prop:=λx H Q=>∃i,x = .int i/\Q (g i) H
section
variable{X:Cx}{a b c:Expr}{ta tb tc:TE}{pos:Pos}
theorem zE2(ha:PE X a ta)(hb:PE X b tb){aB:List (Addr×Obj)}{s:Shared}{σ:St}{H:Hp}{R:V->V->Hp->Prop}(I:Inv X aB σ H s)
  (h:ta σ H λx H1=>tb σ H1 λy H2=>R x y H2) {Q:Value->Shared->Prop} {f:Value->Value->Sem Value}
  (hf:∀v u s2 x y H2,Inv X aB σ H2 s2->qDa x v->qDa y u->R x y H2->wpAny (model X.prog X.w) X.A (f v u) Q X.xe s2) :
  wpAny (model X.prog X.w) X.A (eval a X.env) (λv s₁=>wpAny (model X.prog X.w) X.A (eval b X.env) (λu s₂=>wpAny (model X.prog X.w) X.A (f v u) Q X.xe s₂) X.xe s₁) X.xe s:=by
 refine thn (ha aB s σ H _ I h) λv s1 ⟨x,H1,I1,r1,q1⟩=>?_
 refine thn (hb aB s1 σ H1 _ I1 q1) λu s2 ⟨y,H2,I2,r2,q2⟩=>?_
 exact hf v u s2 x y H2 I2 r1 r2 q2
theorem qAg{op:Operator}{r:R2}(ho:OpR X (binaryOp op) r)(ha:PE X a ta)(hb:PE X b tb):PE X (.BinOp a op b pos) (tOp r ta tb):=by
 intro aB s σ H Q I h;exact wpAny_BinOp (zE2 ha hb I h λv u s2 x y H2 I2 rx ry q=>ho aB s2 σ H2 x y v u Q I2 rx ry q)
theorem qLg(ho:UnR X (unaryOp op) r)(ha:PE X a ta):PE X (.UnaryOp op a pos) (tUn r ta):=by
 intro aB s σ H Q I h;exact UnaryOp_ (thn (ha aB s σ H _ I h) λv s1 ⟨x,H1,I1,r1,q1⟩=>ho aB s1 σ H1 x v Q I1 r1 q1)
theorem opI{f:Value->Value->Sem Value}{C:Int->Int->Prop}{g:Int->Int->Int}
  (rule:∀(i j:Int) (t u:Tok) (s:Shared) (Q:Value->Shared->Prop) (E:Value->Shared->Prop),C i j->Q (.int (g i j) s.toks) { s with toks:=s.toks+1 }->wpAny (model X.prog X.w) X.A (f (.int i t) (.int j u)) Q E s) :
  OpR X f (rI C λi j=>.int (g i j)):=by
 intro aB s σ H x y v u Q I rx ry h;obtain⟨i,j,rfl,rfl,hc,q⟩:=h;obtain⟨t,rfl⟩:=rx;obtain⟨t',rfl⟩:=ry;exact rule i j t t' s _ _ hc ⟨.int (g i j),H,I.tok _,⟨_,rfl⟩,q⟩
theorem zCw{f:Value->Value->Sem Value}{g:Int->Int->Int}
  (rule:∀(i j:Int) (t u:Tok) (s:Shared) (Q:Value->Shared->Prop) (E:Value->Shared->Prop),Q (.int (g i j) s.toks) { s with toks:=s.toks+1 }->wpAny (model X.prog X.w) X.A (f (.int i t) (.int j u)) Q E s) :
  OpR X f (rI0 λi j=>.int (g i j)):=by
 intro aB s σ H x y v u Q I rx ry h;obtain⟨i,j,rfl,rfl,q⟩:=h;obtain⟨t,rfl⟩:=rx;obtain⟨t',rfl⟩:=ry;exact rule i j t t' s _ _ ⟨.int (g i j),H,I.tok _,⟨_,rfl⟩,q⟩
theorem zD3{f:Value->Value->Sem Value}{g:Int->Int->Bool}
  (rule:∀(i j:Int) (t u:Tok) (s:Shared) (Q:Value->Shared->Prop) (E:Value->Shared->Prop),Q (.bool (g i j)) s->wpAny (model X.prog X.w) X.A (f (.int i t) (.int j u)) Q E s) :
  OpR X f (rI0 λi j=>.bl (g i j)):=by
 intro aB s σ H x y v u Q I rx ry h;obtain⟨i,j,rfl,rfl,q⟩:=h;obtain⟨t,rfl⟩:=rx;obtain⟨t',rfl⟩:=ry;exact rule i j t t' s _ _ ⟨.bl (g i j),H,I,rfl,q⟩
def zE9(i j:Int):Prop:=0<j/\j<1073741824
def zFj(i j:Int):Prop:=0<=j/\j<=1000000/\i.natAbs<2^64
def zE8(i j:Int):Prop:=(-(2^64)<i/\i<2^64)\/(-(2^64)<j/\j<2^64)
theorem zE8.ok(h:zE8 i j):IntMulOk i j:=by
 rcases h with ⟨h1,h2⟩|⟨h1,h2⟩
 ·exact .of_left (intBits_le_64 h1 h2)
 ·exact .of_right (intBits_le_64 h1 h2)
theorem qQe(k:Nat):(0:Int)<=2^k:=by
 rw[two_pow_cast];exact hD7 _
theorem qA8:OpR X (binaryOp .Add) (rI0 λi j=>.int (i+j)):=zCw λ_ _ _ _ _ _ _ q=>add_int q
theorem qCr:OpR X (binaryOp .Sub) (rI0 λi j=>.int (i-j)):=zCw λ_ _ _ _ _ _ _ q=>sub_int q
theorem qEv:OpR X (binaryOp .Mult) (rI zE8 λi j=>.int (i*j)):=opI λ_ _ _ _ _ _ _ hc q=>mul_int q hc.ok
theorem qA4:OpR X (binaryOp .FloorDiv) (rI zE9 λi j=>.int (i / j)):=opI λi j _ _ _ _ _ hc q=>by
 have h1:(0:Int)<j:=hc.1;have h2:j<1073741824:=hc.2;exact floordiv_int (by omega) (by rw[Int.fdiv_eq_ediv_of_nonneg i (by omega)];exact q) (.inl (PyProof.noPylong_small (by omega)))
theorem qA9:OpR X (binaryOp .Mod) (rI (λ_ j=>0<j) λi j=>.int (i % j)):=opI λi j _ _ _ _ _ hc q=>by
 have h1:(0:Int)<j:=hc;exact mod_int' (by omega) (by rw[Int.fmod_eq_emod_of_nonneg i (by omega)];exact q)
theorem qYa:OpR X (binaryOp .Pow) (rI zFj λi j=>.int (i^j.toNat)):=opI λ_ _ _ _ _ _ _ hc q=>pow_int_small hc.1 hc.2.1 hc.2.2 q
theorem qCe:OpR X (binaryOp .LShift) (rI zFj λi j=>.int (i*2^j.toNat)):=opI λ_ _ _ _ _ _ _ hc q=>lshift_int_small hc.1 hc.2.1 hc.2.2 q
theorem qG1:OpR X (binaryOp .RShift) (rI (λ_ j=>0<=j) λi j=>.int (i / 2^j.toNat)):=opI λi j _ _ _ _ _ hc q =>
 rshift_int hc (by rw[Int.fdiv_eq_ediv_of_nonneg i (qQe _)];exact q)
theorem qBu:OpR X (binaryOp .BitAnd) (rI0 λi j=>.int (Builtin.bitAnd i j)):=zCw λ_ _ _ _ _ _ _ q=>and_int q
theorem zCv:OpR X (binaryOp .BitOr) (rI0 λi j=>.int (Builtin.bitOr i j)):=zCw λ_ _ _ _ _ _ _ q=>or_int q
theorem qDn:OpR X (binaryOp .BitXor) (rI0 λi j=>.int (Builtin.bitXor i j)):=zCw λ_ _ _ _ _ _ _ q=>xor_int q
theorem unI{f:Value->Sem Value}{g:Int->Int}
  (rule:∀(i:Int) (t:Tok) (s:Shared) (Q:Value->Shared->Prop) (E:Value->Shared->Prop),Q (.int (g i) s.toks) { s with toks:=s.toks+1 }->wpAny (model X.prog X.w) X.A (f (.int i t)) Q E s) :
  UnR X f (rU λi=>.int (g i)):=by
 intro aB s σ H x v Q I rx h;obtain⟨i,rfl,q⟩:=h;obtain⟨t,rfl⟩:=rx;exact rule i t s _ _ ⟨.int (g i),H,I.tok _,⟨_,rfl⟩,q⟩
theorem qHq:UnR X (unaryOp .USub) (rU λi=>.int (-i)):=unI λ_ _ _ _ _ q=>neg_int q
theorem zBy:UnR X (unaryOp .Invert) (rU λi=>.int (Builtin.bitNot i)):=unI λ_ _ _ _ _ q=>invert_int q
end
noncomputable def zFb:V->V->Bool
 |.non,.non=>true | .non,.int _=>true | .int _,.non=>true | .non,.bl _=>true | .bl _,.non=>true | .non,.str _=>true | .str _,.non=>true
 |.int _,.int _=>true | .bl _,.bl _=>true | .str _,.str _=>true | .byt _,.byt _=>true
 |.int _,.str _=>true | .str _,.int _=>true | .bl _,.str _=>true | .str _,.bl _=>true
 |_,_=>false
def rEq:R2:=λx y H Q=>zFb x y=true/\Q (.bl (decide (x=y))) H
def rNe:R2:=λx y H Q=>zFb x y=true/\Q (.bl (!decide (x=y))) H
theorem qT2:decide (V.int i=V.int j)=(i == j):=by
 rw[hE6];simp
theorem qYq:decide (V.bl i=V.bl j)=(i == j):=by
 rw[hE6];simp
theorem qT1:decide (V.str i=V.str j)=(i == j):=by
 rw[hE6];simp
theorem qT3:decide (V.byt i=V.byt j)=(i.toList == j.toList):=by
 rw[hE6];cases i;cases j;simp
section
variable{X:Cx}{a b c:Expr}{ta tb tc:TE}{pos:Pos}
theorem qBa(I:Inv X aB σ H s)(q:Q (.bl k) H)(e:k=k'):EP X aB σ Q (.bool k') s:=by
 subst e;exact⟨.bl k,H,I,rfl,q⟩
theorem qB4:OpR X (compareOp .Eq) rEq:=by
 intro aB s σ H x y v u Q I rx ry h;obtain⟨hs,q⟩:=h;cases x with
 |non =>
  cases rx;cases y with
  |non=>cases ry;exact PySem.EqNone.eq_none_none (qBa I q (by simp))
  |bl j=>cases ry;exact PySem.EqNone.eq_none_bool (qBa I q (by simp))
  |int j=>obtain⟨t',rfl⟩:=ry;exact PySem.EqNone.eq_none_int (qBa I q (by simp))
  |str j=>obtain⟨t',rfl⟩:=ry;exact PySem.EqNone.eq_none_str (qBa I q (by simp))
  |_=>exact absurd (show false=true from hs) hAz
 |bl i =>
  cases rx;cases y with
  |non=>cases ry;exact PySem.EqNone.eq_bool_none (qBa I q (by simp))
  |bl j=>cases ry;exact eq_bool (qBa I q qYq)
  |str j=>obtain⟨t',rfl⟩:=ry;exact PySem.EqMixed.eq_bool_str (qBa I q (by simp))
  |_=>exact absurd (show false=true from hs) hAz
 |int i =>
  obtain⟨t,rfl⟩:=rx;cases y with
  |non=>cases ry;exact PySem.EqNone.eq_int_none (qBa I q (by simp))
  |int j=>obtain⟨t',rfl⟩:=ry;exact eq_int (qBa I q qT2)
  |str j=>obtain⟨t',rfl⟩:=ry;exact PySem.EqMixed.eq_int_str (qBa I q (by simp))
  |_=>exact absurd (show false=true from hs) hAz
 |str i =>
  obtain⟨t,rfl⟩:=rx;cases y with
  |non=>cases ry;exact PySem.EqNone.eq_str_none (qBa I q (by simp))
  |bl j=>cases ry;exact PySem.EqMixed.eq_str_bool (qBa I q (by simp))
  |int j=>obtain⟨t',rfl⟩:=ry;exact PySem.EqMixed.eq_str_int (qBa I q (by simp))
  |str j=>obtain⟨t',rfl⟩:=ry;exact eq_str (qBa I q qT1)
  |_=>exact absurd (show false=true from hs) hAz
 |byt i =>
  obtain⟨t,rfl⟩:=rx;cases y with
  |byt j=>obtain⟨t',rfl⟩:=ry;exact PySem.W.eq_bytes (qBa I q qT3)
  |_=>exact absurd (show false=true from hs) hAz
 |_=>cases y <;> exact absurd (show false=true from hs) hAz
theorem qFp:OpR X (compareOp .NotEq) rNe:=by
 intro aB s σ H x y v u Q I rx ry h;obtain⟨hs,q⟩:=h;cases x with
 |non =>
  cases rx;cases y with
  |non=>cases ry;exact PySem.EqNone.ne_none_none (qBa I q (by simp))
  |bl j=>cases ry;exact PySem.EqNone.ne_none_bool (qBa I q (by simp))
  |int j=>obtain⟨t',rfl⟩:=ry;exact PySem.EqNone.ne_none_int (qBa I q (by simp))
  |str j=>obtain⟨t',rfl⟩:=ry;exact PySem.EqNone.ne_none_str (qBa I q (by simp))
  |_=>exact absurd (show false=true from hs) hAz
 |bl i =>
  cases rx;cases y with
  |non=>cases ry;exact PySem.EqNone.ne_bool_none (qBa I q (by simp))
  |bl j=>cases ry;exact ne_bool (qBa I q (congrArg not qYq))
  |str j=>obtain⟨t',rfl⟩:=ry;exact PySem.EqMixed.ne_bool_str (qBa I q (by simp))
  |_=>exact absurd (show false=true from hs) hAz
 |int i =>
  obtain⟨t,rfl⟩:=rx;cases y with
  |non=>cases ry;exact PySem.EqNone.ne_int_none (qBa I q (by simp))
  |int j=>obtain⟨t',rfl⟩:=ry;exact ne_int (qBa I q (congrArg not qT2))
  |str j=>obtain⟨t',rfl⟩:=ry;exact PySem.EqMixed.ne_int_str (qBa I q (by simp))
  |_=>exact absurd (show false=true from hs) hAz
 |str i =>
  obtain⟨t,rfl⟩:=rx;cases y with
  |non=>cases ry;exact PySem.EqNone.ne_str_none (qBa I q (by simp))
  |bl j=>cases ry;exact PySem.EqMixed.ne_str_bool (qBa I q (by simp))
  |int j=>obtain⟨t',rfl⟩:=ry;exact PySem.EqMixed.ne_str_int (qBa I q (by simp))
  |str j=>obtain⟨t',rfl⟩:=ry;exact ne_str (qBa I q (congrArg not qT1))
  |_=>exact absurd (show false=true from hs) hAz
 |byt i =>
  obtain⟨t,rfl⟩:=rx;cases y with
  |byt j=>obtain⟨t',rfl⟩:=ry;exact PySem.W.ne_bytes (qBa I q (congrArg not qT3))
  |_=>exact absurd (show false=true from hs) hAz
 |_=>cases y <;> exact absurd (show false=true from hs) hAz
theorem qFq:OpR X (compareOp .Lt) (rI0 λi j=>.bl (decide (i<j))):=zD3 λ_ _ _ _ _ _ _ q=>lt_int q
theorem zEs:OpR X (compareOp .LtE) (rI0 λi j=>.bl (decide (i<=j))):=zD3 λ_ _ _ _ _ _ _ q=>le_int q
theorem qV6:OpR X (compareOp .Gt) (rI0 λi j=>.bl (decide (j<i))):=zD3 λ_ _ _ _ _ _ _ q=>gt_int q
theorem zEt:OpR X (compareOp .GtE) (rI0 λi j=>.bl (decide (j<=i))):=zD3 λ_ _ _ _ _ _ _ q=>ge_int q
theorem nomark(b:Expr)(h:op≠.In:=by decide)(h2:op≠.NotIn:=by decide):behindInMarks op b=false:=by
 have e1:(op == CmpOp.In)=false:=by cases op <;> first|rfl|exact absurd rfl h
 have e2:(op == CmpOp.NotIn)=false:=by cases op <;> first|rfl|exact absurd rfl h2
 cases b <;> simp[behindInMarks,e1,e2]
theorem qDf{op:CmpOp}{r:R2}(ho:OpR X (compareOp op) r)(ha:PE X a ta)(hb:PE X b tb)(hm:behindInMarks op b=false):PE X (.Compare a [op] [b] pos) (tOp r ta tb):=by
 intro aB s σ H Q I h;exact wpAny_Compare1 (zE2 ha hb I h λv u s2 x y H2 I2 rx ry q=>ho aB s2 σ H2 x y v u Q I2 rx ry q) hm
def zB1(t:TE):TT:=λσ H Q=>t σ H λx H'=>∃k,x = .bl k/\Q k H'
theorem qAn(ho:OpR X (compareOp op) r)(ha:PE X a ta)(hb:PE X b tb)(hm:behindInMarks op b=false):PT X (.Compare a [op] [b] pos) (zB1 (tOp r ta tb)):=by
 intro aB s σ H Q I h;refine wpAny_isTrue_Compare1 (thn (ha aB s σ H _ I h) λv s1 ⟨x,H1,I1,r1,q1⟩=>thn (hb aB s1 σ H1 _ I1 q1) λu s2 ⟨y,H2,I2,r2,q2⟩ =>
  thn (ho aB s2 σ H2 x y v u _ I2 r1 r2 q2) λc s3 ⟨z,H3,I3,r3,k,e,q3⟩=>?_) hm
 subst e;cases r3;exact hEw ⟨H3,I3,q3⟩
def zB2(r r':R2)(ta tb tc:TE):TE:=λσ H Q=>ta σ H λx H1=>tb σ H1 λy H2=>r x y H2 λz H3=>∃k,z = .bl k /\
 (if k=true then tc σ H3 λw' H4=>r' y w' H4 Q else Q (.bl false) H3)
theorem qO3(ho:OpR X (compareOp op) r)(ho':OpR X (compareOp op') r')(ha:PE X a ta)(hb:PE X b tb)(hc:PE X c tc)
  (hm:lastMarks [op,op'] [b,c]=false:=by with_unfolding_all rfl):PT X (.Compare a [op,op'] [b,c] pos) (zB1 (zB2 r r' ta tb tc)):=by
 intro aB s σ H Q I h;refine isTrue_chain (thn (ha aB s σ H _ I h) λv s1 ⟨x,H1,I1,r1,q1⟩=>test_link (thn (hb aB s1 σ H1 _ I1 q1) λu s2 ⟨y,H2,I2,r2,q2⟩ =>
  thn (ho aB s2 σ H2 x y v u _ I2 r1 r2 q2) λd s3 ⟨z,H3,I3,r3,k,e,q3⟩=>?_)) hm
 subst e;cases r3;refine hEw ?_;cases k with
 |false =>
  obtain⟨k',e',q'⟩:=q3;cases e';exact ite_ff ⟨H3,I3,q'⟩
 |true =>
  refine ite_tt (test_last (thn (hc aB s3 σ H3 _ I3 q3) λw' s4 ⟨z',H4,I4,r4,q4⟩=>thn (ho' aB s4 σ H4 y z' u w' _ I4 r2 r4 q4) λd' s5 ⟨z2,H5,I5,r5,k2,e2,q5⟩=>?_));subst e2;cases r5;exact hEw ⟨H5,I5,q5⟩
theorem qLt:(sizeLine:Nat)<2^63:=by rw[hEq];decide
theorem qEn:OpR X (binaryOp .Add) (λx y H Q=>∃i j,x = .str i/\y = .str j/\i.length+j.length<=sizeLine/\Q (.str (i++j)) H):=by
 intro aB s σ H x y v u Q I rx ry h;obtain⟨i,j,rfl,rfl,hz,q⟩:=h;obtain⟨t,rfl⟩:=rx;obtain⟨t',rfl⟩:=ry;exact add_str (λt' tk=>⟨.str (i++j),H,I.tok _,⟨_,rfl⟩,q⟩) hz
theorem qCy(r:qBn [x] us):∃u,us=[u]/\qDa x u:=by
 cases r with
 |cons r1 r2=>cases r2;exact⟨_,rfl,r1⟩
theorem qY3(r:qBn [x,y] us):∃u w',us=[u,w']/\qDa x u/\qDa y w':=by
 cases r with
 |cons r1 r2 =>
  cases r2 with
  |cons r3 r4=>cases r4;exact⟨_,_,rfl,r1,r3⟩
theorem qP9:qB2 X (.builtin "abs") (λxs H Q=>∃i,xs=[.int i]/\Q (.int (if i<0 then -i else i)) H):=by
 intro aB s σ H xs us Q I r h;obtain⟨i,rfl,q⟩:=h;obtain⟨u,rfl,t,rfl⟩:=qCy r;exact call_abs_int λu tk=>⟨.int (if i<0 then -i else i),H,I.tok _,⟨_,rfl⟩,q⟩
theorem qF5(hc:X.calm=true):qB2 X (.builtin "min") (λxs H Q=>∃i j,xs=[.int i,.int j]/\Q (.int (if j<i then j else i)) H):=by
 intro aB s σ H xs us Q I r h;obtain⟨i,j,rfl,q⟩:=h;obtain⟨u,w',rfl,⟨t,rfl⟩,⟨t',rfl⟩⟩:=qY3 r;refine min_two_ints (I.ok.hd hc) λh' tk k=>⟨_,H,I.kept k,?_,q⟩
 by_cases hj:j<i
 ·rw[hEn hj,hEn hj];exact⟨_,rfl⟩
 ·rw[hEm hj,hEm hj];exact⟨_,rfl⟩
theorem qEd:qB2 X (.type "str") (λxs H Q=>∃i,xs=[.int i]/\i.natAbs.log2<1920/\Q (.str (toString i)) H):=by
 intro aB s σ H xs us Q I r h;obtain⟨i,rfl,hz,q⟩:=h;obtain⟨u,rfl,t,rfl⟩:=qCy r;exact PySem.P.str_of_int hz ⟨.str _,H,I.tok _,⟨_,rfl⟩,q⟩
end
structure ObjM(h:Heap)(x dx C:Addr)(mA:Str->Option Value):Prop where
 obj:h.get? x=some (PySem.W.instObj C dx)
 ns:h.Ns1 dx mA
 ne:dx≠x
theorem qTc{h:Heap}{dx:Addr}{mA:Str->Option Value}(n:h.Ns1 dx mA):∃od,h.get? dx=some od/\∀name,PySem.W.lookIn name od=some (mA name):=by
 obtain⟨o,es,ep,ho,hd,hk,_,hm⟩:=n;refine⟨o,ho,λname=>?_⟩;have e:=hm name;unfold nsFind findBy at e;rw[<-Array.find?_toList]at e;unfold PySem.W.lookIn;rw[hd];dsimp only;split
 ·rename_i y q;rw[q]at e;exact congrArg some e
 ·rename_i q;rw[q]at e;have a:es.toList.any (·.refKey)=false:=by
   rw[List.any_eq_false];intro y hy;obtain⟨z,t,hkey⟩:=hk y (Array.mem_toList_iff.mp hy);simp[DictEntry.refKey,hkey]
  have a':¬es.toList.any (·.refKey)=true:=by rw[a];exact hAz
  rw[hEm a'];exact congrArg some e
theorem ObjM.look(I:ObjM h x dx C mA):∃od,PySem.W.InstAt h x (PySem.W.instObj C dx) C (some od)/\∀name,PySem.W.lookIn name od=some (mA name) :=
 let ⟨od,ho,hl⟩:=qTc I.ns
 ⟨od,⟨I.obj,rfl,rfl,ho⟩,hl⟩
section
variable{P:Program}{w:World}{H H':Hp}{h h':Heap}{a C dx:Addr}{fs fs':List (Str×V)}
theorem zA9(hok:HOk P w H h)(e:H a=some (.ins C dx fs)):∃mA,ObjM h a dx C mA/\(∀f,zE6 (fs.lookup f) (mA f))/\PySem.Within mA (fs.map (·.1))/\fs.length<=1000/\H dx=some (.own a):=by
 obtain⟨d,z,ne,ob,mA,n,r,q⟩:=(show qC1 P w H h a (.ins C dx fs) from hok a _ e);exact⟨mA,⟨ob,n,ne⟩,r,q,z,d⟩
end
structure Cls(K:PySem.W.Frag)(C:Addr):Prop where
 pg:PySem.W.plainGet K C Str.empty=true
 hd:PySem.W.hasDictIn K C=true
 po:PySem.W.plainOver K C=true
 sa:PySem.W.findIn K (.ref C) "__setattr__"=some (some (.builtin "object.__setattr__"))
theorem Cls.get{K:PySem.W.Frag}{C:Addr}(c:Cls K C)(f:Str):PySem.W.plainGet K C f=true:=c.pg
structure Con(K:PySem.W.Frag)(C:Addr)(f:Str)(v:V)(u:Value):Prop where
 at_:PySem.W.findIn K (.ref C) f=some (some u)
 rel:qDa v u
 get:PySem.W.specialIn K u "__get__"=some none
 cp:PySem.W.copiedNames.contains f=false
structure Meth(K:PySem.W.Frag)(C:Addr)(m:Str)(f:Addr):Prop where
 at_:PySem.W.findIn K (.ref C) m=some (some (.ref f))
 fn:PySem.W.isFn K (.ref f)=true
 kp:PySem.W.keepIn K (.ref f)=true
section
variable{X:Cx}{aB:List (Addr×Obj)}{σ:St}{H:Hp}{s:Shared}{A:Around}{E:Value->Shared->Prop}{Q:Value->Shared->Prop}{c:Value}{b:Bool}
inductive TyOf (K:PySem.W.Frag) (H:Hp):V->Value->Prop where
 |non:TyOf K H .non (.type "NoneType")
 |bl (x:Bool):TyOf K H (.bl x) (.type "bool")
 |int (i:Int):TyOf K H (.int i) (.type "int")
 |str (x:Str):TyOf K H (.str x) (.type "str")
 |flt (x:UInt64):TyOf K H (.flt x) (.type "float")
 |lst {a:Addr} {xs:List V} (e:H a=some (.lst xs)):TyOf K H (.ref a) (.type "list")
 |frz {a:Addr} {o:Obj} {xs:List V} (e:H a=some (.frz o (.lst xs))):TyOf K H (.ref a) (.type "list")
 |tup {a:Addr} {xs:List V} (e:H a=some (.tup xs)):TyOf K H (.ref a) (.type "tuple")
 |dK {a:Addr} {kvs:List (Key×V)} (e:H a=some (.dK kvs)):TyOf K H (.ref a) (.type "dict")
 |dT {a:Addr} {kvs:List (List Key×V)} (e:H a=some (.dT kvs)):TyOf K H (.ref a) (.type "dict")
 |ins {a C dx:Addr} {fs:List (Str×V)} (e:H a=some (.ins C dx fs)) (cl:Cls K C) (ha:PySem.W.findIn K (.ref C) "__class__"=some (some (.builtin "object.__class__")))
   (hn:PySem.W.specialIn K (.builtin "object.__class__") "__get__"=some (some (.builtin "getset_descriptor.__get__"))) (htk:PySem.W.takesIn K (.builtin "object.__class__")=some true)
   (hm:PySem.W.mroIn K C (.type "object")=some true):TyOf K H (.ref a) (.ref C)
theorem qTh(I:Inv X aB σ H s)(rx:qDa x u)(ty:TyOf X.K H x t)(e:PySem.W.kitOne X.K t c=some b)(h:∀tk,Q (.bool b) { s with toks:=tk }) :
  wpAny (model X.prog X.w) A (call (.builtin "isinstance") [u,c]) Q E s:=by
 cases ty with
 |non=>cases(show u=Value.none from rx);exact hCo PySem.W.kitx_none I.kIn True.intro e (λz=>nomatch z) h
 |bl y=>cases(show u=Value.bool y from rx);exact hCo PySem.W.kitx_bool I.kIn True.intro e (λz=>nomatch z) h
 |int i=>obtain⟨t,q⟩:=(show ∃t,u=Value.int i t from rx);cases q;exact hCo PySem.W.kitx_int I.kIn True.intro e (λz=>nomatch z) h
 |str y=>obtain⟨t,q⟩:=(show ∃t,u=Value.str y t from rx);cases q;exact hCo PySem.W.kitx_str I.kIn True.intro e (λz=>nomatch z) h
 |flt y=>obtain⟨t,q⟩:=(show ∃t,u=Value.float y t from rx);cases q;exact hCo PySem.W.kitx_float I.kIn True.intro e (λz=>nomatch z) h
 |@lst a xs ea =>
  cases(show u=Value.ref a from rx);obtain⟨_,_,n,_,h1⟩:=(show qC1 X.prog X.w H s.heap a (.lst xs) from I.hok a _ ea);exact hCo PySem.W.kitx_list I.kIn ⟨_,h1,rfl⟩ e (λz=>nomatch z) h
 |@frz a ob xs ea =>
  cases(show u=Value.ref a from rx);obtain⟨_,_,_,n,_,h1⟩:=(show qC1 X.prog X.w H s.heap a (.frz ob (.lst xs)) from I.hok a _ ea);exact hCo PySem.W.kitx_list I.kIn ⟨_,h1,rfl⟩ e (λz=>nomatch z) h
 |@tup a xs ea =>
  cases(show u=Value.ref a from rx);obtain⟨_,_,_,p⟩:=(show qC1 X.prog X.w H s.heap a (.tup xs) from I.hok a _ ea);obtain⟨o,h1,h2,_⟩:=p;exact hCo PySem.W.kitx_tuple I.kIn ⟨o,h1,h2⟩ e (λz=>nomatch z) h
 |@dK a kvs ea =>
  cases(show u=Value.ref a from rx);obtain⟨_,_,vs,_,p⟩:=(show qC1 X.prog X.w H s.heap a (.dK kvs) from I.hok a _ ea);obtain⟨o,es,ep,h1,h2,_⟩:=p;exact hCo PySem.W.kitx_dict I.kIn ⟨o,h1,h2.1⟩ e (λz=>nomatch z) h
 |@dT a kvs ea =>
  cases(show u=Value.ref a from rx);obtain⟨_,_,xs,_,o,es,ep,h1,h2,_⟩:=(show qC1 X.prog X.w H s.heap a (.dT kvs) from I.hok a _ ea);exact hCo PySem.W.kitx_dict I.kIn ⟨o,h1,h2.1⟩ e (λz=>nomatch z) h
 |@ins a C dx fs ea cl ha hn htk hm =>
  cases(show u=Value.ref a from rx);obtain⟨mA,O,_⟩:=zA9 I.hok ea;obtain⟨od,J,_⟩:=O.look;exact hCo (PySem.W.kitx_own (cl.get _) cl.hd ha hn htk hm) I.kIn J e (λz=>nomatch z) h
end
structure Room(k:Nat)(A:Around):Prop where
 hd:A.handled=none
 dp:A.depth+3*k+5<recursionLimit
 un:A.units+16*k+200<cLine
 gd:A.guards=some []
theorem Room.mono(r:Room k A)(h:j<=k):Room j A:=⟨r.hd,by have:=r.dp;omega,by have:=r.un;omega,r.gd⟩
theorem Room.deeper(r:Room (k+1) A)(env:Env):Room k (A.deeper env) :=
 ⟨r.hd,by have:=r.dp;show A.depth+1+3*k+5<_;omega,by have:=r.un;show A.units+3+16*k+200<_;omega,r.gd⟩
theorem Room.in1(r:Room (k+1) A):Room k A.in1 :=
 ⟨r.hd,by have:=r.dp;show A.depth+3*k+5<_;omega,by have:=r.un;show A.units+1+16*k+200<_;omega,r.gd⟩
theorem Room.depth(r:Room k A):A.depth<recursionLimit:=by have:=r.dp;omega
def zFa:TA:=λ_ H Q=>Q [] H
def qQi(ta:TE)(tr:TA):TA:=λσ H Q=>ta σ H λx H1=>tr σ H1 λxs H2=>Q (x :: xs) H2
section
variable{X:Cx}{e:Expr}{es:List Expr}{te:TE}{t:TA}{pos:Pos}
theorem qAz:PA X [] zFa:=λ_ _ _ _ H Q I h=>Calls.spliced_nil ⟨[],H,I,.nil,h⟩
theorem qAe(ha:PE X e te)(hr:PA X es t)(hs:starEach (e :: es) X.env=(false,eval e X.env) :: starEach es X.env:=by rfl):PA X (e :: es) (qQi te t):=by
 intro pos aB s σ H Q I h;rw[hs];show wpAny _ _ (spliced ((false,eval e X.env) :: backTo pos (starEach es X.env))) _ _ s;refine Calls.spliced_cons (thn (ha aB s σ H _ I h) λu s1 ⟨x,H1,I1,r1,q1⟩=>?_);exact thn (hr pos aB s1 σ H1 _ I1 q1) λus s2 ⟨xs,H2,I2,r2,q2⟩=>⟨x :: xs,H2,I2,.cons r1 r2,q2⟩
theorem pa1{X:Cx}{e:Expr}{te:TE}(ha:PE X e te)(hs:starEach [e] X.env=(false,eval e X.env) :: starEach [] X.env:=by rfl):PA X [e] (qQi te zFa):=qAe ha qAz hs
def zFk(t:TA):TE:=λσ H Q=>t σ H λxs H1=>xs.length<=sizeLine/\∀p,H1 p=none->Q (.ref p) (upd H1 p (.tup xs))
def zFo(t:TA):TE:=λσ H Q=>t σ H λxs H1=>xs.length<=sizeLine/\∀p,H1 p=none->Q (.ref p) (upd H1 p (.lst xs))
theorem qA6{x1}(h:PA X es t):PE X (.Tuple es x1 pos) (zFk t):=by
 intro aB s σ H Q I hq;refine wpAny_Tuple_spliced (thn (h pos aB s σ H _ I hq) λus s1 ⟨xs,H1,I1,r,z,q⟩=>⟨by rw[<-r.length];exact z,?_⟩);have hf:H1 s1.heap.objs.size=none:=I1.hok.fresh (hAa _);refine⟨.ref s1.heap.objs.size,upd H1 s1.heap.objs.size (.tup xs),I1.laid (t':=s1.toks) (λb u e=>Heap.get?_push_of_some _ e) (hAa _) ?_,rfl,q _ hf⟩;exact⟨z,us,r,⟨_,Heap.get?_push_size _ rfl,rfl,_,rfl⟩⟩
theorem qA2(h:PA X es t):PE X (.List es pos) (zFo t):=by
 intro aB s σ H Q I hq;refine wpAny_List_spliced (thn (h pos aB s σ H _ I hq) λus s1 ⟨xs,H1,I1,r,z,q⟩=>⟨by rw[<-r.length];exact z,?_⟩);have hf:H1 s1.heap.objs.size=none:=I1.hok.fresh (hAa _);refine⟨.ref s1.heap.objs.size,upd H1 s1.heap.objs.size (.lst xs),I1.laid (t':=s1.toks) (λb u e=>Heap.get?_push_of_some _ e) (hAa _) ?_,rfl,q _ hf⟩;exact⟨z,us,0,r,Heap.get?_push_size _ rfl⟩
end
abbrev Sp:=List V->Hp->VK->XK->Prop
abbrev CXT:=List Env->Hp->Shared->XK->Value->Shared->Prop
structure Env0(P:Program)(w:World)(K:PySem.W.Frag)(mg:Str->Option Value)(base:Heap)(A:Around)(outer:List Env)(s:Shared)(H:Hp):Prop where
 frames:A.frames=some outer
 mod:Mod K mg base
 bs:∀b o,base.get? b=some o->s.heap.get? b=some o/\H b=none
 bsz:base.objs.size<=s.heap.objs.size
 funs:s.heap.FunFrames base outer
 frf:∀b∈frs outer,H b=none
 hok:HOk P w H s.heap
 bare:AllBare s.gens
def CE(outer:List Env)(P:Program)(w:World)(H:Hp)(s:Shared)(Q:VK)(u:Value)(s':Shared):Prop :=
 ∃v H',s'.os=s.os/\AllBare s'.gens/\Un (frs outer) [] H H' s.heap s'.heap/\HOk P w H' s'.heap/\qDa v u/\Q v H'
def CR(CX:CXT)(outer:List Env)(P:Program)(w:World)(H:Hp)(s:Shared)(Q:VK)(E:XK)(r:Result)(s':Shared):Prop :=
 match r with
 |.ok (.ret u)=>CE outer P w H s Q u s'
 |.ok _=>False
 |.error e=>CX outer H s E e s'
structure FnOk(P:Program)(w:World)(K:PySem.W.Frag)(mg:Str->Option Value)(base:Heap)(CX:CXT)(k:Nat)(f:Addr)(fd:FuncData)(ps:List Str)(sp:Sp):Prop where
 len:∀vs H Q E,sp vs H Q E->vs.length=ps.length
 run:∀(A:Around) (outer:List Env) (s:Shared) (H:Hp) (args:Args) (us:List Value) (vs:List V) (Q:VK) (E:XK),Room k A->Env0 P w K mg base A outer s H->BindsTo s fd args (ps.zip us)->qBn vs us->sp vs H Q E ->
  codeAny (model P w) A (.call (.ref f) args) (CR CX outer P w H s Q E) s
theorem Env0.in1{P:Program}{w:World}{K:PySem.W.Frag}{mg:Str->Option Value}{base:Heap}{A:Around}{outer:List Env}{s:Shared}{H:Hp}(e:Env0 P w K mg base A outer s H) :
  Env0 P w K mg base A.in1 outer s H:=⟨e.frames,e.mod,e.bs,e.bsz,e.funs,e.frf,e.hok,e.bare⟩
section
variable{X:Cx}{aB:List (Addr×Obj)}{σ:St}{H:Hp}{s s':Shared}
theorem Inv.env0(I:Inv X aB σ H s):Env0 X.prog X.w X.K X.mg X.base X.A X.stack s H :=
 ⟨I.ok.frames,I.ok.mod,I.bs,hAw I.ok.bsz I.sz,I.stack,I.stkFree,I.hok,I.bare⟩
theorem Inv.after(I:Inv X aB σ H s)(h:CE X.stack X.prog X.w H s Q u s'):EP X aB σ Q u s':=by
 obtain⟨v,H',os,bare,un,hok,r,q⟩:=h;obtain⟨hh,g,d,t,os'⟩:=s';obtain rfl:os'=s.os:=os;exact⟨v,H',I.call (h':=hh) (g':=g) (d':=d) (t':=t) (ch:=[]) un hok bare (λb z=>absurd z (by simp)),r,q⟩
end
def zB3(sp:Sp)(dvs:List V)(E:XK)(t:TA):TE:=λσ H Q=>t σ H λvs H1=>sp (vs++dvs) H1 Q E
def qN5(K:PySem.W.Frag)(fd:FuncData)(ps:List Str)(ds:List Value):Prop :=
 ∀(s:Shared) (us:List Value),K.In s.heap->(us++ds).length=ps.length->BindsTo s fd ⟨us,[]⟩ (ps.zip (us++ds))
theorem qN5.all{K:PySem.W.Frag}{fd:FuncData}{ps:List Str}(h:∀us:List Value,us.length=ps.length->bindArgs fd ⟨us,[]⟩=pure (ps.zip us)):qN5 K fd ps []:=λs us _ hl=>by
 rw[hC8]at hl ⊢;exact .of_eq (h us hl)
def qQc(CX:CXT)(X:Cx)(E:XK):Prop:=∀(aB:List (Addr×Obj)) (σ:St) (H:Hp) (s:Shared) (e:Value) (s':Shared),Inv X aB σ H s->CX X.stack H s E e s'->X.xe e s'
section
variable{X:Cx}{CX:CXT}{k:Nat}{f C:Addr}{fd:FuncData}{ps:List Str}{sp:Sp}{dvs:List V}{ds:List Value}{E:XK}{x m:Str}{p pos apos:Pos}{e o:Expr}{es:List Expr}{ta:TE}{t:TA}
theorem zCi(F:FnOk X.prog X.w X.K X.mg X.base CX k f fd ps sp)(hr:Room k X.A)(hb:qN5 X.K fd ps ds)(hd:qBn dvs ds)(hx:qQc CX X E)
  (I:Inv X aB σ H s) (r:qBn vs us) (h:sp (vs++dvs) H Q E):wpAny (model X.prog X.w) X.A (call (.ref f) us) (EP X aB σ Q) X.xe s:=by
 have r2:qBn (vs++dvs) (us++ds):=r.append hd;have hl:(us++ds).length=ps.length:=by rw[<-r2.length];exact F.len _ _ _ _ h
 refine wpAny_call (hFf (F.run X.A X.stack s H ⟨us,[]⟩ (us++ds) (vs++dvs) Q E hr I.env0 (hb s us I.kIn hl) r2 h) λr s' hq=>?_);cases r with
 |error e=>exact hx aB σ H s e s' I hq
 |ok fl =>
  cases fl with
  |ret u=>exact I.after hq
  |next=>exact False.elim hq
  |brk=>exact False.elim hq
  |cont=>exact False.elim hq
theorem qNf(F:FnOk X.prog X.w X.K X.mg X.base CX k f fd ps sp)(hr:Room k X.A)(hg:Gl X x)(hm:X.mg x=some (.ref f))(hk:PySem.W.keepIn X.K (.ref f)=true)(hb:qN5 X.K fd ps ds)(hd:qBn dvs ds)(hx:qQc CX X E)
  (ha:PA X (e :: es) t) (hdb:(x == ("__debug__" : Str))=false:=by decide) (he:starEach (e :: es) X.env=(false,eval e X.env) :: starEach es X.env:=by rfl) (hpl:(backTo pos (starEach es X.env)).any (·.1)=false:=by rfl) :
  PE X (.Call (.Name x p) (e :: es) [] pos) (zB3 sp dvs E t):=by
 intro aB s σ H Q I h;refine hEz (zA4 I hg hm ?_ hdb);refine PySem.W.callWith_K (h₀:=X.base) I.ok.mod.kin hk (thn (ha pos aB s σ H _ I h) λus s1 ⟨vs,H1,I1,r,q⟩=>⟨I1.kIn,?_⟩) he hpl;exact zCi F hr hb hd hx I1 r q
structure Mk(K:PySem.W.Frag)(C f:Addr):Prop where
 makes:PySem.W.makesIn K C=true
 init:PySem.W.findIn K (.ref C) "__init__"=some (some (.ref f))
 fn:PySem.W.isFn K (.ref f)=true
 kp:PySem.W.keepIn K (.ref C)=true
end
section
variable{X:Cx}{CX:CXT}{k:Nat}{f C:Addr}{fd:FuncData}{ps ks:List Str}{sp:Sp}{E:XK}{x m:Str}{p pos apos kpos:Pos}{e o:Expr}{es:List Expr}{kws:List Keyword}{te ta:TE}{t tk:TA}{nm:Option Str}
structure KBinds(K:PySem.W.Frag)(fd:FuncData)(ps ks:List Str)(g:List Value->List Value->List Value)(gV:List V->List V->List V):Prop where
 to:∀(s:Shared) (us ws:List Value),K.In s.heap->(g us ws).length=ps.length->BindsTo s fd ⟨us,ks.zip ws⟩ (ps.zip (g us ws))
 rel:∀ {vs:List V} {us:List Value} {zs:List V} {ws:List Value},qBn vs us->qBn zs ws->qBn (gV vs zs) (g us ws)
variable{g:List Value->List Value->List Value}{gV:List V->List V->List V}
end
structure FnScope(N P:List Str)(sc:Scope):Prop where
 kind:sc.kind = .function
 co:sc.isCoroutine=false
 gen:sc.isGenerator=false
 nd:N.Nodup
 pre:N.take P.length=P
 par:∀x∈P,sc.names.lookup x=some .local\/sc.names.lookup x=some .cell
 nofree:∀y∈sc.names,y.2≠.free
theorem fsk{N P:List Str}{sc:Scope}(a:sc.kind = .function:=by rfl)(b:sc.isCoroutine=false:=by rfl)(c:sc.isGenerator=false:=by rfl)(d:N.Nodup:=by decide +kernel)(e:N.take P.length=P:=by rfl)(f:∀x∈P,sc.names.lookup x=some .local\/sc.names.lookup x=some .cell:=by decide +kernel)(g:∀y∈sc.names,y.2≠.free:=by decide +kernel):FnScope N P sc:=⟨a,b,c,d,e,f,g⟩
theorem qMf{kindOf:Str->Option NameKind}{x:Str}:∀ {binds:List (Str×Value)} {m:Str->Option Value},(∀v,(x,v)∉binds)->bindL kindOf binds m x=m x
 |[],_,_=>rfl
 |(n,v) :: r,m,h=>by
  unfold bindL;rw[qMf λw hw=>h w (hA4 _ hw)];split
  ·have:x≠n:=by rintro rfl;exact h v hA6
   simp[this]
  ·rfl
theorem qMh{kindOf:Str->Option NameKind}{x:Str}:∀ {binds:List (Str×Value)} {m:Str->Option Value},(∀v,(x,v)∉binds)->bindC kindOf binds m x=m x
 |[],_,_=>rfl
 |(n,v) :: r,m,h=>by
  unfold bindC;rw[qMh λw hw=>h w (hA4 _ hw)];split
  ·rfl
  ·have:x≠n:=by rintro rfl;exact h v hA6
   simp[this]
theorem qMg{kindOf:Str->Option NameKind}{x:Str}{v:Value}:∀ {P:List Str} {vs:List Value} {i:Nat} {m:Str->Option Value},P.Nodup->P[i]?=some x->vs[i]?=some v->kindOf x=some .local ->
  bindL kindOf (P.zip vs) m x=some v
 |[],_,_,_,_,h,_,_=>by simp at h
 |_ :: _,[],_,_,_,_,h,_=>by simp at h
 |p :: P,w :: vs,0,m,nd,h1,h2,hk=>by
  simp at h1 h2;subst h1;subst h2;show bindL kindOf ((p,w) :: P.zip vs) m p=_;unfold bindL;rw[qMf λv hv=>(hBe.mp nd).1 (List.of_mem_zip hv).1,hEn hk];simp
 |p :: P,w :: vs,i+1,m,nd,h1,h2,hk=>by
  show bindL kindOf ((p,w) :: P.zip vs) m x=_;unfold bindL;exact qMg (i:=i) (hBe.mp nd).2 (by simpa using h1) (by simpa using h2) hk
theorem qMi{kindOf:Str->Option NameKind}{x:Str}{v:Value}:∀ {P:List Str} {vs:List Value} {i:Nat} {m:Str->Option Value},P.Nodup->P[i]?=some x->vs[i]?=some v->kindOf x≠some .local ->
  bindC kindOf (P.zip vs) m x=some v
 |[],_,_,_,_,h,_,_=>by simp at h
 |_ :: _,[],_,_,_,_,h,_=>by simp at h
 |p :: P,w :: vs,0,m,nd,h1,h2,hk=>by
  simp at h1 h2;subst h1;subst h2;show bindC kindOf ((p,w) :: P.zip vs) m p=_;unfold bindC;rw[qMh λv hv=>(hBe.mp nd).1 (List.of_mem_zip hv).1,hEm hk];simp
 |p :: P,w :: vs,i+1,m,nd,h1,h2,hk=>by
  show bindC kindOf ((p,w) :: P.zip vs) m x=_;unfold bindC;exact qMi (i:=i) (hBe.mp nd).2 (by simpa using h1) (by simpa using h2) hk
noncomputable def start(N:List Str)(vs:List V):St:=vs.map some++List.replicate (N.length-vs.length) none
noncomputable def qP4(CX:CXT)(P:Program)(w:World)(K:PySem.W.Frag)(mg:Str->Option Value)(base:Heap)(N:List Str)(qual:Str)(scope:Scope)(f:Addr)(cd:Value)(A:Around)(outer:List Env)(s:Shared)(H:Hp)(E:XK):Cx where
 prog:=P
 w:=w
 K:=K
 mg:=mg
 base:=base
 A:=A.deeper (envOfC qual scope s.heap.objs.size f cd)
 N:=N
 s₀:=s
 H₀:=H
 env:=envOfC qual scope s.heap.objs.size f cd
 outer:=outer
 stack:=envOfC qual scope s.heap.objs.size f cd :: outer
 ex:=[]
 calm:=true
 fn:=λ_=>true
 pn:=[]
 xe:=λe s'=>wpAny (model P w) (A.deeper (envOfC qual scope s.heap.objs.size f cd)) (leaving (envOfC qual scope s.heap.objs.size f cd) e) (λ_ s''=>CX outer H s E e s'') (λe' s''=>CX outer H s E e' s'') s'
theorem qP8{sc:Scope}{n:Nat}{x:Str}(h:sc.names.lookup x=some .cell):∃c,(cellsFrom n sc.names []).lookup x=some c:=by
 have q:=hE4 sc.names n [] (.inl h);exact Option.isSome_iff_exists.mp q
theorem qLx{CX:CXT}{P:Program}{w:World}{K:PySem.W.Frag}{mg:Str->Option Value}{base:Heap}{N ps:List Str}{qual:Str}{scope:Scope}{f:Addr}{cd:Value}{A:Around}{outer:List Env}{s s1:Shared}{H:Hp}{E:XK}{us:List Value}{vs:List V}
  (S:FnScope N ps scope) (hd:A.handled=none) (e0:Env0 P w K mg base A outer s H) (hl:vs.length=ps.length) (r:qBn vs us)
  (x:InCallC s s.heap.objs.size (bindL (envOfC qual scope s.heap.objs.size f cd).kindOf (ps.zip us) λ_=>none) (cellsFrom (s.heap.objs.size+1) scope.names []) (bindC (envOfC qual scope s.heap.objs.size f cd).kindOf (ps.zip us) λ_=>none) s1) :
  Inv (qP4 CX P w K mg base N qual scope f cd A outer s H E) [] (start N vs) H s1:=by
 have hpl:ps.length<=N.length:=by have:=congrArg List.length S.pre;rw[hAk]at this;omega
 obtain⟨h1,tk,rfl,hk⟩:=x.done;have noA:∀b:Addr,b∉(qP4 CX P w K mg base N qual scope f cd A outer s H E).ex:=λb z=>absurd (show b∈([]:List Addr) from z) (by simp)
 refine⟨⟨e0.mod,S.kind,rfl,rfl,hAa _,λy z c h1 h2=>?_,λy hy=>?_,λy c _ h=>?_,λ_=>hd,Around.frames_deeper e0.frames,.inr ⟨rfl,rfl⟩,λb z=>absurd z (noA b),e0.bs,e0.bsz,λb _ _=>noA b,λb z=>absurd z (noA b),e0.funs,e0.frf⟩,
  rfl,e0.bare,Un.kept hk,⟨_,x.toInCall.ns,λi y v h1 h2 h3=>?_⟩,λy c h=>⟨_,x.cell y c h⟩,e0.hok.fresh (hAa _),λy c h=>?_,λp hp=>absurd (show p∈([]:List (Addr×Obj)) from hp) (by simp),e0.hok.kept hk,?_⟩
 ·exact name_of_addr x.apart (hC7 h1) (hC7 h2)
 ·have hy:scope.names.lookup y=some .cell\/scope.names.lookup y=some .free:=hy;rcases hy with hy|hy
  ·exact qP8 hy
  ·exact absurd rfl (S.nofree _ (hC7 hy))
 ·exact hB5 (x.above y c (hC7 h))
 ·have hi:i<vs.length:=by
   unfold start at h2;by_cases hi:i<vs.length
   ·exact hi
   ·rw[hDk (by simpa using hi)]at h2;rw[List.getElem?_replicate]at h2;split at h2 <;> cases h2
  have ha:vs[i]?=some v:=by
   unfold start at h2;rw[hD1 (by simpa using hi),hAi]at h2;cases e:vs[i]? with
   |none=>rw[e]at h2;cases h2
   |some a=>rw[e]at h2;cases h2;rfl
  obtain⟨u,hu,rv⟩:=r.get ha;have hp:ps[i]?=some y:=by
   rw[<-S.pre,List.getElem?_take_of_lt (by omega)];exact h1
  have ndP:ps.Nodup:=by rw[<-S.pre];exact S.nd.sublist (List.take_sublist _ _)
  refine⟨u,rv,?_⟩;rcases S.par y (hAh hp) with k|k
  ·exact .inl ⟨k,qMg ndP hp hu k⟩
  ·obtain⟨c,e⟩:=qP8 (n:=s.heap.objs.size+1) k;refine .inr ⟨.inl k,c,e,?_⟩;have q:=x.cell y c e;rw[qMi ndP hp hu (by show scope.names.lookup y≠_;rw[k];decide)]at q;exact q
 ·exact e0.hok.fresh (hB5 (x.above y c (hC7 h)))
 ·unfold start;show _=N.length;rw[hAc,hA1,hDn];omega
theorem zDi{CX:CXT}{P:Program}{w:World}{K:PySem.W.Frag}{mg:Str->Option Value}{base:Heap}{k:Nat}{f:Addr}{name qual:Str}{params:Arguments}{body:List Stmt}{scope:Scope}{dV kV doc pm cdv ct oc:Value}{an od:Option Addr}
  {osl:Array (Option Value)} {N ps:List Str} {sp:Sp} (lk:K.lookup f=some ⟨oc,od,.func (PySem.W.fnOf name qual params body scope dV kV doc pm an cdv ct),osl⟩) (hcd:PySem.W.codeIn K cdv qual=true) (S:FnScope N ps scope)
  (len:∀vs H Q E,sp vs H Q E->vs.length=ps.length)
  (hbody:∀(A:Around) (outer:List Env) (s:Shared) (H:Hp) (vs:List V) (Q:VK) (E:XK),Room k (A.deeper (envOfC qual scope s.heap.objs.size f cdv))->sp vs H Q E ->
   ∃t,PSs (qP4 CX P w K mg base N qual scope f cdv A outer s H E) body t/\t { nx:=λ_ H'=>Q .non H',rt:=Q } (start N vs) H) :
  FnOk P w K mg base CX (k+1) f (PySem.W.fnOf name qual params body scope dV kV doc pm an cdv ct) ps sp:=by
 refine⟨len,λA outer s H args us vs Q E hr e0 hb r hsp=>?_⟩;have hl:=len _ _ _ _ hsp;have KX:K.In s.heap:=e0.mod.kin.keeps λb o e=>(e0.bs b o e).1
 have lim:s.heap.NoLimit:=e0.mod.nolimit.keeps λb o e=>(e0.bs b o e).1
 have hkind:∀y∈ps.zip us,scope.names.lookup y.1=some .local\/(scope.names.lookup y.1=some .cell/\((cellsFrom (s.heap.objs.size+1) scope.names []).lookup y.1).isSome=true):=λ⟨n,v⟩ hy=>by
  rcases S.par n (List.of_mem_zip hy).1 with q|q
  ·exact .inl q
  ·exact .inr ⟨q,hE4 _ _ _ (.inl q)⟩
 refine codeAny_call_function hr.depth (KX _ _ lk) rfl S.co S.gen rfl (PySem.W.codeRec_of KX hcd) (hb _ _ _ _ ?_);refine wpAny_newFunctionEnv_cells S.kind hkind λenv he s1 x=>?_
 subst he;refine⟨lim.keeps x.toInCall.keep,codeAny_func ?_⟩;obtain⟨t,ht,hq⟩:=hbody A outer s H vs Q E (hr.deeper _) hsp;have I:Inv (qP4 CX P w K mg base N qual scope f cdv A outer s H E) [] (start N vs) H s1:=qLx S hr.hd e0 hl r x;refine hEu (ht [] s1 (start N vs) H _ I hq) (λfl s' hs=>?_) λe s' hs=>hs
 have fin:∀ {σ':St} {H':Hp} {v:V} {u:Value},Inv (qP4 CX P w K mg base N qual scope f cdv A outer s H E) [] σ' H' s'->qDa v u->Q v H'->CE outer P w H s Q u s' :=
  λ{σ' H' v u} J rv q=>⟨v,H',J.os,J.bare,J.base,J.hok,rv,q⟩
 cases fl with
 |ret u =>
  obtain⟨v,σ',H',J,rv,q⟩:=hs;exact fin J rv q
 |next =>
  obtain⟨σ',H',J,q⟩:=hs;exact fin (v:=V.non) (u:=Value.none) J rfl q
 |brk =>
  obtain⟨_,_,_,q⟩:=hs;exact False.elim q
 |cont =>
  obtain⟨_,_,_,q⟩:=hs;exact False.elim q
section
variable{X:Cx}{x:Str}{p pos:Pos}{e:Expr}{es:List Expr}{t:TA}{id T:String}{r:List V->Hp->VK->Prop}
def tCB(r:List V->Hp->VK->Prop)(t:TA):TE:=λσ H Q=>t σ H λvs H1=>r vs H1 Q
theorem qAh(hc:qB2 X (.builtin id) r)(hg:Gl X x)(hm:X.mg x=none)(hv:bootBuiltins x=some (.builtin id))(ha:PA X (e :: es) t)(hn:x≠"__name__":=by decide)(hdb:(x == ("__debug__" : Str))=false:=by decide)
  (he:starEach (e :: es) X.env=(false,eval e X.env) :: starEach es X.env:=by rfl) (hpl:(backTo pos (starEach es X.env)).any (·.1)=false:=by rfl):PE X (.Call (.Name x p) (e :: es) [] pos) (tCB r t):=by
 intro aB s σ H Q I h;refine hEz (qEw I hg hm hv ?_ hn hdb);exact PyProof.Rows.callWith_builtin1 (thn (ha pos aB s σ H _ I h) λus s1 ⟨vs,H1,I1,r1,q1⟩=>hc aB s1 σ H1 vs us Q I1 r1 q1) he hpl
theorem qBp(hc:qB2 X (.type T) r)(hg:Gl X x)(hm:X.mg x=none)(hv:bootBuiltins x=some (.type T))(ha:PA X (e :: es) t)(hn:x≠"__name__":=by decide)(hdb:(x == ("__debug__" : Str))=false:=by decide)
  (he:starEach (e :: es) X.env=(false,eval e X.env) :: starEach es X.env:=by rfl) (hpl:(backTo pos (starEach es X.env)).any (·.1)=false:=by rfl):PE X (.Call (.Name x p) (e :: es) [] pos) (tCB r t):=by
 intro aB s σ H Q I h;refine hEz (qEw I hg hm hv ?_ hn hdb);exact hCt (thn (ha pos aB s σ H _ I h) λus s1 ⟨vs,H1,I1,r1,q1⟩=>hc aB s1 σ H1 vs us Q I1 r1 q1) he hpl
end
end L2
namespace HT
open PySem PyProof.Rows
section
variable{prog:Program}{w:World}{A:Around}{E:Value->Shared->Prop}{s:Shared}
theorem cat_tup(ht:IsTup s.heap t vs.toArray)(hb:IsTup s.heap b ws.toArray)(hv:vs≠[])
  (h1:ws=[]->Q (.ref t) s) (h2:ws≠[]->Q (.ref s.heap.objs.size) { s with heap:=s.heap.push { cls:=.type "tuple",data:=.seq (vs++ws).toArray } })
  (hsz:vs.length+ws.length<=sizeLine):wpAny (model prog w) A (binaryOp .Add (.ref t) (.ref b)) Q E s:=by
 obtain⟨⟨cls,dd,data,sl⟩,ho,hc,n,hd⟩:=id ht;obtain⟨⟨cls2,dd2,data2,sl2⟩,ho2,hc2,n2,hd2⟩:=id hb;simp only at hc hd hc2 hd2;subst hc hd hc2 hd2;have e:vs.toArray++ws.toArray=(vs++ws).toArray:=by simp
 by_cases hw:ws=[]
 ·exact concat_meets ⟨_,ho,rfl⟩ ⟨_,ho2,rfl⟩ noFill_tuple_add seq_tuple_add PySem.F.slot_tuple_add PySem.F.entry_tuple_add (PySem.F.args_tuple_add_2 _ _)
   (tuple_addW1 t b vs.toArray ws.toArray n n2 dd dd2 sl sl2 (by simpa using hv) (by simp[hw])) ⟨ho,ho2,h1 hw⟩
 ·refine concat_meets ⟨_,ho,rfl⟩ ⟨_,ho2,rfl⟩ noFill_tuple_add seq_tuple_add PySem.F.slot_tuple_add PySem.F.entry_tuple_add (PySem.F.args_tuple_add_2 _ _)
   (tuple_addW2 t b vs.toArray ws.toArray n n2 dd dd2 sl sl2 (by simpa using hv) (by simpa using hw) (by rw[hAf,hAf];exact hsz)) ⟨ho,ho2,?_⟩
  rw[e];exact h2 hw
noncomputable def sIx(n d:Nat):Option Int->Nat
 |none=>d
 |some v=>if v<0 then (v+(n:Int)).toNat else min v.toNat n
theorem sIx_none(n d:Nat):sIx n d none=d:=rfl
theorem sIx_nat(n d k:Nat):sIx n d (some (k:Int))=min k n:=by
 show(if (k:Int)<0 then ((k:Int)+(n:Int)).toNat else min (k:Int).toNat n)=min k n;rw[hEm (by omega),hB8]
end
end HT
namespace L2
open PySem PySem.Spec PyProof.Rows
abbrev TO:=St->Hp->(Option Int->Hp->Prop)->Prop
def PO(X:Cx)(e:Option Expr)(t:TO):Prop :=
 ∀(aB:List (Addr×Obj)) (s:Shared) (σ:St) (H:Hp) (Q:Option Int->Hp->Prop),Inv X aB σ H s->t σ H Q ->
  wpAny (model X.prog X.w) X.A (evalPart e X.env) (λu s'=>∃o H',Inv X aB σ H' s'/\IsPart u o/\Q o H') X.xe s
def qY7:TO:=λ_ H Q=>Q none H
def zD6(t:TE):TO:=λσ H Q=>t σ H λx H1=>∃i,x = .int i/\Q (some i) H1
section
variable{X:Cx}{e:Expr}{te:TE}{lo hi:Option Expr}{tl th:TO}{pos p2:Pos}
theorem qH9:PO X none qY7:=by
 intro aB s σ H Q I h;rw[evalPart_none];exact hEk ⟨none,H,I,.none,h⟩
theorem qH8(h:PE X e te):PO X (some e) (zD6 te):=by
 intro aB s σ H Q I hw;rw[evalPart_some];refine thn (h aB s σ H _ I hw) λu s1 ⟨x,H1,I1,r1,q1⟩=>?_
 obtain⟨i,rfl,q⟩:=q1;obtain⟨t,rfl⟩:=r1;exact⟨some i,H1,I1,.int i t,q⟩
def SlR(X:Cx)(r:V->Option Int->Option Int->Hp->VK->Prop):Prop :=
 ∀(aB:List (Addr×Obj)) (s:Shared) (σ:St) (H:Hp) (x:V) (v vl vu:Value) (lo hi:Option Int) (sl:Addr) (Q:VK),Inv X aB σ H s->qDa x v->s.heap.IsSliceOf sl vl vu .none->IsPart vl lo->IsPart vu hi->r x lo hi H Q ->
  ∃T id,typeLookup (.type T) "__getitem__"=pure (some (.builtin id))/\s.TypeIs v T/\wpAny (model X.prog X.w) X.A (getItem v (.ref sl)) (EP X aB σ Q) X.xe s
def tSl(r:V->Option Int->Option Int->Hp->VK->Prop)(te:TE)(tl th:TO):TE:=λσ H Q=>te σ H λx H1=>tl σ H1 λl H2=>th σ H2 λu H3=>r x l u H3 Q
theorem qFn(hr:SlR X r)(he:PE X e te)(hl:PO X lo tl)(hu:PO X hi th):PE X (.Subscript e (.Slice lo hi none p2) pos) (tSl r te tl th):=by
 intro aB s σ H Q I h;refine Subscript_ (thn (he aB s σ H _ I h) λv s1 ⟨x,H1,I1,r1,q1⟩=>?_);refine wpAny_Slice (thn (hl aB s1 σ H1 _ I1 q1) λvl s2 ⟨l,H2,I2,pl,q2⟩=>thn (hu aB s2 σ H2 _ I2 q2) λvu s3 ⟨u,H3,I3,pu,q3⟩=>?_);rw[evalPart_none];refine hEk ?_;have I4:Inv X aB σ H3 { s3 with heap:=s3.heap.push { cls:=.type "slice",data:=.fields #[vl,vu,.none] } }:=I3.kept (t':=s3.toks) λb ob q=>Heap.get?_push_of_some _ q
 obtain⟨T,id,hT,ht,hg⟩:=hr aB { s3 with heap:=s3.heap.push { cls:=.type "slice",data:=.fields #[vl,vu,.none] } } σ H3 x v vl vu l u s3.heap.objs.size Q I4 r1 (Heap.IsSliceOf.new ..) pl pu q3;show wpAny (model X.prog X.w) X.A (subscriptTail e (.Slice lo hi none p2) v (.ref s3.heap.objs.size)) (EP X aB σ Q) X.xe { s3 with heap:=s3.heap.push { cls:=.type "slice",data:=.fields #[vl,vu,.none] } };exact tail_any (ops:=[.ref s3.heap.objs.size,v]) ht hT hg (by with_unfolding_all rfl)
noncomputable def qW2(xs:List V)(lo hi:Option Int):List V:=(xs.drop (HT.sIx xs.length 0 lo)).take (HT.sIx xs.length xs.length hi-HT.sIx xs.length 0 lo)
theorem qNv(xs:List V)(lo hi:Option Int):(qW2 xs lo hi).length<=xs.length:=by
 unfold qW2;rw[hAk,List.length_drop];omega
def zEp(K:PySem.W.Frag):R2:=λx y H Q=>∃a b xs ys,x = .ref a/\y = .ref b/\SqT K H a xs/\SqT K H b ys/\xs≠[]/\xs.length+ys.length<=sizeLine /\
 (ys=[]->Q (.ref a) H)/\(ys≠[]->∀p,H p=none->Q (.ref p) (upd H p (.tup (xs++ys))))
theorem qBn.nil_iff(r:qBn xs us):us=[]↔xs=[]:=by
 cases r with
 |nil=>simp
 |cons _ _=>simp
theorem qSv:OpR X (binaryOp .Add) (zEp X.K):=by
 intro aB s σ H x y v u Q I rx ry h;obtain⟨a,b,xs,ys,rfl,rfl,ha,hb,hx,hz,q1,q2⟩:=h;cases rx;cases ry;obtain⟨its,r1,p1,_⟩:=I.tuple ha;obtain⟨its2,r2,p2,_⟩:=I.tuple hb;refine HT.cat_tup p1 p2 (λz=>hx (r1.nil_iff.mp z)) (λz=>⟨.ref a,H,I,rfl,q1 (r2.nil_iff.mp z)⟩) (λz=>?_) (by rw[<-r1.length,<-r2.length];exact hz);refine⟨.ref s.heap.objs.size,_,I.laid (t':=s.toks) (o:=.tup (xs++ys)) (λb ob q=>Heap.get?_push_of_some _ q) (hAa _) ?_,rfl,q2 (λw=>z (r2.nil_iff.mpr w)) _ (I.hok.fresh (hAa _))⟩;exact⟨by rw[hAc];exact hz,_,r1.append r2,IsTup.new _ _⟩
end
noncomputable def ixN(n:Nat)(i:Int):Option Nat:=if 0<=i then (if i<n then some i.toNat else none) else if -(n:Int)<=i then some (i+n).toNat else none
noncomputable def atI{α:Type}(xs:List α)(i:Int):Option α:=(ixN xs.length i).bind λj=>xs[j]?
theorem zA8(h:ixN n i=some j):seqIndex? i n=some j/\j<n/\-(n:Int)<=i/\i<n:=by
 unfold ixN at h;by_cases h0:0<=i
 ·rw[hEn h0]at h;by_cases h1:i<n
  ·rw[hEn h1]at h;have e:i.toNat=j:=hAq h;exact⟨by rw[seqIndex_of h0 h1,e],by omega,by omega,h1⟩
  ·rw[hEm h1]at h;cases h
 ·rw[hEm h0]at h;by_cases h1:-(n:Int)<=i
  ·rw[hEn h1]at h;have e:(i+n).toNat=j:=hAq h;exact⟨by rw[seqIndex_neg (by omega) h1,e],by omega,h1,by omega⟩
  ·rw[hEm h1]at h;cases h
theorem qN1(h:atI xs i=some v):∃j,seqIndex? i xs.length=some j/\xs[j]?=some v/\j<xs.length/\-(xs.length:Int)<=i/\i<xs.length:=by
 unfold atI at h;cases e:ixN xs.length i with
 |none=>rw[e]at h;cases h
 |some j =>
  rw[e]at h;obtain⟨h1,h2,h3,h4⟩:=zA8 e;exact⟨j,h1,h,h2,h3,h4⟩
theorem qAy{α:Type}{xs:List α}{j:Nat}{v:α}(h:xs[j]?=some v):atI xs (j:Int)=some v:=by
 have hj:j<xs.length:=(hAm.mp h).1;have e:ixN xs.length (j:Int)=some j:=by
  unfold ixN;rw[hEn (by omega),hEn (by omega)];simp
 unfold atI;rw[e];exact h
theorem qW9(xs:List α)(v:α):atI (xs++[v]) (-1)=some v:=by
 have hl:(xs++[v]).length=xs.length+1:=by simp
 have e:ixN (xs++[v]).length (-1)=some xs.length:=by
  unfold ixN;rw[hl,hEm (by decide),hEn (by omega)];congr 1;omega
 unfold atI;rw[e];show(xs++[v])[xs.length]?=some v;simp
def zBt(b:Expr):Prop:=∀o i,subscripted b false o i=operate [o,i] (getItem o i)
def IxR(X:Cx)(r:R2):Prop :=
 ∀(value slice:Expr) (aB:List (Addr×Obj)) (s:Shared) (σ:St) (H:Hp) (x y:V) (v u:Value) (Q:VK),Inv X aB σ H s->qDa x v->qDa y u->r x y H Q ->
  subscripted slice false v u=operate [v,u] (getItem v u)->wpAny (model X.prog X.w) X.A (subscriptTail value slice v u) (EP X aB σ Q) X.xe s
def MtR(X:Cx)(id:String)(r:V->List V->Hp->VK->Prop):Prop :=
 ∀(aB:List (Addr×Obj)) (s:Shared) (σ:St) (H:Hp) (x:V) (xs:List V) (v:Value) (us:List Value) (Q:VK),Inv X aB σ H s->qDa x v->qBn xs us->r x xs H Q ->
  wpAny (model X.prog X.w) X.A (call (.builtin id) (v :: us)) (EP X aB σ Q) X.xe s
section
variable{X:Cx}{a b:Expr}{ta tb:TE}{pos:Pos}
theorem qBh(hr:IxR X r)(ha:PE X a ta)(hb:PE X b tb)(hs:zBt b):PE X (.Subscript a b pos) (tOp r ta tb):=by
 intro aB s σ H Q I h;exact Subscript_ (zE2 ha hb I h λv u s2 x y H2 I2 rx ry q=>hr a b aB s2 σ H2 x y v u Q I2 rx ry q (hs _ _))
def zEo(K:PySem.W.Frag):R2:=λx y H Q=>∃p xs i v,x = .ref p/\y = .int i/\SqL K H p xs/\atI xs i=some v/\Q v H
def qO2(K:PySem.W.Frag):R2:=λx y H Q=>∃p xs i v,x = .ref p/\y = .int i/\SqT K H p xs/\atI xs i=some v/\Q v H
def zFx:R2:=λx y H Q=>∃z i c,x = .str z/\y = .int i/\z.length<=sizeLine/\atI z.cps.toList i=some c/\Q (.str ⟨#[c]⟩) H
theorem qBx:IxR X (zEo X.K):=by
 intro value slice aB s σ H x y v u Q I rx ry h hs;obtain⟨p,xs,i,z,rfl,rfl,hq,he,q⟩:=h;cases rx;obtain⟨t,rfl⟩:=ry;obtain⟨its,r,pl,hz⟩:=I.list hq;obtain⟨j,h1,h2,h3,h4,h5⟩:=qN1 he;obtain⟨w,ew,rw'⟩:=r.get h2;have hl:=r.length;have hn:=qLt;have fin:EP X aB σ Q w s:=⟨z,H,I,rw',q⟩;by_cases h0:0<=i
 ·have hj:i.toNat=j:=by
   rw[seqIndex_of h0 h5]at h1;exact hAq h1
  exact item_listR pl.isList h0 (by omega) (by rw[hj];simpa using ew) fin hs
 ·have hj:(i+(its.toArray.size:Int)).toNat=j:=by
   rw[seqIndex_neg (by omega) h4]at h1;rw[hAf,<-hl];exact hAq h1
  exact subscriptTail_builtinR (x:=w) pl.isList.typeIs slot_list_getitem.lookup
   (wpAny_getItem_list_neg (Q:=λr s'=>r=w/\EP X aB σ Q r s') pl.isList (by omega) (by rw[hAf] <;> omega) (by omega) (by rw[hj];simpa using ew) ⟨rfl,fin⟩) hs
theorem qBq:IxR X (qO2 X.K):=by
 intro value slice aB s σ H x y v u Q I rx ry h hs;obtain⟨p,xs,i,z,rfl,rfl,hq,he,q⟩:=h;cases rx;obtain⟨t,rfl⟩:=ry;obtain⟨its,r,pl,hz⟩:=I.tuple hq;obtain⟨j,h1,h2,h3,h4,h5⟩:=qN1 he;obtain⟨w,ew,rw'⟩:=r.get h2;have hl:=r.length;have hn:=qLt;have fin:EP X aB σ Q w s:=⟨z,H,I,rw',q⟩;exact subscriptTail_builtinR (x:=w) pl.typeIs slot_tuple_getitem.lookup
  (getItem_tuple (j:=j) (Q:=λr s'=>r=w/\EP X aB σ Q r s') pl (by omega) (by omega) (by rw[hAf,<-hl];exact h1) (by simpa using ew) ⟨rfl,fin⟩) hs
theorem qYg:IxR X zFx:=by
 intro value slice aB s σ H x y v u Q I rx ry h hs;obtain⟨z,i,c,rfl,rfl,hz,he,q⟩:=h;obtain⟨t,rfl⟩:=rx;obtain⟨t',rfl⟩:=ry;obtain⟨j,h1,h2,h3,h4,h5⟩:=qN1 he;have hl:z.cps.toList.length=z.length:=by simp[Str.length]
 rw[hl]at h1 h4 h5;have hn:=qLt;exact tail_any (typeIs_str s z t) slot_str_getitem.lookup (getItem_str (c:=c) (by
  have e1:decide (i < -(2^63:Int))=false:=hEj (by omega);have e2:decide (i >= 2^63)=false:=hEj (by omega);rw[e1,e2,Bool.or_false]) (by rw[h1];simpa using h2) ⟨.str ⟨#[c]⟩,H,I.tok _,⟨_,rfl⟩,q⟩) hs
theorem qK3(lo hi:Option Int)(n:Nat):(sliceBounds lo hi none n).1=((HT.sIx n 0 lo:Nat):Int)/\(sliceBounds lo hi none n).2.1=((HT.sIx n n hi:Nat):Int)/\(sliceBounds lo hi none n).2.2=1:=by
 refine⟨?_,?_,rfl⟩
 ·cases lo with
  |none=>simp[sliceBounds,HT.sIx]
  |some i =>
   simp only[sliceBounds,HT.sIx,Option.getD_none,show(1:Int) > 0 by decide,if_true];by_cases h:i<0
   ·simp only[h,if_true] <;> omega
   ·simp only[h,hFh] <;> omega
 ·cases hi with
  |none=>simp[sliceBounds,HT.sIx]
  |some i =>
   simp only[sliceBounds,HT.sIx,Option.getD_none,show(1:Int) > 0 by decide,if_true];by_cases h:i<0
   ·simp only[h,if_true] <;> omega
   ·simp only[h,hFh] <;> omega
theorem qJ1(its:List Value)(lo hi:Option Int):slicePick its.toArray lo hi none=((its.drop (HT.sIx its.length 0 lo)).take (HT.sIx its.length its.length hi-HT.sIx its.length 0 lo)).toArray:=by
 obtain⟨h1,h2,h3⟩:=qK3 lo hi its.toArray.size;unfold slicePick;rw[h1,h2,h3];simp only[sliceRange_one,pick_run,hAf] <;> rfl
def zFv(K:PySem.W.Frag):V->Option Int->Option Int->Hp->VK->Prop:=λx lo hi H Q=>∃a xs,x = .ref a/\SqL K H a xs/\∀p,H p=none->Q (.ref p) (upd H p (.lst (qW2 xs lo hi)))
theorem qMx:SlR X (zFv X.K):=by
 intro aB s σ H x v vl vu lo hi sl Q I rx hs pl pu h;obtain⟨a,xs,rfl,hx,q⟩:=h;cases rx;obtain⟨its,r,ht,hz⟩:=I.list hx;have hlen:=r.length;refine⟨"list",_,slot_list_getitem.lookup,ht.isList.typeIs,?_⟩;refine wpAny_getItem_list_slice ht.isList hs pl pu .none (by simp) ?_ (by rw[hAf] <;> omega);rw[qJ1,<-hlen];refine⟨.ref s.heap.objs.size,_,I.laid (t':=s.toks) (o:=.lst (qW2 xs lo hi)) (λb ob q=>Heap.get?_push_of_some _ q) (hAa _) ?_,rfl,q _ (I.hok.fresh (hAa _))⟩;exact⟨hAw (qNv xs lo hi) hz,_,0,(r.drop (HT.sIx xs.length 0 lo)).take (HT.sIx xs.length xs.length hi-HT.sIx xs.length 0 lo),Heap.get?_push_size _ rfl⟩
noncomputable def qIx:V->Bool
 |.non=>true
 |.bl _=>true
 |.int _=>true
 |.str _=>true
 |_=>false
noncomputable def eqV:V->V->Bool
 |.non,.non=>true
 |.bl a,.bl b=>a == b
 |.bl a,.int b=>(if a then 1 else 0) == b
 |.int a,.bl b=>a == (if b then 1 else 0)
 |.int a,.int b=>a == b
 |.str a,.str b=>a == b
 |_,_=>false
theorem zDo(ry:qDa y u)(rx:qDa x v)(fy:qIx y=true)(fx:qIx x=true):SeqAt.EqAt A s u v (eqV y x):=by
 cases y with
 |non =>
  cases ry;cases x with
  |non=>cases rx;exact SeqAt.EqAt.same _
  |bl b=>cases rx;exact SeqAt.EqAt.none_bool b
  |int b=>obtain⟨t,rfl⟩:=rx;exact SeqAt.EqAt.none_int b t
  |str b=>obtain⟨t,rfl⟩:=rx;exact SeqAt.EqAt.none_str b t
  |_=>exact absurd (show false=true from fx) hAz
 |bl a =>
  cases ry;cases x with
  |non=>cases rx;exact SeqAt.EqAt.bool_none a
  |bl b=>cases rx;exact SeqAt.EqAt.bool_bool a b
  |int b=>obtain⟨t,rfl⟩:=rx;exact SeqAt.EqAt.bool_int a b t
  |str b=>obtain⟨t,rfl⟩:=rx;exact SeqAt.EqAt.bool_str a b t
  |_=>exact absurd (show false=true from fx) hAz
 |int a =>
  obtain⟨t',rfl⟩:=ry;cases x with
  |non=>cases rx;exact SeqAt.EqAt.int_none a t'
  |bl b=>cases rx;exact SeqAt.EqAt.int_bool a t' b
  |int b=>obtain⟨t,rfl⟩:=rx;exact SeqAt.EqAt.int_int a t' b t
  |str b=>obtain⟨t,rfl⟩:=rx;exact SeqAt.EqAt.int_str a t' b t
  |_=>exact absurd (show false=true from fx) hAz
 |str a =>
  obtain⟨t',rfl⟩:=ry;cases x with
  |non=>cases rx;exact SeqAt.EqAt.str_none a t'
  |bl b=>cases rx;exact SeqAt.EqAt.str_bool a t' b
  |int b=>obtain⟨t,rfl⟩:=rx;exact SeqAt.EqAt.str_int a t' b t
  |str b=>obtain⟨t,rfl⟩:=rx;exact SeqAt.EqAt.str_str a t' b t
  |_=>exact absurd (show false=true from fx) hAz
 |_=>exact absurd (show false=true from fy) hAz
noncomputable def eqU(x:V)(u:Value):Bool:=match u with
 |.none=>eqV .non x
 |.bool b=>eqV (.bl b) x
 |.int i _=>eqV (.int i) x
 |.str z _=>eqV (.str z) x
 |_=>false
theorem qYl(r:qDa y u)(f:qIx y=true):eqU x u=eqV y x:=by
 cases y with
 |non=>cases r;rfl
 |bl b=>cases r;rfl
 |int i=>obtain⟨t,rfl⟩:=r;rfl
 |str z=>obtain⟨t,rfl⟩:=r;rfl
 |_=>exact absurd (show false=true from f) hAz
theorem qIs:∀ {xs:List V} {us:List Value},qBn xs us->xs.all qIx=true->us.any (eqU x)=xs.any λy=>eqV y x
 |_,_,.nil,_=>rfl
 |y :: xs,u :: us,.cons r t,f=>by
  rw[List.all_cons,hCi]at f;rw[List.any_cons,List.any_cons,qYl r f.1,qIs t f.2]
theorem qFs(rx:qDa x v)(fx:qIx x=true):∀ {xs:List V} {us:List Value},qBn xs us->xs.all qIx=true->∀u∈us,SeqAt.EqAt A s u v (eqU x u)
 |_,_,.nil,_=>λu hu=>by cases hu
 |y :: xs,u :: us,.cons r t,f=>λu' hu=>by
  rw[List.all_cons,hCi]at f;rcases hAg.mp hu with rfl|hu
  ·rw[qYl r f.1];exact zDo r rx f.1 fx
  ·exact qFs rx fx t f.2 u' hu
noncomputable def inV(x:V)(xs:List V):Bool:=xs.any λy=>eqV y x
def rIn(K:PySem.W.Frag)(neg:Bool):R2:=λx y H Q=>∃p xs,y = .ref p/\(SqL K H p xs\/SqT K H p xs)/\qIx x=true/\xs.all qIx=true/\Q (.bl (if neg then !inV x xs else inV x xs)) H
theorem qFr:OpR X (compareOp .In) (rIn X.K false):=by
 intro aB s σ H x y v u Q I rx ry h;obtain⟨p,xs,rfl,hq,fx,fs,q⟩:=h;cases ry;rcases hq with hq|hq
 ·obtain⟨its,r,pl,hz⟩:=I.list hq;refine SeqAt.in_listAt (eqU x) pl.isList (λw hw=>qFs rx fx r fs w (by simpa using hw)) ⟨.bl _,H,I,rfl,?_⟩;rw[show its.toArray.any (eqU x)=its.any (eqU x) by simp,qIs r fs];exact q
 ·obtain⟨its,r,pl,hz⟩:=I.tuple hq;refine SeqAt.in_tupleAt (eqU x) pl (λw hw=>qFs rx fx r fs w (by simpa using hw)) ⟨.bl _,H,I,rfl,?_⟩;rw[show its.toArray.any (eqU x)=its.any (eqU x) by simp,qIs r fs];exact q
theorem qCs:OpR X (compareOp .NotIn) (rIn X.K true):=by
 intro aB s σ H x y v u Q I rx ry h;obtain⟨p,xs,rfl,hq,fx,fs,q⟩:=h;cases ry;rcases hq with hq|hq
 ·obtain⟨its,r,pl,hz⟩:=I.list hq;refine SeqAt.notIn_listAt (eqU x) pl.isList (λw hw=>qFs rx fx r fs w (by simpa using hw)) ⟨.bl _,H,I,rfl,?_⟩;rw[show its.toArray.any (eqU x)=its.any (eqU x) by simp,qIs r fs];exact q
 ·obtain⟨its,r,pl,hz⟩:=I.tuple hq;refine SeqAt.notIn_tupleAt (eqU x) pl (λw hw=>qFs rx fx r fs w (by simpa using hw)) ⟨.bl _,H,I,rfl,?_⟩;rw[show its.toArray.any (eqU x)=its.any (eqU x) by simp,qIs r fs];exact q
theorem qAi:qB2 X (.builtin "len") (λxs H Q=>∃p ys,xs=[.ref p]/\(SqL X.K H p ys\/SqT X.K H p ys)/\Q (.int ys.length) H):=by
 intro aB s σ H xs us Q I r h;obtain⟨p,ys,rfl,hq,q⟩:=h;obtain⟨u,rfl,rx⟩:=qCy r;cases rx;have hn:=qLt;rcases hq with hq|hq
 ·obtain⟨its,r',pl,hz⟩:=I.list hq;have hlen:=r'.length;exact Calls.call_len_list pl.isList (by simp only[hAf] <;> omega) ⟨.int ys.length,H,I.tok _,⟨s.toks+1,by rw[hAf,hlen]⟩,q⟩
 ·obtain⟨its,r',pl,hz⟩:=I.tuple hq;have hlen:=r'.length;exact len_tuple pl (by simp only[hAf] <;> omega) ⟨.int ys.length,H,I.tok _,⟨s.toks+1,by rw[hAf,hlen]⟩,q⟩
theorem qMc:qB2 X (.builtin "len") (λxs H Q=>∃z,xs=[.str z]/\z.length<=sizeLine/\Q (.int z.length) H):=by
 intro aB s σ H xs us Q I r h;obtain⟨z,rfl,hz,q⟩:=h;obtain⟨u,rfl,t,rfl⟩:=qCy r;have hn:=qLt;exact len_str (by omega) ⟨.int z.length,H,I.tok _,⟨_,rfl⟩,q⟩
theorem qEe:qB2 X (.type "list") (λxs H Q=>∃p ys,xs=[.ref p]/\(SqL X.K H p ys\/SqT X.K H p ys)/\∀l,H l=none->Q (.ref l) (upd H l (.lst ys))):=by
 intro aB s σ H xs us Q I r h;obtain⟨p,ys,rfl,hq,q⟩:=h;obtain⟨u,rfl,rx⟩:=qCy r;cases rx;have fin:∀(its:List Value),qBn ys its->ys.length<=sizeLine->∀(h':Heap) (c':Nat),(∀b o',s.heap.get? b=some o'->h'.get? b=some o') ->
   h'.get? s.heap.objs.size=some { cls:=.type "list",dict:=none,data:=.seq its.toArray c',slots:=#[] }->EP X aB σ Q (.ref s.heap.objs.size) { s with heap:=h' }:=λits r' hz h' c' kp e =>
  ⟨.ref s.heap.objs.size,_,I.laid (t':=s.toks) kp (hAa _) (show qC1 X.prog X.w _ h' _ (.lst ys) from ⟨hz,its,c',r',e⟩),rfl,q _ (I.hok.fresh (hAa _))⟩
 rcases hq with hq|hq
 ·obtain⟨its,r',pl,hz⟩:=I.list hq;have hlen:=r'.length;obtain⟨o,ho,hc,n,hd⟩:=pl.isList;exact call_list_seq p (.inl rfl) ho hc hd (λh' c' kp e=>fin its r' hz h' c' kp e) (by simp only[hAf] <;> omega)
 ·obtain⟨its,r',pl,hz⟩:=I.tuple hq;have hlen:=r'.length;obtain⟨o,ho,hc,n,hd⟩:=pl;exact call_list_seq p (.inr rfl) ho hc hd (λh' c' kp e=>fin its r' hz h' c' kp e) (by simp only[hAf] <;> omega)
theorem qF3:qB2 X (.type "tuple") (λxs H Q=>∃p ys,xs=[.ref p]/\((SqL X.K H p ys/\∀l,H l=none->Q (.ref l) (upd H l (.tup ys)))\/(SqT X.K H p ys/\Q (.ref p) H))):=by
 intro aB s σ H xs us Q I r h;obtain⟨p,ys,rfl,h⟩:=h;obtain⟨u,rfl,rx⟩:=qCy r;cases rx;rcases h with ⟨hq,q⟩|⟨hq,q⟩
 ·obtain⟨its,r',pl,hz⟩:=I.list hq;have hlen:=r'.length;refine call_tuple_list pl.isList (λh' kp=>?_) (by simp only[hAf] <;> omega);have I1:Inv X aB σ H { s with heap:=h' }:=I.kept (t':=s.toks) kp;have I2:Inv X aB σ (upd H h'.objs.size (.tup ys)) { s with heap:=h'.push { cls:=.type "tuple",data:=.seq its.toArray } } :=
   I1.laid (t':=s.toks) (λb o e=>Heap.get?_push_of_some _ e) (hAa _) (show qC1 X.prog X.w _ _ _ (.tup ys) from ⟨hz,its,r',IsTup.new _ _⟩)
  exact⟨.ref h'.objs.size,_,I2,rfl,q _ (I1.hok.fresh (hAa _))⟩
 ·obtain⟨its,r',pl,hz⟩:=I.tuple hq;exact call_tuple_same pl ⟨.ref p,H,I,rfl,q⟩
def tyV(K:PySem.W.Frag)(T:String)(x:V)(H:Hp):Prop:=match x with
 |.str _=>T = "str"
 |.int _=>T = "int"
 |.ref p=>(T = "list"/\∃xs,SqL K H p xs)\/(T = "tuple"/\∃o,K.lookup p=some o/\o.cls = .type "tuple"/\o.dict=none) \/
   (T = "dict"/\((∃kvs,H p=some (.dK kvs))\/∃kvs,H p=some (.dT kvs)))\/(T = "set"/\∃S n,H p=some (.set S n))
 |_=>False
theorem qXc(I:Inv X aB σ H s)(r:qDa x v)(ty:tyV X.K T x H) :
  s.TypeIs v T/\∀a,v = .ref a->∃ob,s.heap.get? a=some ob/\ob.dict=none:=by
 cases x with
 |str z =>
  obtain⟨t,rfl⟩:=r;cases(show T = "str" from ty);exact⟨typeIs_str s z t,λ_ e=>nomatch e⟩
 |int i =>
  obtain⟨t,rfl⟩:=r;cases(show T = "int" from ty);exact⟨typeIs_int s i t,λ_ e=>nomatch e⟩
 |ref p =>
  cases r;rcases ty with ⟨rfl,xs,hq⟩|⟨rfl,o,hk,hc,hd⟩|⟨rfl,hk⟩|⟨rfl,S,n,hk⟩
  ·obtain⟨its,_,pl,_⟩:=I.list hq;refine⟨pl.isList.typeIs,λa e=>?_⟩;cases e;obtain⟨o,n,e,c,hd,_⟩:=pl;exact⟨o,e,hd⟩
  ·refine⟨⟨o,I.kIn p o hk,hc⟩,λa e=>?_⟩;cases e;exact⟨o,I.kIn _ o hk,hd⟩
  ·have z:∃o,s.heap.get? p=some o/\o.ExactDict:=by
    rcases hk with ⟨kvs,hk⟩|⟨kvs,hk⟩
    ·obtain⟨_,_,_,_,o,_,_,e,ex,_⟩:=I.hok p _ hk;exact⟨o,e,ex⟩
    ·obtain⟨_,_,_,_,o,_,_,e,ex,_⟩:=I.hok p _ hk;exact⟨o,e,ex⟩
   obtain⟨o,e,ex⟩:=z;refine⟨⟨o,e,ex.1⟩,λa e2=>?_⟩;cases e2;exact⟨o,e,ex.2.1⟩
  ·obtain⟨o,_,_,_,e,ex,_⟩:=I.hok p _ hk;refine⟨⟨o,e,ex.1⟩,λa e2=>?_⟩;cases e2;exact⟨o,e,ex.2.1⟩
 |_=>exact False.elim ty
def zFs(K:PySem.W.Frag)(T:String)(r:V->List V->Hp->VK->Prop)(to:TE):TE:=λσ H Q=>to σ H λx H1=>tyV K T x H1/\r x [] H1 Q
def tBM(K:PySem.W.Frag)(T:String)(r:V->List V->Hp->VK->Prop)(to:TE)(t:TA):TE:=λσ H Q=>to σ H λx H1=>tyV K T x H1/\t σ H1 λxs H2=>r x xs H2 Q
variable{o e:Expr}{es:List Expr}{to:TE}{t:TA}{name:Str}{apos cpos:Pos}{T id:String}{r:V->List V->Hp->VK->Prop}
theorem qX7(pa:PlainAttrs T)(slot:Slot T name id)(hty:typeOf (.builtin id)=pure (.type "method_descriptor"))(hm:MtR X id r)(ho:PE X o to)
  (hbase:attributeBase o name X.env (eval o X.env)=eval o X.env:=by rfl) (hline:(apos.endLine == cpos.line)=true:=by rfl):PE X (.Call (.Attribute o name apos) [] [] cpos) (zFs X.K T r to):=by
 intro aB s σ H Q I h;refine wpAny_Call_method0_late hbase hline (thn (ho aB s σ H _ I h) λv s1 ⟨x,H1,I1,r1,ty,q1⟩=>?_);obtain⟨h1,h2⟩:=qXc I1 r1 ty;exact⟨T,id,pa,slot,hty,h1,h2,Calls.callWith_builtin rfl (PySem.evalArgs_none (hm aB s1 σ H1 x [] v [] Q I1 r1 .nil q1))⟩
theorem qDu(pa:PlainAttrs T)(slot:Slot T name id)(hty:typeOf (.builtin id)=pure (.type "method_descriptor"))(hm:MtR X id r)(ho:PE X o to)(ha:PA X (e :: es) t)
  (hbase:attributeBase o name X.env (eval o X.env)=eval o X.env:=by rfl)
  (hfew:((backTo cpos (starEach (e :: es) X.env)).all (λx=>!x.1) && (backToKw cpos (keywordEach [] X.env)).all (λx=>x.1.isSome)
   && decide ((e :: es).length+([]:List Keyword).length+(if ([]:List Keyword).isEmpty then 0 else 1)<30))=true:=by rfl)
  (hline:(apos.endLine == cpos.line)=true:=by rfl) (hs:starEach (e :: es) X.env=(false,eval e X.env) :: starEach es X.env:=by rfl) (hplain:(backTo cpos (starEach es X.env)).any (·.1)=false:=by rfl) :
  PE X (.Call (.Attribute o name apos) (e :: es) [] cpos) (tBM X.K T r to t):=by
 intro aB s σ H Q I h;refine wpAny_Call_method_late hbase hfew hline rfl (thn (ho aB s σ H _ I h) λv s1 ⟨x,H1,I1,r1,ty,q1⟩=>?_);obtain⟨h1,h2⟩:=qXc I1 r1 ty;refine⟨T,id,pa,slot,hty,h1,h2,?_⟩;have hA:=ha cpos aB s1 σ H1 _ I1 q1;rw[hs]at hA ⊢;refine Calls.callWith_builtin (by show(false || (backTo cpos (starEach es X.env)).any (·.1))=false;rw[hplain] <;> rfl) (Calls.evalArgs_plain ?_);exact thn hA λus s2 ⟨vs,H2,I2,r2,q2⟩=>hm aB s2 σ H2 x vs v us Q I2 r1 r2 q2
end
def MtM(X:Cx)(id:String)(r:V->List V->Hp->VK->Prop):Prop :=
 ∀(aB:List (Addr×Obj)) (s:Shared) (σ:St) (H:Hp) (x:V) (xs:List V) (v:Value) (us:List Value) (Q:VK),Inv X aB σ H s->qDa x v->qBn xs us->r x xs H Q ->
  wpAny (model X.prog X.w) X.A (call (.builtin id) (v :: us)) (EP X aB σ Q) X.xe s
theorem qBn.one:∀ {x:V} {us:List Value},qBn [x] us->∃u,us=[u]/\qDa x u
 |_,_,.cons r .nil=>⟨_,rfl,r⟩
theorem qBn.zero:∀ {us:List Value},qBn [] us->us=[]
 |_,.nil=>rfl
theorem qBn.eraseIdx:∀ {xs:List V} {us:List Value} (i:Nat),qBn xs us->qBn (xs.eraseIdx i) (us.eraseIdx i)
 |_,_,_,.nil=>.nil
 |_,_,0,.cons _ t=>t
 |_,_,i+1,.cons r t=>.cons r (qBn.eraseIdx i t)
theorem qBn.reverse(h:qBn xs us):qBn xs.reverse us.reverse:=by
 induction h with
 |nil=>exact .nil
 |cons r t ih=>rw[List.reverse_cons,List.reverse_cons];exact qBn.append ih (.cons r .nil)
theorem qLu:∀(l:List α) (i:Nat),(l.eraseIdx i).length<=l.length
 |[],_=>hAa _
 |_ :: _,0=>hBk _
 |_ :: r,i+1=>hC9 (qLu r i)
section
variable{X:Cx}{aB:List (Addr×Obj)}{σ:St}{H:Hp}{s:Shared}{l b:Addr}{xs ys zs:List V}
theorem Inv.lset{its its':List Value}{n:Nat}{f:Array Value->Array Value}{t':Nat}(I:Inv X aB σ H s)(hH:H l=some (.lst xs))
  (e:s.heap.get? l=some { cls:=.type "list",data:=.seq its.toArray n }) (hf:f its.toArray=its'.toArray) (hv:qBn ys its') (hz:ys.length<=sizeLine) :
  Inv X aB σ (upd H l (.lst ys)) { s with heap:=s.heap.update l (Obj.mapSeq f),toks:=t' }:=by
 have q:=PySem.IsL.update e f;rw[hf]at q;refine I.write (x:=l) (e:=l) (by rw[hH];exact trivial) (.inl rfl) (λb' u hb hu=>(Heap.get?_update_other s.heap (Obj.mapSeq f) (Ne.symm hb)).trans hu) ⟨_,q⟩ ?_;exact⟨hz,its',_,hv,q⟩
theorem Inv.lnew(I:Inv X aB σ H s)(hv:qBn ys its)(hz:ys.length<=sizeLine) :
  Inv X aB σ (upd H s.heap.objs.size (.lst ys)) { s with heap:=s.heap.push { cls:=.type "list",data:=.seq its.toArray },toks:=t' } :=
 I.laid (λ_ _ q=>Heap.get?_push_of_some _ q) (hAa _) ⟨hz,its,0,hv,Heap.get?_push_size _ rfl⟩
theorem Inv.fresh(I:Inv X aB σ H s):H s.heap.objs.size=none:=I.hok.fresh (hAa _)
theorem Inv.lstM(I:Inv X aB σ H s)(hH:H l=some (.lst xs)):xs.length<=sizeLine/\∃(its:List Value) (n:Nat),qBn xs its/\xs.length=its.length/\s.heap.get? l=some { cls:=.type "list",data:=.seq its.toArray n }:=by
 obtain⟨z,its,n,r,e⟩:=I.hok l _ hH;exact⟨z,its,n,r,r.length,e⟩
theorem qWj(h:n<=sizeLine):Builtin.List.listTooLong n=false:=by
 unfold Builtin.List.listTooLong;exact hEj (by omega)
end
section
variable{X:Cx}
def qZw:V->List V->Hp->VK->Prop:=λx vs H Q=>∃l xs y,x = .ref l/\vs=[y]/\H l=some (.lst xs)/\xs.length<sizeLine/\Q .non (upd H l (.lst (xs++[y])))
theorem qBw:MtM X "list.append" qZw:=by
 intro aB s σ H x vs v us Q I rx rv h;obtain⟨l,xs,y,rfl,rfl,hH,hz,q⟩:=h;cases rx;obtain⟨u,rfl,ru⟩:=rv.one;obtain⟨z,its,n,r,hl,e⟩:=I.lstM hH;refine hFc F.slot_list_append ⟨_,e,rfl⟩ F.entry_list_append (F.args_list_append_2 _ _) (PySem.list_append l its.toArray n u (by rw[hAf];omega)) ⟨e,?_⟩;refine⟨.non,_,I.lset (its':=its++[u]) hH e (by simp) (r.append (.cons ru .nil)) ?_,rfl,q⟩;rw[hAc,List.length_singleton];omega
def qZv:V->List V->Hp->VK->Prop:=λx vs H Q=>∃l b xs zs,x = .ref l/\vs=[.ref b]/\H l=some (.lst xs)/\H b=some (.lst zs)/\xs.length+zs.length<=sizeLine/\Q .non (upd H l (.lst (xs++zs)))
theorem qS4:MtM X "list.extend" qZv:=by
 intro aB s σ H x vs v us Q I rx rv h;obtain⟨l,b,xs,zs,rfl,rfl,hH,hB,hz,q⟩:=h;cases rx;obtain⟨u,rfl,ru⟩:=rv.one;cases ru;obtain⟨z,its,n,r,hl,e⟩:=I.lstM hH;obtain⟨z2,its2,n2,r2,hl2,e2⟩:=I.lstM hB;have hsz:its.toArray.size+its2.toArray.size<=sizeLine:=by rw[hAf,hAf];omega
 have hlong:¬(!its.toArray.isEmpty && Builtin.List.listTooLong (its.toArray.size+its2.toArray.size))=true:=by
  rw[qWj hsz,hE3];exact hAz
 refine hFc F.slot_list_extend ⟨_,e,rfl⟩ F.entry_list_extend (F.args_list_extend_2 _ _)
  (AutoSeq1.list_extend_list_list_0 l its.toArray n b its2.toArray n2 hlong (by rw[hAf];omega) (by omega)) ⟨e,e2,?_⟩
 refine⟨.non,_,I.lset (its':=its++its2) hH e (by simp) (r.append r2) ?_,rfl,q⟩;rw[hAc];omega
def zCn:V->List V->Hp->VK->Prop:=λx vs H Q=>∃l xs i k y,x = .ref l/\vs=[.int i]/\H l=some (.lst xs)/\-(2^63)<=i/\i<2^63/\seqIndex? i xs.length=some k/\xs[k]?=some y/\Q y (upd H l (.lst (xs.eraseIdx k)))
theorem qPc:MtM X "list.pop" zCn:=by
 intro aB s σ H x vs v us Q I rx rv h;obtain⟨l,xs,i,k,y,rfl,rfl,hH,h1,h2,hk,hy,q⟩:=h;cases rx;obtain⟨u,rfl,ru⟩:=rv.one;obtain⟨t,rfl⟩:=ru;obtain⟨z,its,n,r,hl,e⟩:=I.lstM hH;obtain⟨w,hw,rw'⟩:=r.get hy;refine hFc F.slot_list_pop ⟨_,e,rfl⟩ F.entry_list_pop (F.args_list_pop_2 _ _)
  (MeetsSeq.list_pop_at l its.toArray n i t k w (fitsIndex_both h1 h2) (by rw[hAf,<-hl];exact hk) (by rw[<-hBh];exact hw) (by rw[hAf];omega)) ⟨e,?_⟩
 refine⟨y,_,I.lset (its':=its.eraseIdx k) hH e ?_ (r.eraseIdx k) ?_,rw',q⟩
 ·show its.toArray.eraseIdxIfInBounds k=(its.eraseIdx k).toArray;rw[List.eraseIdxIfInBounds_toArray]
 ·have:=qLu xs k;omega
def qV3:V->List V->Hp->VK->Prop:=λx vs H Q=>∃l xs,x = .ref l/\vs=[]/\H l=some (.lst xs)/\Q .non (upd H l (.lst xs.reverse))
theorem qQu:MtM X "list.reverse" qV3:=by
 intro aB s σ H x vs v us Q I rx rv h;obtain⟨l,xs,rfl,rfl,hH,q⟩:=h;cases rx;have hus:=rv.zero;subst hus;obtain⟨z,its,n,r,hl,e⟩:=I.lstM hH;refine hFc F.slot_list_reverse ⟨_,e,rfl⟩ F.entry_list_reverse (F.args_list_reverse_1 _) (AutoSeq1.list_reverse_list_0 l its.toArray n (by rw[hAf];omega)) ⟨e,?_⟩;refine⟨.non,_,I.lset (its':=its.reverse) hH e (by simp) r.reverse ?_,rfl,q⟩;rw[List.length_reverse];omega
def rClear:V->List V->Hp->VK->Prop:=λx vs H Q=>∃l xs,x = .ref l/\vs=[]/\H l=some (.lst xs)/\Q .non (upd H l (.lst []))
theorem qWl:MtM X "list.clear" rClear:=by
 intro aB s σ H x vs v us Q I rx rv h;obtain⟨l,xs,rfl,rfl,hH,q⟩:=h;cases rx;have hus:=rv.zero;subst hus;obtain⟨z,its,n,r,hl,e⟩:=I.lstM hH;refine hFc F.slot_list_clear ⟨_,e,rfl⟩ F.entry_list_clear (F.args_list_clear_1 _) (AutoSeq1.list_clear_list_0 l its.toArray n (by rw[hAf];omega)) ⟨e,?_⟩;exact⟨.non,_,I.lset (its':=[]) (ys:=[]) hH e rfl .nil (hAp _),rfl,q⟩
def zFy:R2:=λx y H Q=>∃l b xs zs,x = .ref l/\y = .ref b/\H l=some (.lst xs)/\H b=some (.lst zs)/\xs.length+zs.length<=sizeLine/\∀p,H p=none->Q (.ref p) (upd H p (.lst (xs++zs)))
theorem qB9:OpR X (binaryOp .Add) zFy:=by
 intro aB s σ H x y v u Q I rx ry h;obtain⟨l,b,xs,zs,rfl,rfl,hH,hB,hz,q⟩:=h;cases rx;cases ry;obtain⟨z,its,n,r,hl,e⟩:=I.lstM hH;obtain⟨z2,its2,n2,r2,hl2,e2⟩:=I.lstM hB;refine PySem.P.add_list e e2 ?_ (by rw[hAf,hAf];omega);have ea:its.toArray++its2.toArray=(its++its2).toArray:=by simp
 rw[ea];exact⟨.ref _,_,I.lnew (t':=s.toks) (r.append r2) (by rw[hAc];omega),rfl,q _ I.fresh⟩
end
end L2
namespace Att
open PySem PySem.W PySem.Calls PyProof.Rows
theorem qIk:∀(ns:List Int) (vs:List Value),WellAll P h vs (ns.map WData.int)->IntsAre vs ns:=by
 intro ns
 induction ns with
 |nil =>
  intro vs w;rw[List.map_nil]at w;cases w;exact .nil
 |cons n ns ih =>
  intro vs w;rw[hBj]at w;cases w with
  |cons a b =>
   cases a;exact .cons _ _ (ih _ b)
theorem qR1{l:OpenLaw}{n:Nat}(hn:l.most=some n){P:Params}{h:Heap}{args:List WData}{vals:List Value}
  (hpre:l.row.toRowW.claim.pre args=true) (hwl:WellAll P h vals args) :
  ∃a vs ns,vals=[Value.ref a]/\args=[WData.list (ns.map WData.int)]/\h.get? a=some { cls:=.type "list",data:=.seq vs.toArray }/\IntsAre vs ns/\ns.length<=n:=by
 have hsh:WShape.hasAll [] args [.list .int]=true:=(pre_splitW hpre).1;have hc:l.pre.holds [] { args:=args }=true:=(pre_splitW hpre).2;obtain⟨d,r,rfl,h1,h2⟩:=hasAllW_cons hsh;obtain rfl:=hasAllW_nil h2;obtain⟨xs,rfl,h3⟩:=hasW_list h1;obtain⟨ns,rfl⟩:=items_int h3;have hlen:ns.length<=n:=by
  unfold OpenLaw.pre at hc;have h4:(WTm.not (.lt (.lit (.int (n:Int))) (.len (.arg 0)))).holds [] { args:=[.list (ns.map .int)] }=true:=by
   have h4:=(holds_andW hc).1;rw[hn]at h4;exact h4
  have h5:=condW_of h4 (w_not (w_lt w_lit (w_len_list (w_arg rfl))));rw[hA1]at h5;refine Nat.le_of_not_lt λq=>?_
  have q':(n:Int)<((ns.length:Nat):Int):=by omega
  first
   |(rw[hEi q']at h5;exact absurd h5 (by decide))
   |(simp at h5;omega)
 cases hwl with
 |cons w1 w2 =>
  cases w2;cases w1 with
  |list ho hall=>exact⟨_,_,ns,rfl,rfl,ho,qIk ns _ hall,hlen⟩
theorem qSp(l:OpenLaw)(args:List WData):l.row.toRowW.claim.post args (.bool true) args=true :=
 postW_of (r:=l.row.toRowW) (X:=(true == true))
  (show WShape.has [] (.bool true) .bool=true by first|rfl|decide|simp[WShape.has,WShape.arms,WShape.armsAll])
  (show(WTm.eq .res (.lit (.bool true))).value [] { args:=args,res:=some (.bool true),after:=args }=some (.bool (true == true)) from w_eq_bool (w_res rfl) w_lit) rfl
theorem attach_call{l:OpenLaw}{n:Nat}{q:Program}{loose:List Str}{XP:(Str->Option Value)->Heap->Prop}{YP:World->Heap->Prop}{d:DefRec}
  (hn:l.most=some n) (hdf:d.params.defaults=[])
  (call:∀(w:World) (s₀ s₁:Shared) (mg mb:Str->Option Value) (fa:Addr) (o:Obj) (pm cd doc:Value) (a:Addr) (vs:List Value) (ns:List Int),
   Ground q loose [] XP w s₀ mg mb s₁.heap->YP w s₁.heap ->
   s₁.heap.get? fa=some o->o.data = .func (docDef d.name d.params d.body d.scope pm cd doc)->s₁.heap.CodeRec cd d.name->mg d.name=some (.ref fa) ->
   s₁.heap.get? a=some { cls:=.type "list",data:=.seq vs.toArray }->IntsAre vs ns->ns.length<=n->s₁.gens=#[] ->
   codeAny (model l.prog w) callerA (.call (.ref fa) ⟨[.ref a],[]⟩) (λr s'=>r = .ok (.ret (.bool true))/\OldK s₁.heap s'.heap/\s'.os=s₁.os/\AllBare s'.gens) s₁) :
  WalkO q loose XP YP l.row.toRowW d [] (λf vs=>PySem.call f vs):=by
 intro w s₀ s₁ mg mb G Y fa o pm cd doc dV kV ho hd hcd hD hmg hg args vals as hpre hlay hrd hwl hlo;obtain rfl:dV = .none:=Dflts.none hD hdf;obtain rfl:kV = .none:=Dflts.noKw hD;obtain⟨a,vs,ns,rfl,rfl,hobj,hints,hlen⟩:=qR1 hn hpre hwl;refine enter_call (hFf (call w s₀ s₁ mg mb fa o pm cd doc a vs ns G Y ho (fd_plain hd) hcd hmg hobj hints hlen hg) λr s' hq=>?_);obtain⟨rfl,h2,h3,h4⟩:=hq;exact⟨.inl ⟨.bool true,.bool true,[],rfl,λ_=>rfl,.bool true,qSp l _,λ_=>⟨List.Pairwise.nil,λ_ hm=>(nomatch hm)⟩⟩,h2,h3,h4⟩
section
variable{prog:Program}{w:World}{A:Around}{E:Value->Shared->Prop}{s:Shared}{K:Frag}
noncomputable def zFg(h:Heap)(L d:Addr):List (Addr×Obj):=(List.range h.objs.size).filterMap λa=>if a=L\/a=d then none else (h.get? a).map λo=>(a,o)
end
end Att
namespace L2
open PySem PySem.Spec PyProof.Rows
theorem qKw:∀ {vs:List Value} {ns:List Int},IntsAre vs ns->qBn (ns.map V.int) vs
 |_,_,.nil=>.nil
 |_,_,.cons n t h=>.cons ⟨t,rfl⟩ (qKw h)
end L2
namespace L2
open PySem PySem.Spec PyProof.Rows
noncomputable def qDg(s:Stmt):Arguments:=match s with
 |.FunctionDef _ a _ _ _ _ _ _ _ _=>a
 |_=>{ posonlyargs:=[],args:=[],vararg:=none,kwonlyargs:=[],kw_defaults:=[],kwarg:=none,defaults:=[] }
noncomputable def qB7(s:Stmt):List Stmt:=match s with
 |.FunctionDef _ _ b _ _ _ _ _ _ _=>b
 |_=>[]
noncomputable def qAc(s:Stmt):Scope:=match s with
 |.FunctionDef _ _ _ _ _ _ sc _ _ _=>sc
 |_=>{ kind:=.function,names:=[],isGenerator:=false,isCoroutine:=false }
abbrev CX0:CXT:=λ_ _ _ _ _ _=>False
abbrev E0:XK:=λ_ _ _=>False
theorem pass0:qQc CX0 X E0:=λ_ _ _ _ _ _ _ h=>h.elim
structure Fun(K:PySem.W.Frag)(x qual:Str)(st:Stmt)(f:Addr)(fd:FuncData):Prop where
 ex:∃(oc:Value) (od:Option Addr) (kV doc pm:Value) (an:Option Addr) (cdv ct:Value) (osl:Array (Option Value)),
  fd=PySem.W.fnOf x qual (qDg st) (qB7 st) (qAc st) .none kV doc pm an cdv ct/\K.lookup f=some ⟨oc,od,.func fd,osl⟩/\PySem.W.codeIn K cdv qual=true
 kp:PySem.W.keepIn K (.ref f)=true
section
variable{P:Program}{w:World}{K:PySem.W.Frag}{mg:Str->Option Value}{base:Heap}
theorem Fun.ok{x qual:Str}{st:Stmt}{f:Addr}{fd:FuncData}{N ps:List Str}{k:Nat}{sp:Sp}(F:Fun K x qual st f fd)(S:FnScope N ps (qAc st))(len:∀vs H Q E,sp vs H Q E->vs.length=ps.length)
  (hbody:∀(cdv:Value) (A:Around) (outer:List Env) (s:Shared) (H:Hp) (vs:List V) (Q:VK) (E:XK),Room k (A.deeper (envOfC qual (qAc st) s.heap.objs.size f cdv))->sp vs H Q E ->
   ∃t,PSs (qP4 CX0 P w K mg base N qual (qAc st) f cdv A outer s H E).nox (qB7 st) t/\t { nx:=λ_ H'=>Q .non H',rt:=Q } (start N vs) H):v8 (k+1) f fd ps sp:=by
 obtain⟨oc,od,kV,doc,pm,an,cdv,ct,osl,rfl,lk,hcd⟩:=F.ex;refine zDi lk hcd S len λA outer s H vs Q E hr hsp=>?_
 obtain⟨t,h,q⟩:=hbody cdv A outer s H vs Q E hr hsp;exact⟨t,h.nox,q⟩
theorem Fun.okA{x qual:Str}{st:Stmt}{f:Addr}{fd:FuncData}{N ps:List Str}{k:Nat}{sp:Sp}(F:Fun K x qual st f fd)(S:FnScope N ps (qAc st))
  (hbody:∀(cdv:Value) (A:Around) (outer:List Env) (s:Shared) (H:Hp) (vs:List V) (Q:VK) (E:XK),Room k (A.deeper (envOfC qual (qAc st) s.heap.objs.size f cdv))->sp vs H Q E ->
   ∃t,PSs (qP4 CX0 P w K mg base N qual (qAc st) f cdv A outer s H E).nox (qB7 st) t/\t { nx:=λ_ H'=>Q .non H',rt:=Q } (start N vs) H)
  (len:∀vs H Q E,sp vs H Q E->vs.length=ps.length:=by intro vs H Q E h;repeat (first|(obtain⟨e,_⟩:=h;subst e;rfl)|(obtain⟨_,h⟩:=h))):v8 (k+1) f fd ps sp:=Fun.ok F S len hbody
theorem Fun.binds{x qual:Str}{st:Stmt}{f:Addr}{fd:FuncData}{ps:List Str}(F:Fun K x qual st f fd)
  (h:∀(kV doc pm:Value) (an:Option Addr) (cdv ct:Value) (us:List Value),us.length=ps.length->bindArgs (PySem.W.fnOf x qual (qDg st) (qB7 st) (qAc st) .none kV doc pm an cdv ct) ⟨us,[]⟩=pure (ps.zip us)):qN5 K fd ps []:=by
 obtain⟨oc,od,kV,doc,pm,an,cdv,ct,osl,rfl,lk,hcd⟩:=F.ex;exact .all (h kV doc pm an cdv ct)
theorem qPr{x qual:Str}{st:Stmt}{f:Addr}{oc:Value}{od an:Option Addr}{osl:Array (Option Value)}{kV doc pm cdv ct:Value}(l:K.lookup f=some ⟨oc,od,.func (PySem.W.fnOf x qual (qDg st) (qB7 st) (qAc st) .none kV doc pm an cdv ct),osl⟩)
  (c:PySem.W.codeIn K cdv qual=true) (k:PySem.W.keepIn K (.ref f)=true):Fun K x qual st f (PySem.W.fnOf x qual (qDg st) (qB7 st) (qAc st) .none kV doc pm an cdv ct):=⟨⟨oc,od,kV,doc,pm,an,cdv,ct,osl,rfl,l,c⟩,k⟩
end
theorem qAf(h:n<=1000):n<sizeLine:=hDo h (by decide)
section
variable{X:Cx}
theorem pv(i:Nat)(hN:X.N[i]?=some x:=by rfl)(hv:Vis X.env.scope x:=by first|exact Or.inl rfl|exact Or.inr (Or.inl rfl)|exact Or.inr (Or.inr rfl))(hd:(x == ("__debug__" : Str))=false:=by decide)
  (hcd:(x == ("__classdict__" : Str))=false:=by decide):PE X (.Name x pos) (qRe i):=zCs hN hv hd hcd
end
theorem qFz{A B:Prop}(h:B):if false=true then A else B:=by
 rw[hEm hAz];exact h
theorem iteT{A B:Prop}(h:A):if true=true then A else B:=by
 rw[hEn rfl];exact h
theorem qBy{c A B:Prop}[Decidable c](h1:c->A)(h2:¬c->B):if c then A else B:=by
 by_cases h:c
 ·rw[hEn h];exact h1 h
 ·rw[hEm h];exact h2 h
end L2
set_option linter.all false
namespace L2
open PySem PySem.Spec PyProof.Rows
structure M1(X:Cx)(o:Expr)(m:Str)(apos:Pos)(e:Expr)(cpos:Pos):Prop where
 base:attributeBase o m X.env (eval o X.env)=eval o X.env
 few:((backTo cpos (starEach [e] X.env)).all (λx=>!x.1) && (backToKw cpos (keywordEach [] X.env)).all (λx=>x.1.isSome)
  && decide (([e]:List Expr).length+([]:List Keyword).length+(if ([]:List Keyword).isEmpty then 0 else 1)<30))=true
 line:(apos.endLine == cpos.line)=true
 trees:backTo cpos (starEach [e] X.env)=[(false,eval e X.env)]
structure M2(X:Cx)(o:Expr)(m:Str)(apos:Pos)(e f:Expr)(cpos:Pos):Prop where
 base:attributeBase o m X.env (eval o X.env)=eval o X.env
 few:((backTo cpos (starEach [e,f] X.env)).all (λx=>!x.1) && (backToKw cpos (keywordEach [] X.env)).all (λx=>x.1.isSome)
  && decide (([e,f]:List Expr).length+([]:List Keyword).length+(if ([]:List Keyword).isEmpty then 0 else 1)<30))=true
 line:(apos.endLine == cpos.line)=true
 trees:backTo cpos (starEach [e,f] X.env)=[(false,eval e X.env),(false,eval f X.env)]
noncomputable def qDh(cells:List (Str×Addr)):List (Str×NameKind)->List (Str×Addr)->List (Str×Addr)
 |[],acc=>acc
 |(n,k) :: r,acc=>if k == .free then qDh cells r ((n,(cells.lookup n).getD 0) :: acc) else qDh cells r acc
theorem qJl(env:Env)(f:Str×NameKind->List (Str×Addr)->Sem (ForInStep (List (Str×Addr))))
  (hf:∀n k cs,f (n,k) cs=if k == .free then (do let a ← cellOf env n;pure (.yield ((n,a) :: cs))) else pure (.yield cs)) :
  ∀(aA:List (Str×NameKind)) (acc:List (Str×Addr)),(∀x∈aA,x.2 = .free->∃c,env.cells.lookup x.1=some c)->forIn aA acc f=pure (qDh env.cells aA acc)
 |[],acc,_=>by rw[List.forIn_nil];rfl
 |(n,k) :: r,acc,h=>by
  have ih:=qJl env f hf r;rw[List.forIn_cons,hf];unfold qDh;by_cases hk:(k == NameKind.free)=true
  ·rw[hEn hk,hEn hk];obtain⟨c,hc⟩:=h (n,k) hA6 (by simpa using hk);have e:cellOf env n=pure c:=by unfold cellOf;rw[hc]
   rw[e,hc];exact ih _ λx hx=>h x (hA4 _ hx)
  ·rw[hEm hk,hEm hk];exact ih _ λx hx=>h x (hA4 _ hx)
theorem qKq(h:∀x∈scope.names,x.2 = .free->∃c,env.cells.lookup x.1=some c):closureFor scope env=pure (qDh env.cells scope.names []):=by
 simp only[closureFor];rw[qJl env _ (λn k cs=>by cases hk:k == NameKind.free <;> simp[hk]) scope.names [] h];rfl
theorem qIq:∀ {aA:List (Str×NameKind)} {acc:List (Str×Addr)} {x:Str} {c:Addr},(x,c)∈qDh cells aA acc->(x,c)∈acc\/((x,NameKind.free)∈aA/\c=(cells.lookup x).getD 0)
 |[],acc,x,c,h=>.inl h
 |(n,k) :: r,acc,x,c,h=>by
  unfold qDh at h;by_cases hk:(k == NameKind.free)=true
  ·rw[hEn hk]at h;rcases qIq h with q|⟨q,e⟩
   ·rcases hAg.mp q with z|z
    ·cases z;exact .inr ⟨by rw[show NameKind.free=k from (by simpa using hk:k=NameKind.free).symm];exact hA6,rfl⟩
    ·exact .inl z
   ·exact .inr ⟨hA4 _ q,e⟩
  ·rw[hEm hk]at h;rcases qIq h with q|⟨q,e⟩
   ·exact .inl q
   ·exact .inr ⟨hA4 _ q,e⟩
theorem qG8{α:Type}{x n:Str}{c:α}{l:List (Str×α)}(h:(l.lookup x).isSome=true):(((n,c) :: l).lookup x).isSome=true:=by
 rw[hD9];cases x == n <;> simp[h]
theorem qGs{cells:List (Str×Addr)}{x:Str}:∀ {aA:List (Str×NameKind)} {acc:List (Str×Addr)},((x,NameKind.free)∈aA\/(acc.lookup x).isSome=true)->((qDh cells aA acc).lookup x).isSome=true
 |[],acc,h=>by
  rcases h with h|h
  ·cases h
  ·exact h
 |(n,k) :: r,acc,h=>by
  unfold qDh;by_cases hk:(k == NameKind.free)=true
  ·rw[hEn hk];refine qGs ?_;rcases h with h|h
   ·rcases hAg.mp h with z|z
    ·cases z;exact .inr (by rw[hD9];simp)
    ·exact .inl z
   ·exact .inr (qG8 h)
  ·rw[hEm hk];refine qGs ?_;rcases h with h|h
   ·rcases hAg.mp h with z|z
    ·cases z;exact absurd rfl hk
    ·exact .inl z
   ·exact .inr h
theorem qDw:∀ {aA:List (Str×NameKind)} {n:Nat} {acc:List (Str×Addr)} {x:Str} {c:Addr},(x,c)∈cellsFrom n aA acc->(x,c)∈acc\/(x,NameKind.cell)∈aA
 |[],_,_,_,_,h=>.inl h
 |(y,k) :: r,n,acc,x,c,h=>by
  unfold cellsFrom at h;by_cases hk:(k == NameKind.cell)=true
  ·rw[hEn hk]at h;rcases qDw h with q|q
   ·rcases hAg.mp q with z|z
    ·cases z;exact .inr (by rw[show NameKind.cell=k from (by simpa using hk:k=NameKind.cell).symm];exact hA6)
    ·exact .inl z
   ·exact .inr (hA4 _ q)
  ·rw[hEm hk]at h;rcases qDw h with q|q
   ·exact .inl q
   ·exact .inr (hA4 _ q)
structure CellsTwo(h:Heap)(lo:Nat)(acc cs:List (Str×Addr)):Prop where
 part:∀x c,(x,c)∈cs->(x,c)∈acc\/(h.IsCell c none/\lo<=c)
 inj:∀x y c,lo<=c->(x,c)∈cs->(y,c)∈cs->x=y
theorem qDv:∀(aA:List (Str×NameKind)) (h:Heap) (lo:Nat) (acc:List (Str×Addr)),CellsTwo h lo acc0 acc->(∀x c,(x,c)∈acc->c<h.objs.size)->lo<=h.objs.size ->
  CellsTwo (pushCells h aA) lo acc0 (cellsFrom h.objs.size aA acc)
 |[],_,_,_,x,_,_=>x
 |(name,kind) :: r,h,lo,acc,x,hl,hlo=>by
  unfold pushCells cellsFrom;split
  ·have:=qDv (acc0:=acc0) r (h.push { cls:=.type "cell",data:=.cell none }) lo ((name,h.objs.size) :: acc)
    ⟨λn c hm=>by
      rcases hAg.mp hm with e|hm
      ·cases e;exact .inr ⟨⟨_,Heap.get?_push_size _ rfl,rfl⟩,hlo⟩
      ·rcases x.part n c hm with q|q
       ·exact .inl q
       ·exact .inr ⟨q.1.keeps λb o e=>Heap.get?_push_of_some _ e,q.2⟩,
     λa b c hc h1 h2=>by
      rcases hAg.mp h1 with e1|h1 <;> rcases hAg.mp h2 with e2|h2
      ·cases e1;cases e2;rfl
      ·cases e1;exact absurd (hl _ _ h2) (hD0 _)
      ·cases e2;exact absurd (hl _ _ h1) (hD0 _)
      ·exact x.inj a b c hc h1 h2⟩
    (λn c hm=>by
     rw[Heap.size_push];rcases hAg.mp hm with e|hm
     ·cases e;exact hCa _
     ·exact hBv (hl n c hm)) (by rw[Heap.size_push];omega)
   rwa [Heap.size_push]at this
  ·exact qDv r h lo acc x hl hlo
noncomputable def qEy(env:Env)(scope:Scope)(C:Addr):Env :=
 { scope:=relabel scope env,locals:=C,globals:=env.globals,cells:=cellsFrom (C+1) scope.names (qDh env.cells scope.names []),qual:=env.qual,func:=none,code:=env.code,frame:=env.frame,builtins:=env.builtins }
theorem qJp
  (hQ:Q { scope:=scope,locals:=s.heap.objs.size,globals:=env.globals,cells:=cellsFrom (s.heap.objs.size+1) scope.names cl,qual:=env.qual,func:=none,code:=env.code,frame:=env.frame,builtins:=env.builtins }
   { s with heap:=pushCells (s.heap.push { cls:=.type "dict",data:=.dict #[] }) scope.names }) :
  wpAny M A (newFunctionEnv scope env.globals cl [] env.qual none .none (some env)) Q E s:=by
 simp only[newFunctionEnv,Option.isSome_some,if_true];refine hEh (wpAny_alloc ?_);refine hEh (wpAny_layCells _ (λname kind cells=>by cases hkc:kind == NameKind.cell <;> simp[hkc]) _ _ _ _ ?_);rw[show({ s with heap:=s.heap.push { cls:=.type "dict",data:=.dict #[] } }:Shared).heap.objs.size=s.heap.objs.size+1 from Heap.size_push ..];rw[List.forIn_nil];exact hEh (hEk (hEk hQ))
theorem qL9(I:Nat->Shared->Prop)
  (turn:∀n s,I n s->wpAny (model prog w) A (pyNext it) (λr s₁=>match r with
   |none=>R (.ok .next) s₁
   |some v=>wpAny (model prog w) A (letOwnedTupleGo target it v) (λ_ s₁'=>wpAny (model prog w) A (assign target env v) (λ_ s₂ =>
     wpAny (model prog w) A (forIn ifs true λc r=>if r=true then do let ok ← isTrue c env (eval c env);pure (ForInStep.yield ok) else pure (ForInStep.yield r)) (λok s₃ =>
      if ok=true then wpAny (model prog w) A (eval elt env) (λx s₄ =>
       wpAny (model prog w) A (call (.builtin "list.append") [acc,x]) (λ_ s₅=>∃m,m<n/\I m s₅) (λ_ _=>False) s₄) (λ_ _=>False) s₃
      else ∃m,m<n/\I m s₃) (λ_ _=>False) s₂) (λ_ _=>False) s₁') (λ_ _=>False) s₁) (λ_ _=>False) s)
  (n:Nat) (h:I n s) :
  codeAny (model prog w) A (.compLoop (.ListComp elt [⟨target,iter,ifs,0⟩] scope pos) 0 it acc env) R s:=by
 refine codeAny_loop rfl I (λn s hI=>?_) n h;show wpAny _ A ((compTurn (.ListComp elt [⟨target,iter,ifs,0⟩] scope pos) 0 it acc env).onRaise (λx=>do noteFrame x env;theTreesLotGoes x)) _ _ s;refine wpAny_noted ?_;rw[compTurn_list];refine hEh (wpAny_standAt (hEh (hEu (turn n s hI) (λr s₁ h₁=>?_) λ_ _ h'=>h'.elim)));cases r with
 |none=>exact hEk h₁
 |some v =>
  refine hEh (hEu h₁ (λ_ s₁' h₁=>?_) λ_ _ h'=>h'.elim);refine hEh (hEu h₁ (λ_ s₂ h₂=>hEh (hEu h₂ (λok s₃ h₃=>?_) λ_ _ h'=>h'.elim)) λ_ _ h'=>h'.elim);cases ok with
  |false=>exact hEk ⟨rfl,h₃⟩
  |true =>
   exact hEh (hEh (hEu h₃ (λx s₄ h₄=>hEh (hEu h₄ (λ_ s₅ h₅=>hEk (hEk ⟨rfl,h₅⟩)) λ_ _ h'=>h'.elim)) λ_ _ h'=>h'.elim))
noncomputable def zCl(scope sc:Scope):Scope :=
 { scope with names:=scope.names.map λ(n,k)=>if (k == .free && sc.kind == .function && sc.names.lookup n == some .cell) then (n,.cell) else (n,k) }
noncomputable def qCn(X:Cx)(scope:Scope)(N':List Str)(C:Addr)(s:Shared)(H:Hp)(fp:List Addr):Cx :=
 { X with N:=N',s₀:=s,H₀:=H,env:=qEy X.env scope C,outer:=X.stack,stack:=X.stack,ex:=fp,fn:=λx=>!(scope.names.lookup x == some .free),pn:=[],xe:=λ_ _=>False }
noncomputable def subσ(sub:List (Option Nat))(σ:St):St:=sub.map λo=>o.bind λi=>(σ[i]?).join
noncomputable def qYs(N:List Str)(sc:Scope)(N':List Str)(scope:Scope)(sub:List (Option Nat)):Bool :=
 scope.kind == .function && decide ((scope.names.map (·.1)).Nodup) && decide N'.Nodup && sub.length == N'.length &&
 (scope.names.all λx=>!(x.2 == .free) || sc.names.lookup x.1 == some .cell || sc.names.lookup x.1 == some .free) &&
 ((sub.zip N').all λp=>match p.1 with
  |none=>true
  |some i=>N[i]? == some p.2 && scope.names.lookup p.2 == some .free)
structure CmpOk(N:List Str)(sc:Scope)(N':List Str)(scope:Scope)(sub:List (Option Nat)):Prop where
 kind:scope.kind = .function
 nd:(scope.names.map (·.1)).Nodup
 nd':N'.Nodup
 len:sub.length=N'.length
 free:∀x∈scope.names,x.2 = .free->sc.names.lookup x.1=some .cell\/sc.names.lookup x.1=some .free
 sub:∀(j i:Nat) (x:Str),sub[j]?=some (some i)->N'[j]?=some x->N[i]?=some x/\scope.names.lookup x=some .free
theorem CmpOk.of{N:List Str}{sc:Scope}{N':List Str}{scope:Scope}{sub:List (Option Nat)}(h:qYs N sc N' scope sub=true):CmpOk N sc N' scope sub:=by
 unfold qYs at h;simp only[hCi]at h;obtain⟨⟨⟨⟨⟨h1,h2⟩,h3⟩,h4⟩,h5⟩,h6⟩:=h;refine⟨by simpa using h1,hEl h2,hEl h3,by simpa using h4,λx hx hf=>?_,λj i x hj hx=>?_⟩
 ·have q:=hDa.mp h5 x hx;rw[hf]at q;simp only[hF9,Bool.not_true,Bool.false_or,hE7]at q;rcases q with q|q
  ·exact .inl (by simpa using q)
  ·exact .inr (by simpa using q)
 ·have q:=hDa.mp h6 (some i,x) (by
   refine hAh (i:=j) ?_;rw[List.getElem?_zip_eq_some];exact⟨hj,hx⟩)
  simp only[hCi]at q;exact⟨by simpa using q.1,by simpa using q.2⟩
theorem qC0:∀ {l:List (Str×α)} {x:Str} {c:α},(l.map (·.1)).Nodup->(x,c)∈l->l.lookup x=some c
 |(y,d) :: r,x,c,nd,h=>by
  rw[hD9];rcases hAg.mp h with e|h
  ·cases e;simp
  ·have ne:x≠y:=λe=>by
    rw[hBj]at nd;exact(hBe.mp nd).1 (by rw[<-e];exact hAb.mpr ⟨(x,c),h,rfl⟩)
   rw[show(x == y)=false from by simpa using ne];exact qC0 (hBe.mp nd).2 h
theorem qG2{sc:Scope}:∀ {aA:List (Str×NameKind)} {x:Str},
  ((aA.map λ(n,k)=>if (k == NameKind.free && sc.kind == .function && sc.names.lookup n == some .cell) then (n,NameKind.cell) else (n,k)).lookup x) =
   (aA.lookup x).map λk=>if (k == NameKind.free && sc.kind == .function && sc.names.lookup x == some .cell) then NameKind.cell else k
 |[],x=>rfl
 |(n,k) :: r,x=>by
  have ih:=@qG2 sc r x;rw[hBj];show List.lookup x ((if (k == NameKind.free && sc.kind == .function && sc.names.lookup n == some .cell)=true then (n,NameKind.cell) else (n,k)) :: _)=_;by_cases hc:(k == NameKind.free && sc.kind == .function && sc.names.lookup n == some .cell)=true
  ·rw[hEn hc,hD9,hD9];by_cases hx:x=n
   ·subst hx;rw[show(x == x)=true from hF9 x];show some NameKind.cell=Option.map _ (some k);rw[hDu,hEn hc]
   ·rw[show(x == n)=false by simpa using hx];exact ih
  ·rw[hEm hc,hD9,hD9];by_cases hx:x=n
   ·subst hx;rw[show(x == x)=true from hF9 x];show some k=Option.map _ (some k);rw[hDu,hEm hc]
   ·rw[show(x == n)=false by simpa using hx];exact ih
section
variable{X:Cx}{aB:List (Addr×Obj)}{σ:St}{H H':Hp}{s:Shared}
theorem qQx(I:Inv X aB σ H s)(hb:b∈frs X.stack)(n1:b≠X.env.locals):b∈X.fs:=(hAg.mp (I.stkSub b hb)).elim (λe=>absurd e n1) id
theorem qNx{N':List Str}{scope:Scope}{sub:List (Option Nat)}{h3:Heap}(I:Inv X aB σ H s)(O:CmpOk X.N X.env.scope N' scope sub)
  (hk:∀b o,s.heap.get? b=some o->h3.get? b=some o) :
  (∀x c,(cellsFrom (h3.objs.size+1) scope.names (qDh X.env.cells scope.names [])).lookup x=some c ->
   (((pushCells (h3.push { cls:=.type "dict",data:=.dict #[] }) scope.names).IsCell c none/\h3.objs.size+1<=c/\(x,NameKind.cell)∈scope.names)\/((x,NameKind.free)∈scope.names/\X.env.cells.lookup x=some c))) /\
  (∀x y c,(cellsFrom (h3.objs.size+1) scope.names (qDh X.env.cells scope.names [])).lookup x=some c->(cellsFrom (h3.objs.size+1) scope.names (qDh X.env.cells scope.names [])).lookup y=some c->x=y):=by
 have hin:∀x c,(x,c)∈qDh X.env.cells scope.names []->(x,NameKind.free)∈scope.names/\X.env.cells.lookup x=some c:=λx c h=>by
  rcases qIq h with q|⟨q,e⟩
  ·cases q
  ·have hx:∃c,X.env.cells.lookup x=some c:=by
    refine I.ok.has x ?_;rcases O.free _ q rfl with z|z
    ·exact .inl z
    ·exact .inr z
   obtain⟨c',hc'⟩:=hx;rw[hc']at e;exact⟨q,by rw[hc',e];rfl⟩
 have hlt:∀x c,(x,c)∈qDh X.env.cells scope.names []->c<h3.objs.size:=λx c h=>by
  obtain⟨v,o,ho,_⟩:=I.cell x c (hin x c h).2;exact Heap.lt_size (hk _ _ ho)
 have two:=qDv (acc0:=qDh X.env.cells scope.names []) scope.names (h3.push { cls:=.type "dict",data:=.dict #[] }) (h3.objs.size+1) (qDh X.env.cells scope.names [])
  ⟨λx c h=>.inl h,λx y c hc h1 _=>absurd (hlt x c h1) (Nat.not_lt.mpr (Nat.le_of_succ_le hc))⟩ (λx c h=>by rw[Heap.size_push];exact hBv (hlt x c h)) (by rw[Heap.size_push];exact hAa _)
 rw[Heap.size_push]at two;refine⟨λx c h=>?_,λx y c h1 h2=>?_⟩
 ·have m:=hC7 h;rcases two.part x c m with q|q
  ·exact .inr (hin x c q)
  ·refine .inl ⟨q.1,q.2,?_⟩;rcases qDw m with z|z
   ·exact absurd (hlt x c z) (Nat.not_lt.mpr (Nat.le_of_succ_le q.2))
   ·exact z
 ·have m1:=hC7 h1;have m2:=hC7 h2;by_cases hc:h3.objs.size+1<=c
  ·exact two.inj x y c hc m1 m2
  ·rcases two.part x c m1 with q1|q1
   ·rcases two.part y c m2 with q2|q2
    ·exact I.ok.inj x y c (hin x c q1).2 (hin y c q2).2
    ·exact absurd q2.2 hc
   ·exact absurd q1.2 hc
theorem qWq{N':List Str}{scope:Scope}{sub:List (Option Nat)}{fp:List Addr}(I:Inv X aB σ H s)(O:CmpOk X.N X.env.scope N' scope sub)(hf:∀b∈fp,qQ3 X aB H b)
  (hfl:∀b∈fp,b<s.heap.objs.size) :
  Inv (qCn X scope N' (s.heap.objs.size+1) s H fp) [(s.heap.objs.size,{ cls:=.type "list",data:=.seq #[] })] (subσ sub σ) H
   { s with heap:=pushCells ((s.heap.push { cls:=.type "list",data:=.seq #[] }).push { cls:=.type "dict",data:=.dict #[] }) scope.names }:=by
 have hk3:∀b o,s.heap.get? b=some o->(s.heap.push { cls:=.type "list",data:=.seq #[] }).get? b=some o:=λb o e=>Heap.get?_push_of_some _ e
 have sz3:(s.heap.push { cls:=.type "list",data:=.seq #[] }).objs.size=s.heap.objs.size+1:=Heap.size_push ..;have hk:∀b o,s.heap.get? b=some o->(pushCells ((s.heap.push { cls:=.type "list",data:=.seq #[] }).push { cls:=.type "dict",data:=.dict #[] }) scope.names).get? b=some o :=
  λb o e=>hFs _ _ b o (Heap.get?_push_of_some _ (hk3 b o e))
 have cf:=qNx (h3:=s.heap.push { cls:=.type "list",data:=.seq #[] }) I O hk3;rw[sz3]at cf;have hC:H (s.heap.objs.size+1)=none:=I.hok.fresh (hBk _);have nsC:(pushCells ((s.heap.push { cls:=.type "list",data:=.seq #[] }).push { cls:=.type "dict",data:=.dict #[] }) scope.names).Ns (s.heap.objs.size+1) (λ_=>none):=by
  rw[<-sz3];exact(Heap.Ns.new _ _).keeps (hFs _ _)
 have has:∀x,(scope.names.lookup x=some .cell\/scope.names.lookup x=some .free)->∃c,(cellsFrom (s.heap.objs.size+1+1) scope.names (qDh X.env.cells scope.names [])).lookup x=some c:=λx hx=>by
  refine Option.isSome_iff_exists.mp (hE4 _ _ _ ?_);rcases hx with z|z
  ·exact .inl z
  ·exact .inr (qGs (.inl (hC7 z)))
 have kindB:∀x,(qEy X.env scope (s.heap.objs.size+1)).kindOf x=(scope.names.lookup x).map λk=>if (k == NameKind.free && X.env.scope.kind == .function && X.env.scope.names.lookup x == some .cell) then NameKind.cell else k:=λx=>qG2
 have cellOk:∀x c,(qEy X.env scope (s.heap.objs.size+1)).cells.lookup x=some c->∃v,(pushCells ((s.heap.push { cls:=.type "list",data:=.seq #[] }).push { cls:=.type "dict",data:=.dict #[] }) scope.names).IsCell c v:=λx c h=>by
  rcases cf.1 x c h with q|q
  ·exact⟨_,q.1⟩
  ·obtain⟨v,z⟩:=I.cell x c q.2;exact⟨v,z.keeps hk⟩
 refine⟨⟨I.ok.mod,O.kind,I.ok.glob,I.ok.blt,hBk _,λx y c h1 h2=>cf.2 x y c h1 h2,λx hx=>?_,λx c hx h=>?_,I.ok.hd,I.ok.frames,.inl rfl,λb hb=>?_,λb o e=>I.bs b o e,hAw I.ok.bsz I.sz,λb o e hb=>?_,λb hb=>?_,I.stack,I.stkFree⟩,
  rfl,I.bare,Un.kept hk,⟨λ_=>none,nsC,λi x v h1 h2 h3=>?_⟩,cellOk,hC,λx c h=>?_,λp hp=>?_,I.hok.kept hk,?_⟩
 ·-- has
  refine has x ?_;have hx:(qEy X.env scope (s.heap.objs.size+1)).kindOf x=some .cell\/(qEy X.env scope (s.heap.objs.size+1)).kindOf x=some .free:=hx;rw[kindB]at hx;cases e:scope.names.lookup x with
  |none=>rw[e]at hx;rcases hx with z|z <;> cases z
  |some k =>
   rw[e]at hx;cases k with
   |cell=>exact .inl rfl
   |free=>exact .inr rfl
   |_=>exfalso;rcases hx with z|z <;> simp at z
 ·-- cab
  rcases cf.1 x c h with q|q
  ·have:=q.2.1;show s.heap.objs.size<=c;omega
  ·exfalso;have e:=qC0 O.nd q.1;have hx':(!(scope.names.lookup x == some NameKind.free))=true:=hx;rw[e]at hx';exact absurd hx' (by decide)
 ·-- exf
  obtain⟨f0,f1,f2,f3,f4,f5⟩:=hf b hb;have lt:=hfl b hb;refine⟨λe=>?_,λx c h e=>?_⟩
  ·have e':b=s.heap.objs.size+1:=e;rw[e']at lt;exact absurd lt (Nat.not_lt.mpr (hBk _))
  ·rcases cf.1 x c h with q|q
   ·have z:=q.2.1;rw[e]at z;exact absurd lt (Nat.not_lt.mpr (hAw (hAw (hBk _) (hBk _)) z))
   ·exact f4 x c q.2 e
 ·-- noex
  obtain⟨f0,f1,f2,f3,f4,f5⟩:=hf b hb;rcases f3 with z|z
  ·exact I.ok.noex b o e z
  ·exact absurd (hAn (Heap.lt_size (I.ok.bs b o e).1) z) (hD0 _)
 ·-- exfs
  obtain⟨f0,f1,f2,f3,f4,f5⟩:=hf b hb;exact λz=>f2 (qQx I z f1)
 ·-- loc
  have h1':N'[i]?=some x:=h1;have hsub:∃k,sub[i]?=some (some k)/\(σ[k]?).join=some v:=by
   unfold subσ at h2;rw[hAi]at h2;cases e:sub[i]? with
   |none=>rw[e]at h2;cases h2
   |some o =>
    rw[e]at h2;cases o with
    |none=>cases h2
    |some k=>exact⟨k,rfl,by simpa using h2⟩
  obtain⟨k,hk1,hk2⟩:=hsub;obtain⟨nk,fx⟩:=O.sub i k x hk1 h1';have sk:σ[k]?=some (some v):=by
   cases e:σ[k]? with
   |none=>rw[e]at hk2;cases hk2
   |some o=>rw[e]at hk2;cases o with
    |none=>cases hk2
    |some y=>cases hk2;rfl
  have cx:=O.free _ (hC7 fx) rfl;obtain⟨m,hn,hl⟩:=I.loc;obtain⟨u,ru,lk⟩:=hl k x v nk sk (by
   rcases cx with z|z
   ·exact .inr (.inl z)
   ·exact .inr (.inr z))
  refine⟨u,ru,.inr ⟨?_,?_⟩⟩
  ·show(qEy X.env scope (s.heap.objs.size+1)).kindOf x=some .cell\/(qEy X.env scope (s.heap.objs.size+1)).kindOf x=some .free;rw[kindB,fx];by_cases hc:(NameKind.free == NameKind.free && X.env.scope.kind == .function && X.env.scope.names.lookup x == some .cell)=true
   ·exact .inl (by rw[hDu,hEn hc])
   ·exact .inr (by rw[hDu,hEm hc])
  ·rcases lk with ⟨kl,_⟩|⟨_,c,hc,hcell⟩
   ·exfalso;have kl':X.env.scope.names.lookup x=some .local:=kl;rcases cx with z|z <;> rw[kl']at z <;> cases z
   ·obtain⟨c',hc'⟩:=has x (.inr fx);refine⟨c',hc',?_⟩;rcases cf.1 x c' hc' with q|q
    ·exfalso;have e:=qC0 O.nd q.2.2;rw[fx]at e;cases e
    ·rw[hc]at q;have e:c=c':=hAq q.2;subst e;exact hcell.keeps hk
 ·-- freeC
  rcases cf.1 x c h with q|q
  ·exact I.hok.fresh (by have:=q.2.1;omega)
  ·exact I.freeC x c q.2
 ·-- pin
  have hp':p=(s.heap.objs.size,({ cls:=.type "list",data:=.seq #[] }:Obj)):=by
   have:p∈([]++[(s.heap.objs.size,({ cls:=.type "list",data:=.seq #[] }:Obj))]:List (Addr×Obj)):=hp
   simpa using this
  subst hp';refine⟨hFs _ _ _ _ (Heap.get?_push_of_some _ (Heap.get?_push_size _ rfl)),I.hok.fresh (hAa _),hAu (hCa _),λz=>?_,λv z=>?_⟩
  ·rcases hAg.mp (I.stkSub _ z) with e|e
   ·exact absurd I.lt (by rw[<-e];exact hD0 _)
   ·exact I.nofs (hAa _) e
  ·cases z
 ·-- len
  show(subσ sub σ).length=N'.length;unfold subσ;rw[hA1,O.len]
end
def Sle(σ σ2:St):Prop:=σ2.length=σ.length/\∀(i:Nat) (v:V),σ[i]?=some (some v)->σ2[i]?=some (some v)
theorem Sle.refl(σ:St):Sle σ σ:=⟨rfl,λ_ _ h=>h⟩
theorem Sle.set(v:V)(h:Sle σ σ2)(hi:∀u,σ[i]?≠some (some u)):Sle σ (σ2.set i (some v)):=by
 refine⟨by rw[List.length_set];exact h.1,λj u hj=>?_⟩;have ne:i≠j:=λe=>hi u (by rw[e];exact hj)
 rw[List.getElem?_set_ne ne];exact h.2 j u hj
theorem sls{σ:St}{i:Nat}{v:V}(h:∀u,σ[i]?≠some (some u):=by intro u z;cases z):Sle σ (σ.set i (some v)):=Sle.set _ (Sle.refl _) h
def PTs(X:Cx)(ifs:List Expr)(t:TT):Prop :=
 ∀(aB:List (Addr×Obj)) (s:Shared) (σ:St) (H:Hp) (Q:Bool->Hp->Prop),Inv X aB σ H s->t σ H Q ->
  wpAny (model X.prog X.w) X.A (forIn ifs true λc r=>if r=true then do let ok ← isTrue c X.env (eval c X.env);pure (ForInStep.yield ok) else pure (ForInStep.yield r)) (TP X aB σ Q) X.xe s
def qY6:TT:=λ_ H Q=>Q true H
theorem qAw:PTs X [] qY6:=λaB s σ H Q I h=>wpAny_tests_nil ⟨H,I,h⟩
theorem qBb(h:PT X c t):PTs X [c] t:=λaB s σ H Q I hw=>wpAny_tests_one (h aB s σ H Q I hw)
def qEf(J:It)(σ0:St)(g:TG)(tt:TT)(te:TE)(Q:List V->Hp->Prop)(H1:Hp):Prop :=
 ∃W:Nat->Nat->List V->Hp->Prop,(∃m,W 0 m [] H1)/\∀i m ys H,W i m ys H ->
  (J.stop i H/\Q ys H) \/
  (J.go i H/\∀x H',J.yld i H x H'->g x σ0 H' λσ2 H2=>Sle σ0 σ2/\tt σ2 H2 λb H3 =>
   if b=true then te σ2 H3 (λv H4=>ys.length<sizeLine/\∃m',m'<m/\W (i+1) m' (ys++[v]) H4) else ∃m',m'<m/\W (i+1) m' ys H3)
section
variable{X:Cx}{aB:List (Addr×Obj)}{σ:St}{H:Hp}{s:Shared}
theorem qL8{target iter elt:Expr}{ifs:List Expr}{scope:Scope}{pos:Pos}{N':List Str}{sub:List (Option Nat)}{J:It}{fp:List Addr}{it:Addr}{tn:Nat->Heap->Prop}{g:TG}{tt:TT}{te:TE}
  {Qe:List V->Hp->Prop} {E:Value->Shared->Prop} {RR:Value->Addr->Result->Shared->Prop}
  {c:Cx->Prop} (hc:∀X',X'.A=X.A->X'.calm=X.calm->c X') (I:Inv X aB σ H s) (O:CmpOk X.N X.env.scope N' scope sub) (T:Turn X.prog X.w X.K target J fp it tn c) (st:tn 0 s.heap) (hf:∀b∈fp,qQ3 X aB H b)
  (B:∀C s H fp,PG (qCn X scope N' C s H fp) target g/\PTs (qCn X scope N' C s H fp) ifs tt/\PE (qCn X scope N' C s H fp) elt te)
  (rd:qEf J (subσ sub σ) g tt te Qe H)
  (hRR:∀(acc C:Addr) (ys:List V) (H':Hp) (s':Shared),Inv X aB σ (upd H' acc (.lst ys)) s'->qQ3 X aB (upd H' acc (.lst ys)) C->(∃m,s'.heap.Ns C m)->H' acc=none->Qe ys H'->RR (.ref acc) C (.ok .next) s') :
  wpAny (model X.prog X.w) X.A (newList []) (λacc s₃=>wpAny (model X.prog X.w) X.A (newFunctionEnv scope X.env.globals (qDh X.env.cells scope.names []) [] X.env.qual none .none (some X.env)) (λcenv s₄ =>
   codeAny (model X.prog X.w) X.A (.compStart (.ListComp elt [⟨target,iter,ifs,0⟩] scope pos) 0 (.ref it) acc { cenv with scope:=relabel scope X.env }) (RR acc cenv.locals) s₄) E s₃) E s:=by
 refine hEx (qJp ?_);have hfl:∀b∈fp,b<s.heap.objs.size:=λb hb=>by
  obtain⟨o,e,_⟩:=T.obj _ _ st b hb;exact Heap.lt_size e
 have I0:=qWq (sub:=sub) I O hf hfl;have sz3:(s.heap.push { cls:=.type "list",data:=.seq #[] }).objs.size=s.heap.objs.size+1:=Heap.size_push ..;dsimp only;show codeAny _ _ (.compStart _ 0 (.ref it) (.ref s.heap.objs.size) { scope:=relabel scope X.env,locals:=(s.heap.push { cls:=.type "list",data:=.seq #[] }).objs.size,globals:=X.env.globals,cells:=cellsFrom ((s.heap.push { cls:=.type "list",data:=.seq #[] }).objs.size+1) scope.names (qDh X.env.cells scope.names []),qual:=X.env.qual,func:=none,code:=X.env.code,frame:=X.env.frame,builtins:=X.env.builtins })
  (RR (.ref s.heap.objs.size) (s.heap.push { cls:=.type "list",data:=.seq #[] }).objs.size) { s with heap:=pushCells ((s.heap.push { cls:=.type "list",data:=.seq #[] }).push { cls:=.type "dict",data:=.dict #[] }) scope.names }
 rw[sz3];show codeAny _ _ (.compStart _ 0 (.ref it) (.ref s.heap.objs.size) (qEy X.env scope (s.heap.objs.size+1))) (RR (.ref s.heap.objs.size) (s.heap.objs.size+1)) _;generalize hs0:({ s with heap:=pushCells ((s.heap.push { cls:=.type "list",data:=.seq #[] }).push { cls:=.type "dict",data:=.dict #[] }) scope.names }:Shared)=s0 at I0 ⊢;have hk0:∀b o,s.heap.get? b=some o->s0.heap.get? b=some o:=λb o e=>by
  rw[<-hs0];exact hFs _ _ b o (Heap.get?_push_of_some _ (Heap.get?_push_of_some _ e))
 have st0:tn 0 s0.heap:=T.keep _ _ _ st λb hb o e=>hk0 b o e
 clear hs0 sz3;generalize hX:qCn X scope N' (s.heap.objs.size+1) s H fp=X' at I0;have xp:X'.prog=X.prog:=by rw[<-hX];rfl
 have xw:X'.w=X.w:=by rw[<-hX];rfl
 have xK:X'.K=X.K:=by rw[<-hX];rfl
 have xA:X'.A=X.A:=by rw[<-hX];rfl
 have xc:c X':=hc X' xA (by rw[<-hX];rfl);have xe:X'.env=qEy X.env scope (s.heap.objs.size+1):=by rw[<-hX];rfl
 have xx:X'.ex=fp:=by rw[<-hX];rfl
 have xo:X'.outer=X.stack:=by rw[<-hX];rfl
 have xf:X'.fs=frs X.stack:=by rw[<-hX];rfl
 have xpn:X'.pn=[]:=by rw[<-hX];rfl
 have x0:X'.s₀=s:=by rw[<-hX];rfl
 have xh:X'.H₀=H:=by rw[<-hX];rfl
 have xxe:X'.xe=λ_ _=>False:=by rw[<-hX];rfl
 obtain⟨hg,ht,he⟩:=B (s.heap.objs.size+1) s H fp;rw[hX]at hg ht he;clear hX;have stat:∀ {pl:List (Addr×Obj)} {H':Hp},(∀p∈pl,p.1=s.heap.objs.size)->(∀b∈fp,H' b=none)->∀b∈fp,qQ3 X' pl H' b:=λ{pl H'} hp hn b hb=>by
  obtain⟨f0,f1,f2,f3,f4,f5⟩:=hf b hb;refine⟨hn b hb,(I0.ok.exf b (by rw[xx];exact hb)).1,I0.ok.exfs b (by rw[xx];exact hb),.inl (by rw[xx];exact hb),(I0.ok.exf b (by rw[xx];exact hb)).2,λp hp'=>?_⟩;rw[xpn,List.nil_append]at hp';rw[hp p hp'];exact hCm (hfl b hb)
 obtain⟨W,⟨m0,w0⟩,turn⟩:=rd;have loop:∀s3:Shared,s3=s0->codeAny (model X.prog X.w) X.A (.compLoop (.ListComp elt [⟨target,iter,ifs,0⟩] scope pos) 0 (.ref it) (.ref s.heap.objs.size) (qEy X.env scope (s.heap.objs.size+1))) (RR (.ref s.heap.objs.size) (s.heap.objs.size+1)) s3:=by
  intro s3 e3;refine qL9 (λn s'=>∃(i:Nat) (ys:List V) (H':Hp) (its:List Value) (k:Nat),Inv X' [(s.heap.objs.size,{ cls:=.type "list",data:=.seq its.toArray k })] (subσ sub σ) H' s'/\qBn ys its/\ys.length<=sizeLine/\tn i s'.heap/\(∀b∈fp,H' b=none)/\W i n ys H') ?_ m0
   ⟨0,[],H,[],0,by rw[e3];exact I0,.nil,hAp _,by rw[e3];exact st0,λb hb=>(hf b hb).1,w0⟩
  rintro n s4 ⟨i,ys,H4,its,k,I4,rv,hz,st4,fr4,w4⟩;have pe:∀p∈([(s.heap.objs.size,({ cls:=.type "list",data:=.seq its.toArray k }:Obj))]:List (Addr×Obj)),p.1=s.heap.objs.size:=λp hp=>by
   rw[hA9]at hp;rw[hp]
  rcases turn i n ys H4 w4 with ⟨stop,q⟩|⟨go,step⟩
  ·-- the end
   have td:=T.done X' xp xw xK xc i _ s4 (subσ sub σ) H4 (λ_ _=>False) I4 (stat pe fr4) st4 stop;rw[xA]at td;refine thn td λr s5 ⟨hr,I5⟩=>?_
   subst hr;have pa:=I5.pin (s.heap.objs.size,{ cls:=.type "list",data:=.seq its.toArray k }) (by rw[xpn];simp);have nacc:H4 s.heap.objs.size=none:=pa.2.1;have nC:H4 (s.heap.objs.size+1)=none:=by have z:=I5.free;rw[xe]at z;exact z
   have un:Un (frs X.stack) fp H H4 s.heap s5.heap:=by have z:=I5.base;rw[xf,xx,xh,x0]at z;exact z
   have un2:Un (frs X.stack) fp H (upd H4 s.heap.objs.size (.lst ys)) s.heap s5.heap:=by
    refine⟨un.keep,un.slot,λb o e n hx=>?_,un.there,λb xs e=>?_,λb o u e=>?_,λb ps e=>?_⟩
    ·rw[qAk (hAu (Heap.lt_size e))];exact un.free b o e n hx
    ·have z:=un.tups b xs e;rw[qAk (qAo z nacc)];exact z
    ·have z:=un.frzs b o u e;rw[qAk (qAo z nacc)];exact z
    ·obtain⟨more,z⟩:=un.tbls b ps e;exact⟨more,by rw[qAk (qAo z nacc)];exact z⟩
   have hok5:HOk X.prog X.w H4 s5.heap:=by have z:=I5.hok;rw[xp,xw]at z;exact z
   have hok2:HOk X.prog X.w (upd H4 s.heap.objs.size (.lst ys)) s5.heap:=λb u e=>by
    by_cases hb:b=s.heap.objs.size
    ·subst hb;rw[upd_same]at e;cases e;exact⟨hz,its,k,rv,pa.1⟩
    ·rw[qAk hb]at e;exact(hok5 b u e).stay (λ_ _ _ q=>q) (λc q=>by rw[qAk (qAo q nacc)];exact q) λc xs q=>by rw[qAk (qAo q nacc)];exact q
   have os5:s5.os=s.os:=by have z:=I5.os;rw[x0]at z;exact z
   have J5:Inv X aB σ (upd H4 s.heap.objs.size (.lst ys)) s5:=I.call' os5 un2 hok2 I5.bare λb hb=>by
    obtain⟨f0,f1,f2,f3,f4,f5⟩:=hf b hb;exact⟨f3,f1,f4,f5⟩
   refine hRR _ _ ys H4 s5 J5 (I.fpOk (hBk _) ?_) ?_ nacc q
   ·rw[qAk (Nat.succ_ne_self _)];exact nC
   ·obtain⟨m,hn,_⟩:=I5.loc;rw[xe]at hn;exact⟨m,hn⟩
  ·-- one turn
   have ti:=T.item X' xp xw xK xc i _ s4 (subσ sub σ) H4 (λ_ _=>False) I4 (stat pe fr4) st4 go;rw[xA]at ti;refine thn ti λr s5 ⟨u,hr,h5⟩=>?_
   subst hr;refine thn h5 λ_ s6 ⟨x,H6,I6,r6,y6,st6,fr6⟩=>?_
   have I6':=I6.pinned (stat pe fr6) (T.obj _ _ st6);have tg:=hg _ s6 (subσ sub σ) H6 x u _ I6' r6 (step x H6 y6);rw[xp,xw,xA,xe,xxe]at tg;refine thn tg λ_ s7 ⟨σ7,H7,I7,le7,q7⟩=>?_
   have tts:=ht _ s7 σ7 H7 _ I7 q7;rw[xp,xw,xA,xe,xxe]at tts;refine thn tts λb s8 ⟨H8,I8,q8⟩=>?_
   cases b with
   |false =>
    rw[hEm hAz]at q8 ⊢;obtain⟨m',hm',w8⟩:=q8;have I9:Inv X' ([(s.heap.objs.size,{ cls:=.type "list",data:=.seq its.toArray k })]++qJd fp s6.heap) (subσ sub σ) H8 s8:=I8.weak le7.1.symm le7.2;refine⟨m',hm',i+1,ys,H8,its,k,I9.unpinned,rv,hz,T.keep _ _ _ st6 λb hb o e=>(I9.pin (b,o) (hA8 _ (hA8 _ (qC4 hb e)))).1,λb hb=>?_,w8⟩;obtain⟨o,e,d⟩:=T.obj _ _ st6 b hb;exact(I9.pin (b,o) (hA8 _ (hA8 _ (qC4 hb e)))).2.1
   |true =>
    rw[hEn rfl]at q8 ⊢;have tee:=he _ s8 σ7 H8 _ I8 q8;rw[xp,xw,xA,xe,xxe]at tee;refine thn tee λvv s9 ⟨v,H9,I9,r9,lz,m',hm',w9⟩=>?_
    have I10:Inv X' ([(s.heap.objs.size,{ cls:=.type "list",data:=.seq its.toArray k })]++qJd fp s6.heap) (subσ sub σ) H9 s9:=I9.weak le7.1.symm le7.2;have pa:=I10.pin (s.heap.objs.size,{ cls:=.type "list",data:=.seq its.toArray k }) (by rw[xpn];simp);have hlen:=rv.length;refine wpAny_list_append_plain (items:=its.toArray) ⟨k,pa.1⟩ (λh' pl sb=>?_) (by rw[hAf];omega);obtain⟨k',pl⟩:=pl;have keepIt:∀b∈fp,∀o,s6.heap.get? b=some o->h'.get? b=some o:=λb hb o e=>by
     have nb:b≠s.heap.objs.size:=hAu (hfl b hb);exact(sb.2 b nb).trans (I10.pin (b,o) (hA8 _ (hA8 _ (qC4 hb e)))).1
    have I11:Inv X' [] (subσ sub σ) H9 s9:=I10.pins_of λp hp=>absurd hp (by simp)
    have sacc:s.heap.objs.size≠X'.env.locals:=pa.2.2.1;have I12:Inv X' [] (subσ sub σ) H9 { s9 with heap:=h' }:=I11.turned (t':=s9.toks) (it:=s.heap.objs.size) (λb o hb e=>(sb.2 b hb).trans e) pa.2.1 sacc (.inr (by rw[x0];exact hAa _))
     (λy c hy z=>by
      obtain⟨w',o',ho',hd'⟩:=I10.cell y c hy;rw[z,pa.1]at ho';have z2:=hAq ho';rw[<-z2]at hd';cases hd') (λp hp=>absurd hp (by rw[xpn];simp))
    refine⟨m',hm',i+1,ys++[v],H9,its++[vv],k',I12.pins_of (λp hp=>?_),rv.append (.cons r9 .nil),by rw[hAc,List.length_singleton];omega,T.keep _ _ _ st6 keepIt,λb hb=>?_,w9⟩
    ·rw[hA9]at hp;subst hp;refine⟨?_,pa.2.1,sacc,pa.2.2.2.1,λv z=>by cases z⟩;show h'.get? s.heap.objs.size=_;rw[pl];simp
    ·obtain⟨o,e,d⟩:=T.obj _ _ st6 b hb;exact(I10.pin (b,o) (hA8 _ (hA8 _ (qC4 hb e)))).2.1
 exact codeAny_compStart_list (loop _ rfl) (T.self _ 0 _ _ _ st0 (loop _ rfl))
end
def qQj(sub:List (Option Nat))(wi:TI)(g:TG)(tt:TT)(te:TE):TE:=λσ H Q=>wi σ H λJ H1 =>
 qEf J (subσ sub σ) g tt te (λys H'=>∀r,H' r=none->Q (.ref r) (upd H' r (.lst ys))) H1
section
variable{X:Cx}{target iter elt:Expr}{ifs:List Expr}{scope:Scope}{pos:Pos}{N':List Str}{sub:List (Option Nat)}{wi:TI}{g:TG}{tt:TT}{te:TE}
theorem qUb(I:Inv X aB σ H s)(O:CmpOk X.N X.env.scope N' scope sub):closureFor scope X.env=pure (qDh X.env.cells scope.names []) :=
 qKq λx hx hf=>I.ok.has x.1 (by rcases O.free x hx hf with z|z;exact .inl z;exact .inr z)
theorem qPb(O:CmpOk X.N X.env.scope N' scope sub):∀y∈scope.names,y.2 = .local->scope.names.lookup y.1=some .local:=λy hy e=>by
 obtain⟨n,k⟩:=y;cases e;exact qC0 O.nd hy
theorem qZ5(hc:X.calm=true)(O:CmpOk X.N X.env.scope N' scope sub)(hi:PI X target iter wi)
  (B:∀C s H fp,PG (qCn X scope N' C s H fp) target g/\PTs (qCn X scope N' C s H fp) ifs tt/\PE (qCn X scope N' C s H fp) elt te)
  (hs:∀x,foldedSetIterable iter X.env x=pure x:=by intro _;rfl):PE X (.ListComp elt [⟨target,iter,ifs,0⟩] scope pos) (qQj sub wi g tt te):=by
 intro aB s σ H Q I h;rw[eval_ListComp];refine wpAny_comprehension_free (use:=none) rfl hs (qUb I O) O.kind (qPb O) (thn (hi aB s σ H _ I h) λv s1 h1=>thn h1 λitv s2 h2=>?_);obtain⟨it,fp,tn,J,H2,e,I2,T,st2,f2,rd⟩:=h2;subst e;refine qL8 (RR:=λacc C=>compPost (model X.prog X.w) X.A X.xe none (EP X aB σ Q) acc C) (λX' _ e=>e.trans hc) I2 O T st2 f2 B rd λacc C ys H' s' I' fC hn na q=>?_
 obtain⟨m,hn⟩:=hn;obtain⟨f0,f1,f3,f4,f5,f6⟩:=fC;refine⟨m,hn,λh' sb=>?_⟩;exact⟨.ref acc,upd H' acc (.lst ys),I'.turned (t':=s'.toks) (it:=C) (λb o hb e=>(sb.2 b hb).trans e) f0 f1 f4 f5 f6,rfl,q acc na⟩
theorem qZx(hc:X.calm=true)(O:CmpOk X.N X.env.scope N' scope sub)(hi:PI X target iter wi)
  (B:∀C s H fp,PG (qCn X scope N' C s H fp) target g/\PTs (qCn X scope N' C s H fp) ifs tt/\PE (qCn X scope N' C s H fp) elt te)
  (hN:X.N.Nodup) (hy:X.N[i]?=some y) (hx:Loc X.env.scope y)
  (hsw:swapsWith (.ListComp elt [⟨target,iter,ifs,0⟩] scope pos) (some (.Name y py)) spos.line X.env=pure true)
  (hs:∀x,foldedSetIterable iter X.env x=pure x:=by intro _;rfl) (hf:X.fn y=true\/X.env.scope.names.lookup y=some .local:=by first|exact .inl rfl|exact .inr rfl|assumption) :
  PS X (.Assign [.Name y py] (.ListComp elt [⟨target,iter,ifs,0⟩] scope pos) spos) (zB4 (qQj sub wi g tt te) (qNs i)):=by
 intro aB s σ H D I h;rw[exec_Assign_Name_used _ _ _ _ hsw];refine hEh (wpAny_standAt (hEh ?_));show wpAny _ _ (do let _ ← comprehension (.ListComp elt [⟨target,iter,ifs,0⟩] scope pos) scope X.env _ (newList []) false (eval iter X.env) (some (assign (.Name y py) X.env))) _ _ s;refine hEh (hEu (wpAny_comprehension_free (use:=some (assign (.Name y py) X.env)) (Q:=λ_ s'=>SP X aB D .next s') rfl hs (qUb I O) O.kind (qPb O)
  (thn (hi aB s σ H _ I h) λv s1 h1=>thn h1 λitv s2 h2=>?_)) (λ_ s' hq=>hEk (hEk hq)) λ_ _ e=>e)
 obtain⟨it,fp,tn,J,H2,e,I2,T,st2,f2,rd⟩:=h2;subst e;refine qL8 (RR:=λacc C=>compPost (model X.prog X.w) X.A X.xe (some (assign (.Name y py) X.env)) (λ_ s'=>SP X aB D .next s') acc C) (λX' _ e=>e.trans hc) I2 O T st2 f2 B rd λacc C ys H' s' I' fC hn na q=>?_
 obtain⟨m,hn⟩:=hn;obtain⟨f0,f1,f3,f4,f5,f6⟩:=fC;show wpAny _ _ (assign (.Name y py) X.env (.ref acc)) _ _ s';refine wpAny_assign_Name (qKz (v:=.ref acc) I' hN hy hx rfl (λs'' I'' ⟨a,sb,ha⟩=>?_) hf);have nCa:C≠a:=by
  rcases ha with z|z
  ·rw[z];exact f1
  ·exact λe=>f5 _ _ z e.symm
 refine⟨m,hn.sameBut sb nCa,λh' sb'=>?_⟩;exact⟨_,upd H' acc (.lst ys),I''.turned (t':=s''.toks) (it:=C) (λb o hb e=>(sb'.2 b hb).trans e) f0 f1 f4 f5 f6,q acc na⟩
end
section
variable{σ0:St}{g:TG}{tt:TT}{te:TE}{Q:List V->Hp->Prop}{H1:Hp}
def Nxt(n i:Nat)(Pv:Nat->List V->Hp->Prop)(ys:List V)(H:Hp):Prop:=∃m',m'<n-i/\m'=n-(i+1)/\i+1<=n/\Pv (i+1) ys H
theorem nxt(hi:i<n)(h:Pv (i+1) ys H):Nxt n i Pv ys H:=⟨_,by omega,rfl,hi,h⟩
theorem qAq{K:PySem.W.Frag}{a:Addr}{xs:List V}(Pv:Nat->List V->Hp->Prop)(h0:Pv 0 [] H1)(hl:∀i ys H,i<=xs.length->Pv i ys H->SqL K H a xs)
  (hs:∀i x ys H,xs[i]?=some x->Pv i ys H->g x σ0 H λσ2 H2=>Sle σ0 σ2/\tt σ2 H2 λb H3=>if b=true then te σ2 H3 (λv H4=>ys.length<sizeLine/\Nxt xs.length i Pv (ys++[v]) H4) else Nxt xs.length i Pv ys H3)
  (hd:∀ys H,Pv xs.length ys H->Q ys H):qEf (Itl K a) σ0 g tt te Q H1:=by
 refine⟨λi m ys H=>m=xs.length-i/\i<=xs.length/\Pv i ys H,⟨xs.length,by simp,hAp _,h0⟩,?_⟩;rintro i m ys H ⟨rfl,hi,p⟩;have q:=hl i ys H hi p;by_cases hlt:i<xs.length
 ·refine .inr ⟨⟨xs,xs[i],q,by simp[hlt]⟩,λx H' y=>?_⟩;obtain⟨e,y⟩:=y;subst e;exact hs i x ys _ (y xs q) p
 ·have e:i=xs.length:=by omega
  subst e;exact .inl ⟨⟨xs,q,hAa _⟩,hd ys H p⟩
theorem qDr{lo:Int}{n:Nat}(Pv:Nat->List V->Hp->Prop)(h0:Pv 0 [] H1)
  (hs:∀i ys H,i<n->Pv i ys H->g (.int (lo+i)) σ0 H λσ2 H2=>Sle σ0 σ2/\tt σ2 H2 λb H3=>if b=true then te σ2 H3 (λv H4=>ys.length<sizeLine/\Nxt n i Pv (ys++[v]) H4) else Nxt n i Pv ys H3)
  (hd:∀ys H,Pv n ys H->Q ys H):qEf (Itr lo n) σ0 g tt te Q H1:=by
 refine⟨λi m ys H=>m=n-i/\i<=n/\Pv i ys H,⟨n,by simp,hAp _,h0⟩,?_⟩;rintro i m ys H ⟨rfl,hi,p⟩;by_cases hlt:i<n
 ·refine .inr ⟨hlt,λx H' y=>?_⟩;obtain⟨e,y⟩:=y;subst e y;exact hs i ys _ hlt p
 ·have e:i=n:=by omega
  subst e;exact .inl ⟨hAa _,hd ys H p⟩
end
end L2
namespace L2
open PySem PySem.Spec PyProof.Rows PySem.SeqAt
mutual
inductive DR (K:PySem.W.Frag) (H:Hp):V->PyData->Prop
 |non:DR K H .non .none
 |bl (b:Bool):DR K H (.bl b) (.bool b)
 |int (i:Int):DR K H (.int i) (.int i)
 |str (x:Str):DR K H (.str x) (.str x)
 |lst {a:Addr} {xs:List V} {ds:List PyData}:SqL K H a xs->DRs K H xs ds->DR K H (.ref a) (.list ds)
 |tup {a:Addr} {xs:List V} {ds:List PyData}:SqT K H a xs->DRs K H xs ds->DR K H (.ref a) (.tuple ds)
inductive DRs (K:PySem.W.Frag) (H:Hp):List V->List PyData->Prop
 |nil:DRs K H [] []
 |cons {v:V} {d:PyData} {vs:List V} {ds:List PyData}:DR K H v d->DRs K H vs ds->DRs K H (v :: vs) (d :: ds)
end
section
variable{X:Cx}{aB:List (Addr×Obj)}{σ:St}{H:Hp}{s:Shared}
mutual
theorem DR.reads(I:Inv X aB σ H s):∀ {v:V} {d:PyData} {u:Value},DR X.K H v d->qDa v u->∃as,Reads s.heap u d as
 |_,_,_,.non,r=>by cases r;exact⟨_,.none⟩
 |_,_,_,.bl b,r=>by cases r;exact⟨_,.bool b⟩
 |_,_,_,.int i,r=>by obtain⟨t,rfl⟩:=r;exact⟨_,.int i t⟩
 |_,_,_,.str x,r=>by obtain⟨t,rfl⟩:=r;exact⟨_,.str x t⟩
 |_,_,_,.lst hq hd,r=>by
  cases r;obtain⟨its,rv,⟨o,n,e,c,_,dt⟩,_⟩:=I.list hq;obtain⟨as,ra⟩:=DRs.reads I hd rv;exact⟨_,.list e c dt ra⟩
 |_,_,_,.tup hq hd,r=>by
  cases r;obtain⟨its,rv,⟨o,e,c,n,dt⟩,_⟩:=I.tuple hq;obtain⟨as,ra⟩:=DRs.reads I hd rv;exact⟨_,.tuple e c dt ra⟩
theorem DRs.reads(I:Inv X aB σ H s):∀ {vs:List V} {ds:List PyData} {us:List Value},DRs X.K H vs ds->qBn vs us->∃as,ReadsAll s.heap us ds as
 |_,_,_,.nil,r=>by cases r;exact⟨_,.nil⟩
 |_,_,_,.cons h t,r=>by
  cases r with
  |cons r rr =>
   obtain⟨a1,q1⟩:=DR.reads I h r;obtain⟨a2,q2⟩:=DRs.reads I t rr;exact⟨_,.cons q1 q2⟩
end
end
def zD1(K:PySem.W.Frag)(neg:Bool):R2:=λx y H Q=>∃dx dy,DR K H x dx/\DR K H y dy/\shaped dx=true/\shaped dy=true/\Q (.bl (if neg then !PyData.eqv dx dy else PyData.eqv dx dy)) H
section
variable{X:Cx}
theorem qYb(hu:X.A.units+64<cLine):OpR X (compareOp .Eq) (zD1 X.K false):=by
 intro aB s σ H x y v u Q I rx ry h;obtain⟨dx,dy,hx,hy,sx,sy,q⟩:=h;obtain⟨a1,r1⟩:=DR.reads I hx rx;obtain⟨a2,r2⟩:=DR.reads I hy ry;exact eq_dataH r1 r2 sx sy hu ⟨.bl (PyData.eqv dx dy),H,I,rfl,q⟩
theorem qFo(hu:X.A.units+64<cLine):OpR X (compareOp .NotEq) (zD1 X.K true):=by
 intro aB s σ H x y v u Q I rx ry h;obtain⟨dx,dy,hx,hy,sx,sy,q⟩:=h;obtain⟨a1,r1⟩:=DR.reads I hx rx;obtain⟨a2,r2⟩:=DR.reads I hy ry;exact ne_dataH r1 r2 sx sy hu ⟨.bl (!PyData.eqv dx dy),H,I,rfl,q⟩
theorem qEh:∀ {us:List Value},qBn (ss.map V.str) us->StrsAre us ss:=by
 induction ss with
 |nil=>intro us r;cases r;exact .nil
 |cons a l ih =>
  intro us r;cases r with
  |cons r rr =>
   obtain⟨t,rfl⟩:=r;exact .cons a t (ih rr)
theorem qJg:∀ {us:List Value},StrsAre us ss->qBn (ss.map V.str) us:=by
 induction ss with
 |nil=>intro us r;cases r;exact .nil
 |cons a l ih =>
  intro us r;cases r with
  |cons _ _ r=>exact .cons ⟨_,rfl⟩ (ih r)
theorem qCa:qB2 X (.builtin "sorted") (λxs H Q=>∃p ss,xs=[.ref p]/\SqL X.K H p (ss.map V.str)/\ss.length<64/\∀r ss',H r=none->ss'.Perm ss->sortedS ss'=true->Q (.ref r) (upd H r (.lst (ss'.map V.str)))):=by
 intro aB s σ H xs us Q I r h;obtain⟨p,ss,rfl,hq,h64,q⟩:=h;obtain⟨u,rfl,rx⟩:=qCy r;cases rx;obtain⟨its,rv,pl,hz⟩:=I.list hq;have hl:=rv.length;rw[hA1]at hl;refine sorted_strs pl.isList (qEh rv) (by omega) λout ss' h1 h2 h3=>?_
 obtain⟨e,he⟩:=hFv s.heap its out;have nz:H (s.heap.objs.size+1)=none:=I.hok.fresh (hBk _);refine⟨.ref (s.heap.objs.size+1),_,I.laid (t':=s.toks) (a:=s.heap.objs.size+1) (o:=.lst (ss'.map V.str)) (λb o eb=>hFq eb) (hBk _) ?_,rfl,q _ ss' nz h2 h3⟩;refine⟨?_,out.toList,e,qJg h1,by simpa using he⟩;rw[hA1,h2.length_eq];exact hB5 (qAf (by omega))
end
end L2
namespace L2
open PySem PySem.Spec PyProof.Rows
section
variable{X:Cx}
theorem qXx:SlR X (λx lo hi H Q=>∃z:Str,x = .str z/\z.length<=sizeLine/\Q (.str (Txt.slice z lo hi)) H):=by
 intro aB s σ H x v vl vu lo hi sl Q I rx hs pl pu h;obtain⟨z,rfl,hz,q⟩:=h;obtain⟨t,rfl⟩:=rx;refine⟨"str",_,F.slot_str_getitem.lookup,typeIs_str _ _ _,?_⟩;obtain⟨o,ho,hc,hd⟩:=hs;have fin:∀t' k,EP X aB σ Q (.str (Txt.slice z lo hi) t') { s with toks:=k }:=λt' k=>⟨.str (Txt.slice z lo hi),H,I.tok k,⟨t',rfl⟩,q⟩
 cases pl with
 |none =>
  cases pu with
  |none=>exact hF3 (l:=none) (u:=none) (st:=none) ⟨o,ho,hc,hd⟩ rfl (hFt ⟨hAw (Txt.slice_le z _ _) hz,fin⟩)
  |int j uj=>exact hF3 (l:=none) (u:=some (j,uj)) (st:=none) ⟨o,ho,hc,hd⟩ rfl (hFt ⟨hAw (Txt.slice_le z _ _) hz,fin⟩)
 |int i ui =>
  cases pu with
  |none=>exact hF3 (l:=some (i,ui)) (u:=none) (st:=none) ⟨o,ho,hc,hd⟩ rfl (hFt ⟨hAw (Txt.slice_le z _ _) hz,fin⟩)
  |int j uj=>exact hF3 (l:=some (i,ui)) (u:=some (j,uj)) (st:=none) ⟨o,ho,hc,hd⟩ rfl (hFt ⟨hAw (Txt.slice_le z _ _) hz,fin⟩)
theorem qC7:qB2 X (.builtin "isinstance") (λxs H Q=>∃x t c b,xs=[x,.ty c]/\TyOf X.K H x t/\PySem.W.kitOne X.K t (.type c)=some b/\Q (.bl b) H):=by
 intro aB s σ H xs us Q I r h;obtain⟨x,t,c,b,rfl,ty,e,q⟩:=h;obtain⟨u,w',rfl,rx,rc⟩:=qY3 r;cases(show w'=Value.type c from rc);exact qTh I rx ty e λtk=>⟨.bl b,H,I.tok tk,rfl,q⟩
end
section
variable{X:Cx}
theorem qWv(bs:List Bool)(d:Bool):(List.range bs.length).all (λi=>bs.getD i d)=bs.all id:=by
 induction bs with
 |nil=>rfl
 |cons b r ih =>
  rw[hCb,hE5,List.all_cons,List.all_map,List.all_cons];have e:((λi=>(b :: r).getD i d)∘Nat.succ)=λi=>r.getD i d:=by
   funext i;simp
  rw[e,ih];simp
theorem qWu(bs:List Bool)(d:Bool):(List.range bs.length).any (λi=>bs.getD i d)=bs.any id:=by
 induction bs with
 |nil=>rfl
 |cons b r ih =>
  rw[hCb,hE5,List.any_cons,List.any_map,List.any_cons];have e:((λi=>(b :: r).getD i d)∘Nat.succ)=λi=>r.getD i d:=by
   funext i;simp
  rw[e,ih];simp
theorem qXe{P:Program}{w:World}{A:Around}{bs:List Bool}{its:List Value}(rv:qBn (bs.map V.bl) its)(d:Bool):TruthOf P w A (λi v=>its.toArray[i]?=some v) (λi=>bs.getD i d):=by
 intro i v s Q E hv hQ;have hv':its[i]?=some v:=by simpa using hv
 have hi:i<its.length:=(hAm.mp hv').1;have hl:=rv.length;rw[hA1]at hl;have hb:(bs.map V.bl)[i]?=some (V.bl bs[i]):=by rw[hAi,hA2 (by omega)];rfl
 obtain⟨u,hu,ru⟩:=rv.get hb;rw[hv']at hu;have e:v=Value.bool bs[i]:=(hAq hu).trans ru;rw[e];have e2:bs.getD i d=bs[i]:=by rw[hA7,hA2 (by omega)];rfl
 have hQ:Q (bs.getD i d) s:=hQ;rw[e2]at hQ;exact hEw hQ
theorem qF6(hc:X.calm=true):qB2 X (.builtin "all") (λxs H Q=>∃(p:Addr) (bs:List Bool),xs=[.ref p]/\SqL X.K H p (bs.map V.bl)/\Q (.bl (bs.all id)) H):=by
 intro aB s σ H xs us Q I r h;obtain⟨p,bs,rfl,hq,q⟩:=h;obtain⟨u,rfl,rx⟩:=qCy r;cases rx;obtain⟨its,rv,pl,hz⟩:=I.list hq;have hl:=rv.length;rw[hA1]at hl;have hne:p≠s.heap.objs.size:=by
  obtain⟨o,n,e,_⟩:=pl;exact hAu (Heap.lt_size e)
 have hh:=I.ok.hd hc;refine call_all_walk (hFl pl.isList ?_);refine⟨s.heap.objs.size,_,_,_,_,_,λi=>bs.getD i true,rfl,Walks.list (by exact hh) _ p hne its.toArray,⟨⟨_,Heap.get?_push_size _ rfl,rfl,rfl⟩,pl.isList.at λo e=>Heap.get?_push_of_some _ e⟩,qXe rv true,λh' tk hk=>?_⟩;refine⟨.bl (bs.all id),H,I.kept (t':=tk) λb o e=>hk b o ?_ (Heap.get?_push_of_some _ e),?_,q⟩
 ·intro z;rw[hA9]at z;exact absurd (Heap.lt_size e) (by rw[z];exact hD0 _)
 ·show Value.bool _=Value.bool _;rw[hAf,<-hl,qWv]
theorem qUf(hc:X.calm=true):qB2 X (.builtin "any") (λxs H Q=>∃(p:Addr) (bs:List Bool),xs=[.ref p]/\SqL X.K H p (bs.map V.bl)/\Q (.bl (bs.any id)) H):=by
 intro aB s σ H xs us Q I r h;obtain⟨p,bs,rfl,hq,q⟩:=h;obtain⟨u,rfl,rx⟩:=qCy r;cases rx;obtain⟨its,rv,pl,hz⟩:=I.list hq;have hl:=rv.length;rw[hA1]at hl;have hne:p≠s.heap.objs.size:=by
  obtain⟨o,n,e,_⟩:=pl;exact hAu (Heap.lt_size e)
 have hh:=I.ok.hd hc;refine call_any_walk (hFl pl.isList ?_);refine⟨s.heap.objs.size,_,_,_,_,_,λi=>bs.getD i true,rfl,Walks.list (by exact hh) _ p hne its.toArray,⟨⟨_,Heap.get?_push_size _ rfl,rfl,rfl⟩,pl.isList.at λo e=>Heap.get?_push_of_some _ e⟩,qXe rv true,λh' tk hk=>?_⟩;refine⟨.bl (bs.any id),H,I.kept (t':=tk) λb o e=>hk b o ?_ (Heap.get?_push_of_some _ e),?_,q⟩
 ·intro z;rw[hA9]at z;exact absurd (Heap.lt_size e) (by rw[z];exact hD0 _)
 ·show Value.bool _=Value.bool _;rw[hAf,<-hl,qWu]
end
theorem qNh(t:SetTable)(n:Nat):(t.orStandIn n).led=t.led:=by
 unfold SetTable.orStandIn;split <;> rfl
theorem qQv(t:SetTable)(es:Array (Int×Value))(h:Int)(x:Value):(layNew t es h x).2.1.led=t.led:=by
 unfold layNew;split
 ·exact qNh _ _
 ·rfl
theorem qSh(t:SetTable)(es:Array (Int×Value))(k:Nat):(relayAll t es k).2.1.led=t.led:=by
 unfold relayAll;split
 ·rename_i u order e;have eu:u.led=t.led:=by
   unfold SetTable.relaid SetTable.laid at e;cases hc:SetTable.layClean (SetTable.sizeAbove k-1) (es.map (·.1)) with
   |none=>rw[hc]at e;cases e
   |some o =>
    rw[hc]at e;injection e with e
    injection e with e1 e2
    rw[<-e1]
  dsimp only;split
  ·exact eu
  ·rfl
 ·rfl
theorem qNa(t:SetTable)(es:Array (Int×Value))(k:Nat)(hp:t.plain=false):(relayAll t es k).2.1.plain=false:=by
 unfold relayAll;split
 ·rename_i u order e;have eu:u.plain=t.plain:=by
   unfold SetTable.relaid SetTable.laid at e;cases hc:SetTable.layClean (SetTable.sizeAbove k-1) (es.map (·.1)) with
   |none=>rw[hc]at e;cases e
   |some o =>
    rw[hc]at e;injection e with e
    injection e with e1 e2
    rw[<-e1]
  dsimp only;split
  ·exact eu.trans hp
  ·rfl
 ·rfl
def qCb(P:Program)(w:World)(h:Heap)(a:Addr)(ss:List Str):Prop :=
 ∃(es:Array (Int×Value)) (ep:Nat) (t:SetTable),h.get? a=some { cls:=.type "set",dict:=none,data:=.set es ep t,slots:=#[] }/\ElemsOf (PySem.strKind P w) es.toList /\
  StrsAre (es.toList.map (·.2)) ss/\es.size<scanBound/\t.fits es.size=true/\t.led=!w.params.followText "set-order"/\(es.size≠0->t.plain=false)
theorem qJt:∀ {vs:List Value} {ss:List Str},StrsAre vs ss->((∃v∈vs,Value.isStrOf x v=true)↔x∈ss)
 |_,_,.nil=>by simp
 |_,_,.cons y t r=>by
  have ih:=qJt (x:=x) r;have hy:Value.isStrOf x (.str y t)=true↔x=y:=by
   constructor
   ·intro h;obtain⟨u,e⟩:=Value.isStrOf_shape h;cases e;rfl
   ·rintro rfl;simp[Value.isStrOf]
  constructor
  ·rintro⟨v,hv,hp⟩;rcases hAg.mp hv with rfl|hv
   ·rw[hy.mp hp];exact hA6
   ·exact hA4 _ (ih.mp ⟨v,hv,hp⟩)
  ·intro h;rcases hAg.mp h with h|h
   ·exact⟨_,hA6,hy.mpr h⟩
   ·obtain⟨v,hv,hp⟩:=ih.mpr h;exact⟨v,hA4 _ hv,hp⟩
theorem qRh{es es1:List (Int×Value)}{ss:List Str}{k:Int}{x:Str}{t:Tok}(hS:StrsAre (es.map (·.2)) ss)(p:es1.Perm (es++[(k,.str x t)])):∃ss1,StrsAre (es1.map (·.2)) ss1/\ss1.Perm (ss++[x]):=by
 have hall:∀v,v∈es1.map (·.2)->∃y u,v = .str y u:=by
  intro v hv;obtain⟨e,he,rfl⟩:=hAb.mp hv;rcases hAd.mp (p.mem_iff.mp he) with z|z
  ·exact hS.all _ (hB3 z)
  ·rw[hA9]at z;subst z;exact⟨x,t,rfl⟩
 refine⟨_,strsAre_map _ hall,?_⟩;have q:=(p.map (·.2)).map strOf;rw[hA3,hA3,hS.strs]at q;exact q
theorem qGc{es es1:List (Int×Value)}{ss:List Str}(hS:StrsAre (es.map (·.2)) ss)(p:es1.Perm es):∃ss1,StrsAre (es1.map (·.2)) ss1/\ss1.Perm ss:=by
 have hall:∀v,v∈es1.map (·.2)->∃y u,v = .str y u:=by
  intro v hv;obtain⟨e,he,rfl⟩:=hAb.mp hv;exact hS.all _ (hB3 (p.mem_iff.mp he))
 refine⟨_,strsAre_map _ hall,?_⟩;have q:=(p.map (·.2)).map strOf;rw[hS.strs]at q;exact q
section
variable{P:Program}{w:World}{A:Around}{E:Value->Shared->Prop}{s:Shared}{a:Addr}{ss:List Str}
theorem qI2(ho:s.heap.get? a=some { cls:=.type "set",dict:=none,data:=.set es ep t,slots:=#[] }) :
  (s.heap.update a (Obj.putSet es' t')).get? a=some { cls:=.type "set",dict:=none,data:=.set es' (ep+1) t',slots:=#[] }:=by
 have q:=Heap.get?_update_self (Obj.putSet es' t') ho (by rw[putSet_of es' t' rfl];rfl);rw[putSet_of es' t' rfl]at q;exact q
theorem qKy{g:Bool->Sem Unit}(hg:∀(b:Bool) (s1:Shared) (Q':Unit->Shared->Prop),Q' () s1->wpAny (model P w) A (g b) Q' E s1){es es1:Array (Int×Value)}{ep:Nat}{t t2:SetTable}{ss1:List Str}
  (ho:s.heap.get? a=some { cls:=.type "set",dict:=none,data:=.set es ep t,slots:=#[] }) (e1:ElemsOf (PySem.strKind P w) es1.toList) (e2:StrsAre (es1.toList.map (·.2)) ss1) (e3:es1.size<scanBound) (e4:t2.fits es1.size=true)
  (e5:t2.led=!w.params.followText "set-order") (e6:t2.plain=false) {wasD:Bool} {R:Option Bool->Shared->Prop} (h:∀h' ss',Heap.SameBut a s.heap h'->qCb P w h' a ss'->ss'.Perm ss1->R (some true) { s with heap:=h' }) :
  wpAny (model P w) A (do
    storeSet a es1 t2
    if (!wasD && t2.tooFull)=true then do
      g (relayAll t2 es1 (SetTable.grown es1.size)).2.2
      storeSet a (relayAll t2 es1 (SetTable.grown es1.size)).1 (relayAll t2 es1 (SetTable.grown es1.size)).2.1
      pure (some true)
     else pure (some true)) R E s:=by
 refine hEh (wpAny_storeSet_of ho rfl ?_ (hFm e3));have o1:(s.heap.update a (Obj.putSet es1 t2)).get? a=_:=qI2 (s:=s) ho;have b1:=Heap.SameBut.update s.heap a (Obj.putSet es1 t2);split
 ·have p:=relayAll_perm t2 es1 (SetTable.grown es1.size);have f:=relayAll_fits t2 es1 (SetTable.grown es1.size);have l:=qSh t2 es1 (SetTable.grown es1.size);have pl:=qNa t2 es1 (SetTable.grown es1.size) e6;generalize relayAll t2 es1 (SetTable.grown es1.size)=Rl at p f l pl ⊢;obtain⟨es2,t3,gv⟩:=Rl;dsimp only at p f l pl ⊢;have z2:es2.size=es1.size:=by rw[<-hBy,p.length_eq,hBy]
  obtain⟨ss2,q1,q2⟩:=qGc e2 p;refine hEh (hg _ _ _ (hEh (wpAny_storeSet_of o1 rfl ?_ (hFm (by rw[z2];exact e3)))));have o2:((s.heap.update a (Obj.putSet es1 t2)).update a (Obj.putSet es2 t3)).get? a=_:=qI2 (s:={ s with heap:=s.heap.update a (Obj.putSet es1 t2) }) o1;exact hEk (h _ ss2 (b1.trans (Heap.SameBut.update _ a _)) ⟨es2,_,t3,o2,e1.perm p,q1,by rw[z2];exact e3,f,l.trans e5,λ_=>pl⟩ q2)
 ·exact hEk (h _ ss1 b1 ⟨es1,_,t2,o1,e1,e2,e3,e4,e5,λ_=>e6⟩ (hDe _))
theorem qU1(hS:qCb P w s.heap a ss)(room:ss.length+1<scanBound)
  (h:∀h' ss',Heap.SameBut a s.heap h'->qCb P w h' a ss'->(if x∈ss then ss'=ss else ss'.Perm (ss++[x]))->Q (!decide (x∈ss)) { s with heap:=h' }) :
  wpAny (model P w) A (setAddHashed a (.str x tk) ((PySem.strKind P w).hash x)) Q E s:=by
 obtain⟨es,ep,t,ho,e1,e2,e3,e4,e5,e6⟩:=hS;have hk:(PySem.strKind P w).is x (.str x tk)=true:=strKind_is P w x tk;have hsc:Value.scannable (.str x tk)=true:=rfl;have hz:ss.length=es.size:=by rw[<-e2.strs,hA1,hA1,hBy]
 unfold setAddHashed setAddHashedIn;refine hEt (hEh (hF2 ho rfl e4 ?_));dsimp only;rw[byScan_of hsc e3 e1,hEn rfl];unfold setAddByScan;refine hEh (hEh (hFz (hEh (wpAny_setScan_of hk ho rfl e4 e1 ?_))));cases hr:List.findIdx? (λe=>(PySem.strKind P w).is x e.2) es.toList with
 |some j =>
  dsimp only;obtain⟨hj,hp,_⟩:=List.findIdx?_eq_some_iff_getElem.mp hr;have hm:x∈ss:=(qJt e2).mp ⟨_,hB3 (hC4 hj),hp⟩;have q:=h s.heap ss (Heap.SameBut.refl a _) ⟨es,ep,t,ho,e1,e2,e3,e4,e5,e6⟩ (by rw[hEn hm]);rw[hEi hm]at q;exact hEk (hEk q)
 |none =>
  dsimp only;have hm:¬x∈ss:=λz=>by
   obtain⟨v,hv,hp⟩:=(qJt e2).mpr z;obtain⟨e,he,rfl⟩:=hAb.mp hv;have q:=List.findIdx?_eq_none_iff.mp hr e he;rw[show(PySem.strKind P w).is x e.2=true from hp]at q;cases q
  have gw:∀(b:Bool) (s1:Shared) (Q':Unit->Shared->Prop),Q' () s1->wpAny (model P w) A (match b with|true=>rule "set.scan.the-table-gave-way" |false=>pure ()) Q' E s1:=λb s1 Q' hq=>by
   cases b
   ·exact hEk hq
   ·exact hFz hq
  have p:=layNew_perm t es ((PySem.strKind P w).hash x) (.str x tk);have f:=layNew_fits t es ((PySem.strKind P w).hash x) (.str x tk);have l:=qQv t es ((PySem.strKind P w).hash x) (.str x tk);generalize layNew t es ((PySem.strKind P w).hash x) (.str x tk)=L at p f l ⊢;obtain⟨es1,t1,wasD,gv⟩:=L;dsimp only at p f l ⊢;rw[Array.toList_push]at p;have d1:ElemsOf (PySem.strKind P w) es1.toList:=(e1.push hk hsc).perm p;obtain⟨ss1,d2,d3⟩:=qRh e2 p;have z1:es1.size=es.size+1:=by rw[<-hBy,p.length_eq,hAc,hBy];rfl
  have d4:es1.size<scanBound:=by rw[z1,<-hz];exact room
  have fin:∀h' ss',Heap.SameBut a s.heap h'->qCb P w h' a ss'->ss'.Perm ss1->Q true { s with heap:=h' }:=λh' ss' b1 b2 b3=>by
   have q:=h h' ss' b1 b2 (by rw[hEm hm];exact b3.trans d3);rw[hEj hm]at q;exact q
  refine hEh (gw _ _ _ ?_);split
  ·rename_i hpl;refine hEh ?_;rw[hashByValue_scannable 8 hsc];refine hEk ?_;refine qKy gw ho d1 d2 d4 (SetTable.fits_plain_off f) (l.trans e5) rfl λh' ss' b1 b2 b3=>?_
   exact hEk (fin h' ss' b1 b2 b3)
  ·rename_i hpl;refine hEh (hEk ?_);rw[hEn rfl];refine qKy gw ho d1 d2 d4 f (l.trans e5) (by simpa using hpl) λh' ss' b1 b2 b3=>?_
   exact hEk (fin h' ss' b1 b2 b3)
end
theorem qCb.at(x:qCb P w h a ss)(k:∀o,h.get? a=some o->h'.get? a=some o):qCb P w h' a ss:=by
 obtain⟨es,ep,t,ho,r⟩:=x;exact⟨es,ep,t,k _ ho,r⟩
def qUy(val:Nat->Str)(i:Nat)(ss:List Str):Prop:=ss.Nodup/\ss.length<=i/\∀x,x∈ss↔∃j,j<i/\val j=x
theorem qUy.zero(val:Nat->Str):qUy val 0 []:=⟨List.nodup_nil,hAa _,λx=>by simp⟩
theorem qUy.next(h:qUy val i ss)(e:if val i∈ss then ss'=ss else ss'.Perm (ss++[val i])):qUy val (i+1) ss':=by
 obtain⟨h1,h2,h3⟩:=h;by_cases hm:val i∈ss
 ·rw[hEn hm]at e;subst e;refine⟨h1,by omega,λx=>(h3 x).trans ⟨λ⟨j,a,b⟩=>⟨j,by omega,b⟩,λ⟨j,a,b⟩=>?_⟩⟩;by_cases hj:j<i
  ·exact⟨j,hj,b⟩
  ·have:j=i:=by omega
   subst this;subst b;exact(h3 _).mp hm
 ·rw[hEm hm]at e;refine⟨e.nodup_iff.mpr ?_,?_,λx=>?_⟩
  ·rw[hCl];exact⟨h1,by simp,λy hy z hz=>by rw[hA9]at hz;subst hz;rintro rfl;exact hm hy⟩
  ·rw[e.length_eq,hAc]
   simpa using h2
  ·rw[e.mem_iff,hAd,h3 x,hA9];constructor
   ·rintro(⟨j,a,b⟩|rfl)
    ·exact⟨j,by omega,b⟩
    ·exact⟨i,by omega,rfl⟩
   ·rintro⟨j,a,b⟩;by_cases hj:j<i
    ·exact .inl ⟨j,hj,b⟩
    ·have:j=i:=by omega
     subst this;exact .inr b.symm
section
variable{P:Program}{w:World}{A:Around}{R:Result->Shared->Prop}{I:Addr}{fp wr:List Addr}{G:Array GenState->Array GenState->Prop}{n:Nat}{Pv:Nat->Value->Prop}{St:Nat->Shared->Prop}
theorem qRc(W:WalksS P w A.in1 I fp wr G n Pv St)(S:Addr)(nS:S∉fp)(val:Nat->Str)(hv:∀i v,Pv i v->∃t,v = .str (val i) t)(nb:n+1<scanBound):∀(k i:Nat) (s:Shared) (ss:List Str),n-i=k->i<=n->St i s->qCb P w s.heap S ss->qUy val i ss ->
  (∀s' ss',Moved (S :: wr) G s s'->qCb P w s'.heap S ss'->qUy val n ss'->R (.ok (.ret .none)) s')->codeAny (model P w) A (.builtin "set.update.loop" ⟨[.ref S,.ref I],[]⟩) R s:=by
 have nw:S∉wr:=λz=>nS (W.sub _ z)
 have sub:∀b∈wr,b∈S :: wr:=λb z=>hA4 _ z
 intro k
 induction k with
 |zero =>
  intro i s ss hk hi st hS ho r;have e:i=n:=by omega
  subst e;refine hEv PyProof.Rows.F.entry_set_update_loop ?_;rw[Around.under_plainId PyProof.Rows.F.plain_set_update_loop _];show wpAny _ A.in1 (pyNext (.ref I) >>= _) _ _ _;refine hEh (W.done s _ _ st λs1 m1=>hEk (r s1 ss (m1.mono sub) (hS.at λo z=>m1.heap S o nw z) ho))
 |succ k ih =>
  intro i s ss hk hi st hS ho r;have lt:i<n:=by omega
  refine hEv PyProof.Rows.F.entry_set_update_loop ?_;rw[Around.under_plainId PyProof.Rows.F.plain_set_update_loop _];show wpAny _ A.in1 (pyNext (.ref I) >>= _) _ _ _;refine hEh (W.item i s _ _ lt st λv s1 pv st1 m1=>?_);obtain⟨t,rfl⟩:=hv i v pv;have hS1:qCb P w s1.heap S ss:=hS.at λo z=>m1.heap S o nw z
  show wpAny _ A.in1 (holding [Value.str (val i) t] (setAdd S (.str (val i) t)) >>= _) _ _ s1;refine hEh (hEt ?_);unfold setAdd;refine hEt (hEh ((PySem.strKind P w).pyHash (strKind_is P w _ _) ?_));refine qU1 (s:={ s1 with toks:=s1.toks+1 }) hS1 (by have:=ho.2.1;omega) λh2 ss2 sb2 hS2 q2=>?_
  refine hEk ⟨hF0 PyProof.Rows.F.plain_set_update_loop _,ih (i+1) _ ss2 (by omega) lt (W.frame _ s1 _ _ st1 (hBk _) λb hb o e=>?_) hS2 (ho.next q2) λs3 ss3 m3 hS3 o3=>?_⟩
  ·rw[sb2.2 b (λz:b=S=>nS (by rw[<-z];exact hb))];exact e
  ·refine r s3 ss3 (Moved.trans W.gtrans ((m1.mono sub).then_heap (hBk _) λb o hb e=>?_) m3) hS3 o3;rw[sb2.2 b (λz:b=S=>hb (by rw[z];exact hA6))];exact e
end
section
variable{P:Program}{w:World}{A:Around}{E:Value->Shared->Prop}{s:Shared}
noncomputable abbrev qR0(w:World):Obj:={ cls:=.type "set",dict:=none,data:=.set #[] 0 (.fresh 0 0 (!w.params.followText "set-order")),slots:=#[] }
theorem qZf(P:Program)(w:World)(e:h.get? a=some (qR0 w)):qCb P w h a []:=⟨#[],0,_,e,λe he=>by simp at he,.nil,by show 0<scanBound;decide,by rfl,rfl,λz=>absurd rfl z⟩
theorem qT8(v:Value)(h:Q1 (.ref s.heap.objs.size) { s with heap:=s.heap.push (qR0 w) }):codeAny (model P w) A (.call (.builtin "set.__new__") ⟨[.type "set",v],[]⟩) (wants Q1 E) s:=by
 refine codeAny_of_tree ?_;show wpAny _ A.in1 (do checkBuiltinCall "set.__new__" ⟨[.type "set",v],[]⟩;again (.builtin "set.__new__" ⟨[.type "set",v],[]⟩)) _ _ s;refine hEh (hF6 (PySem.F.newCall_set_1 v) (hEk ⟨hF0 PySem.F.plain_set_new _,hEv PySem.F.entry_set_new ?_⟩));rw[Around.under_plainId PySem.F.plain_set_new _];unfold Builtin.«set.__new__» Builtin.Frozenset.newClass;have hsub:=sub_set_self;obtain⟨hp,g,d,tk,os⟩:=s;dsimp only
 wp_walk
 refine hFa (hEk ?_);dsimp only;simp only[newObj];exact hEh (wpAny_alloc (hEk (hEk h)))
theorem qUc(hh:A.handled=none)(hl:s.heap.IsList l items)(hi:StrsAre items.toList ss0)(hb:items.size+1<scanBound)
  (h:∀(h':Heap) (tk:Nat) (ss:List Str),qCb P w h' s.heap.objs.size ss->qUy (λi=>ss0.getD i default) items.size ss->(∀b o,b<s.heap.objs.size->s.heap.get? b=some o->h'.get? b=some o)->Q (.ref s.heap.objs.size) { s with heap:=h',toks:=tk }) :
  wpAny (model P w) A (call (.type "set") [.ref l]) Q E s:=by
 obtain⟨c,tl,hmro⟩:=hCu.mro;have hmade:=hCu.made;have hsub:=hCu.sub;refine wpAny_call (codeAny_of_tree ?_);show wpAny _ _ (callAny (.type "set") _) _ _ _;refine hEk ⟨Code.quiet_builtin _ (by decide +kernel),hEv PySem.F.entry_type_call ?_⟩;rw[Around.under_plain (weight_type_call_type "set" [.ref l] []) rfl];have h1:=hCu.notType;have h2:=hCu.canCreate;have hct:=PySem.F.typeCall_set_1 (.ref l)
 repeat (any_goals (first|assumption|wp_step))
 refine hFf (qT8 (.ref l) (E:=E) (Q1:=λobj s1=>obj = .ref s.heap.objs.size/\s1={ s with heap:=s.heap.push (qR0 w) }) ⟨rfl,rfl⟩) λr s1 hr=>?_
 cases r with
 |error e=>exact hr
 |ok fl =>
  cases fl with
  |ret obj =>
   obtain⟨rfl,rfl⟩:=hr;have hS:(s.heap.push (qR0 w)).get? s.heap.objs.size=some (qR0 w):=Heap.get?_push_size _ rfl;have hT:Shared.TypeIs { s with heap:=s.heap.push (qR0 w) } (.ref s.heap.objs.size) "set":=⟨_,hS,rfl⟩;have hli:=hCu.init.lookup;have hbi:=hCu.init.bind (.ref s.heap.objs.size)
   repeat (any_goals (first|assumption|wp_step))
   refine hFf (codeAny_call_builtin (R:=wants (λr s2=>r = .none/\∃h' tk ss,s2={ s with heap:=h',toks:=tk }/\qCb P w h' s.heap.objs.size ss/\qUy (λi=>ss0.getD i default) items.size ss /\
     (∀b o,b<s.heap.objs.size->s.heap.get? b=some o->h'.get? b=some o)) E) hCu.init.plain PySem.F.entry_set_init (check_set_init_1 hT ?_)) λr2 s2 hr2=>?_
   ·obtain⟨ol,hol,hcl,nl,hdl⟩:=hl;obtain⟨ocls,odict,odata,oslots⟩:=ol;simp only at hcl hdl;subst hcl;subst hdl;have hol':(s.heap.push (qR0 w)).get? l=some { cls:=.type "list",dict:=odict,data:=.seq items nl,slots:=oslots }:=Heap.get?_push_of_some _ hol;have hsls:=PySem.F.sub_list_set;have hslf:=PySem.F.sub_list_frozenset;have hne:(Value.type "list" == Value.type "dict")=false:=by decide
    have hl1:(s.heap.push (qR0 w)).IsList l items:=⟨_,hol',rfl,nl,rfl⟩;unfold Builtin.«set.__init__» noKeywords Builtin.Frozenset.updateFrom;generalize hPI:pyIter=PI
    wp_walk
    subst hPI;refine hFl hl1 (hEh (wpAny_runValue ?_));have lS:l<s.heap.objs.size:=Heap.lt_size hol;have h3:A.in1.in1.in1.handled=none:=by simp[hh]
    have nI:l≠(s.heap.push (qR0 w)).objs.size:=by
     rw[Heap.size_push];exact hAu (hBv lS)
    have nF:s.heap.objs.size∉[(s.heap.push (qR0 w)).objs.size,l]:=by
     rw[Heap.size_push];simp only[hAg,hA9,hCw,hFi,not_or];exact⟨hAu (hCa _),hCm lS⟩
    have hval:∀(i:Nat) (v:Value),items[i]?=some v->∃t,v = .str ((λi=>ss0.getD i default) i) t:=λi v hv=>by
     have hv':items.toList[i]?=some v:=by rw[hBh];exact hv
     obtain⟨x,t,rfl⟩:=hi.all v (hAh hv');refine⟨t,?_⟩;have e:=congrArg (λz=>z[i]?) hi.strs;simp only[hAi,hv']at e;show Value.str x t=Value.str (ss0.getD i default) t;rw[hA7,<-e];rfl
    refine qRc ((Walks.list h3 _ l nI items).toS) s.heap.objs.size nF (λi=>ss0.getD i default) hval hb (items.size-0) 0 _ [] (by omega) (hAp _) ⟨⟨_,Heap.get?_push_size _ rfl,rfl,rfl⟩,(hl1.push _)⟩ (qZf P w (Heap.get?_push_of_some _ hS)) (qUy.zero _) λs' ss' hm hS' hO=>?_
    obtain⟨h',g',d',tk',os'⟩:=s';cases(show g'=s.gens from hm.gens);cases(show d'=s.drawn from hm.drawn);cases(show os'=s.os from hm.os);show wpAny _ _ _ _ _ _;refine hEk ?_;show wpAny _ _ (ret Value.none) _ _ _;refine hEk ⟨rfl,h',tk',ss',rfl,hS',hO,λb o hb e=>?_⟩;have b1:b≠s.heap.objs.size:=hAu hb;have b2:b≠(s.heap.push (qR0 w)).objs.size:=by
     rw[Heap.size_push];exact hAu (hBv hb)
    exact hm.heap b o (by simp only[hAg,hA9,hCw,hFi,not_or];exact⟨b1,b2⟩) (Heap.get?_push_of_some _ (Heap.get?_push_of_some _ e))
   ·cases r2 with
    |error e=>exact hr2
    |ok fl2 =>
     cases fl2 with
     |ret r =>
      obtain⟨rfl,h',tk,ss,rfl,hS',hO,hk'⟩:=hr2
      repeat (any_goals (first|assumption|wp_step))
      exact h _ _ _ hS' hO hk'
     |_=>exact hr2.elim
  |_=>exact hr.elim
end
namespace FS
theorem entry_set_iter':entryFor table "set.__iter__"=some Builtin.«frozenset.__iter__»:=entryFor_alias (id':="frozenset.__iter__") (by kernel_rfl) rfl (by decide +kernel) (by kernel_rfl)
theorem slot_sin:Slot "set_iterator" "__next__" "set_iterator.__next__":=.of (owner:="set_iterator") (n:="__next__") (by rw[typeLookup_type,builtinLookup_eq_fast];kernel_rfl) (by decide +kernel) (by decide +kernel) (by decide +kernel) (by first|exact .inl (by decide +kernel)|exact .inr (by decide +kernel)) (by rw[isSubtype_type];kernel_rfl)
theorem entry_sin:entryFor table "set_iterator.__next__"=some Builtin.«set_iterator.__next__»:=entryFor_of_tree (by kernel_rfl)
theorem qO6:Manifest.owners.lookup (String.ofList ['r','o','t','a','r','e','t','i','_','t','e','s'].reverse)=some Manifest.sig_set_iterator:=by kernel_rfl
theorem args_sin(a:Value):argsOk "set_iterator.__next__" ⟨[a],[]⟩:=by
 unfold argsOk;rw[signature?_of (id:="set_iterator.__next__") (n:=['_','_','t','x','e','n','_','_']) (o:=['r','o','t','a','r','e','t','i','_','t','e','s']) (by kernel_rfl) qO6];kernel_rfl
theorem slot_sii:Slot "set_iterator" "__iter__" "set_iterator.__iter__":=.of (owner:="set_iterator") (n:="__iter__") (by rw[typeLookup_type,builtinLookup_eq_fast];kernel_rfl) (by decide +kernel) (by decide +kernel) (by decide +kernel) (by first|exact .inl (by decide +kernel)|exact .inr (by decide +kernel)) (by rw[isSubtype_type];kernel_rfl)
theorem entry_sii:entryFor table "set_iterator.__iter__"=some Builtin.«dict_keyiterator.__iter__»:=entryFor_alias (id':="dict_keyiterator.__iter__") (by kernel_rfl) (by first|rfl|decide +kernel|(unfold String.splitOn;simp +decide [String.splitOnAux])) (by decide +kernel) (by kernel_rfl)
theorem args_sii(a:Value):argsOk "set_iterator.__iter__" ⟨[a],[]⟩:=by
 unfold argsOk;rw[signature?_of (id:="set_iterator.__iter__") (n:=['_','_','r','e','t','i','_','_']) (o:=['r','o','t','a','r','e','t','i','_','t','e','s']) (by kernel_rfl) qO6];kernel_rfl
end FS
theorem qGp:∀(l:List α) (i:Nat) (x:α),l[i]?=some x->(x :: l.eraseIdx i).Perm l
 |[],i,x,h=>by simp at h
 |y :: l,0,x,h=>by simp at h;subst h;exact hDe _
 |y :: l,i+1,x,h=>by
  have q:=qGp l i x (by simpa using h);rw[List.eraseIdx_cons_succ];exact(List.Perm.swap y x _).trans (q.cons y)
section
variable{M:Model}{A:Around}{E:Value->Shared->Prop}{s:Shared}
theorem qQ5(hn:n≠0)(h:∀i d,i<n->Q i { s with drawn:=d }):wpAny M A (choose src n) Q E s:=fun Γ p _=>⟨hn,h _ _ (Nat.mod_lt _ (Nat.pos_of_ne_zero hn))⟩
theorem qGv:∀(n:Nat) (xs:List α) (s:Shared) (Q:List α->Shared->Prop),xs.length=n->(∀ys d,ys.Perm xs->Q ys { s with drawn:=d })->wpAny M A (drawOrder n xs) Q E s
 |0,xs,s,Q,hl,h=>by
  have e:xs=[]:=List.length_eq_zero_iff.mp hl;subst e;exact hEk (h [] s.drawn (hDe _))
 |n+1,[],s,Q,hl,h=>by simp at hl
 |n+1,y :: ys,s,Q,hl,h=>by
  show wpAny M A (choose .order (y :: ys).length >>= _) Q E s;refine hEh (qQ5 (by simp) λi d hi=>?_);have e:(y :: ys)[i]?=some (y :: ys)[i]:=hA2 hi;rw[e];dsimp only;have p:=qGp (y :: ys) i _ e;refine hEh (qGv n ((y :: ys).eraseIdx i) _ _ ?_ λzs d2 pz=>hEk (h _ d2 ((pz.cons _).trans p)));have:=p.length_eq;simp only[hCb]at this hl ⊢;omega
end
theorem qSq(next:Nat->Nat):∀(n k:Nat) (left:List α) (out:Array α),left.length=n->(pickOrder.go next n k left out).toList.Perm (out.toList++left)
 |0,k,left,out,hl=>by
  have e:left=[]:=List.length_eq_zero_iff.mp hl;subst e;rw[pickOrder.go,hC8]
 |n+1,k,left,out,hl=>by
  rw[pickOrder.go];have hi:next k % left.length<left.length:=Nat.mod_lt _ (by omega);have e:left[next k % left.length]?=some left[next k % left.length]:=hA2 hi;rw[e];dsimp only;have p:=qGp left _ _ e;have l:=p.length_eq;simp only[hCb]at l;refine(qSq next n (k+1) _ _ (by omega)).trans ?_;rw[Array.toList_push,List.append_assoc];exact List.Perm.append_left _ p
theorem pick_perm(next:Nat->Nat)(xs:Array α):(pickOrder next xs).toList.Perm xs.toList:=by
 have q:=qSq next xs.size 0 xs.toList #[] (by simp)
 simpa [pickOrder] using q
section
variable{P:Program}{w:World}{A:Around}{E:Value->Shared->Prop}{s:Shared}{a:Addr}{es:Array (Int×Value)}{ep:Nat}{t:SetTable}
theorem qMo(ho:s.heap.get? a=some { cls:=.type "set",dict:=none,data:=.set es ep t,slots:=#[] })(hf:t.fits es.size=true)(h:Q (!w.params.followText "set-order" && (!t.plain && decide (es.size > 1))) s):wpAny (model P w) A (setDrawn a) Q E s:=by
 unfold setDrawn;refine hEh (hF2 ho rfl hf ?_);unfold setsByText;exact hEh (hEh (hFa (hEk (hEk h))))
theorem qMm(ho:s.heap.get? a=some { cls:=.type "set",dict:=none,data:=.set es ep t,slots:=#[] })(hf:t.fits es.size=true)(hb:w.params.followText "set-order"=true)
  (h:Q (((pickOrder (w.params.setOrder a ep) es)[i]?).map λe=>(e.2,slot)) s):wpAny (model P w) A (setNext a slot i ep) Q E s:=by
 unfold setNext;refine hEh (hF2 ho rfl hf ?_);unfold setsByText;refine hEh (hEh (hFa (hEk ?_)));show wpAny _ _ (if (w.params.followText "set-order")=true then _ else _) _ _ _;rw[hEn hb];rw[hEm (by simp)];unfold setWalk;refine hEh (hEh (hF2 ho rfl hf ?_));unfold setsByText;refine hEh (hEh (hFa (hEk ?_)));show wpAny _ _ (if (w.params.followText "set-order")=true then _ else _) _ _ _;rw[hEn hb];exact hEh (hFa (hEk (hEk h)))
theorem qMn(ho:s.heap.get? a=some { cls:=.type "set",dict:=none,data:=.set es ep t,slots:=#[] })(hf:t.fits es.size=true)(hb:w.params.followText "set-order"=false)(h1:es.size<=1)(hl:t.led=true)
  (h:Q (match es[SetTable.below t.place slot]?,t.place[SetTable.below t.place slot]? with|some (_,x),some j=>some (x,j+1)|_,_=>none) s):wpAny (model P w) A (setNext a slot i ep) Q E s:=by
 unfold setNext;refine hEh (hF2 ho rfl hf ?_);unfold setsByText;refine hEh (hEh (hFa (hEk ?_)));show wpAny _ _ (if (w.params.followText "set-order")=true then _ else _) _ _ _;rw[hEm (by rw[hb];exact hAz)];show wpAny _ _ (if (!t.plain && decide (es.size > 1))=true then _ else _) _ _ _;rw[hEm (by rw[hCi];rintro⟨_,z⟩;have:=hEl z;omega)];refine hEh ?_;show wpAny _ _ (if (!t.led && !es.isEmpty)=true then _ else _) _ _ _;rw[hEm (by rw[hl];simp)];exact hEk (hEk h)
end
end L2
namespace L2
open PySem PySem.Spec PyProof.Rows
noncomputable abbrev sIt(a:Addr)(f0:Value)(i n ep:Nat):Obj:={ cls:=.type "set_iterator",dict:=none,data:=.fields #[f0,rawInt i,.ref a,rawInt n,rawInt ep],slots:=#[] }
noncomputable abbrev sOb(es:Array (Int×Value))(ep:Nat)(t:SetTable):Obj:={ cls:=.type "set",dict:=none,data:=.set es ep t,slots:=#[] }
section
variable{P:Program}{w:World}{A:Around}{E:Value->Shared->Prop}{s:Shared}{a I:Addr}{es:Array (Int×Value)}{ep:Nat}{t:SetTable}
theorem qOh{T:Obj}{Q:Fin->Shared->Prop}{f0:Value}{i n:Nat}{pre:Sem Unit}(hh:A.handled=none)(hI:s.heap.get? I=some (sIt a f0 i n ep))
  (hp:∀ {Q':Unit->Shared->Prop},(∀h1,Heap.SameBut I s.heap h1->(∃g0,h1.get? I=some (sIt a g0 i n ep))->Q' () { s with heap:=h1 })->wpAny (model P w) A pre Q' E s)
  (hE:∀h' e,Heap.ExtBut I s.heap h'->(∃o,h'.get? e=some o/\o.cls = .type "StopIteration")->E (.ref e) { s with heap:=h' }) :
  wpAny (model P w) A (do pre;setField (.ref I) 2 .none;raiseNew (← newExc (.type "StopIteration") [])) Q E s:=by
 refine hEh (hp λh1 b1 hg=>?_);obtain⟨g0,hI1⟩:=hg;refine hEh (hFb hI1 (by simp) λh2 hI2 b2=>?_);show wpAny _ _ (newExc (.type "StopIteration") [] >>= λe=>raiseNew e) _ _ _;refine hEh ?_;simp only[newExc,newTuple];refine hEh (hEx ?_ (by size_fits));refine hEh (m:=firstArgMember _ _) (hF6 (a:=Value.none) (by first|rfl|(simp only[firstArgMember];rfl)) ?_);refine hEx ?_ (by size_fits);simp only[raiseNew];refine hEh (wpAny_handled ?_);rw[hh];exact hEh (hEk (wpAny_throw (hE _ _ (((b1.trans b2).extBut.push _).push _) ⟨_,Heap.get?_push_size _ rfl,rfl⟩)))
end
section
variable{P:Program}{w:World}{a I:Addr}{es:Array (Int×Value)}{ep:Nat}{t:SetTable}
theorem qKv(hne:a≠I)(hf:t.fits es.size=true)(order:List Value)(sl:Nat->Nat)
  (nx:∀(A:Around) (E:Value->Shared->Prop) (s:Shared) (Q:Option (Value×Nat)->Shared->Prop) (i:Nat),i<=order.length->s.heap.get? a=some (sOb es ep t)->Q ((order[i]?).map λx=>(x,sl (i+1))) s->wpAny (model P w) A (setNext a (sl i) i ep) Q E s) :
  ∀A:Around,A.handled=none->Walks P w A I [I,a] [I] order.length (λi v=>order[i]?=some v) (λi h=>h.get? I=some (sIt a (rawInt (sl i)) i es.size ep)/\h.get? a=some (sOb es ep t)):=λA hh=>{
 sub:=λb hb=>by simp at hb ⊢;exact .inl hb
 frame:=λi h h' st k=>⟨k I (by simp) _ st.1,k a (by simp) _ st.2⟩
 item:=λi s Q E hi st hQ=>by
  obtain⟨hI,ho⟩:=st;have hT:s.TypeIs (.ref I) "set_iterator":=⟨_,hI,rfl⟩;unfold pyNext;refine hEh (hFj (wpAny_callSpecial?_slot (name:=Str.ofString "__next__") hT FS.slot_sin (hEs FS.slot_sin hT FS.entry_sin ?_ (FS.args_sin _))));unfold Builtin.«set_iterator.__next__»;refine hEh (hEk (hEh (hFx hI rfl ?_)));show wpAny _ _ (setEntries a >>= _) _ _ _;refine hEh (hF7 ho rfl hf ?_);rw[hEm (by simp)];show wpAny _ _ (setNext a (sl i) i ep >>= _) _ _ _;refine hEh (nx _ _ s _ i (hB5 hi) ho ?_);rw[hA2 hi];show wpAny _ _ (setField (.ref I) 0 (rawInt (sl (i+1))) >>= _) _ _ _;refine hEh (hFb hI (by simp) λh1 hI1 b1=>hEh (hFb hI1 (by simp) λh2 hI2 b2=>?_));refine hEk ⟨_,rfl,hEk (hQ _ h2 s.toks (hA2 hi) ⟨hI2,?_⟩ λb o hb e=>?_)⟩
  ·exact b2.extBut _ _ hne (b1.extBut _ _ hne ho)
  ·have nb:b≠I:=by simpa using hb
   exact b2.extBut _ _ nb (b1.extBut _ _ nb e)
 done:=λs Q E st hQ=>by
  obtain⟨hI,ho⟩:=st;have hT:s.TypeIs (.ref I) "set_iterator":=⟨_,hI,rfl⟩;unfold pyNext;refine hEh (hFj (wpAny_callSpecial?_slot (name:=Str.ofString "__next__") hT FS.slot_sin (hEs FS.slot_sin hT FS.entry_sin ?_ (FS.args_sin _))));unfold Builtin.«set_iterator.__next__»;refine hEh (hEk (hEh (hFx hI rfl ?_)));show wpAny _ _ (setEntries a >>= _) _ _ _;refine hEh (hF7 ho rfl hf ?_);rw[hEm (by simp)];show wpAny _ _ (setNext a (sl order.length) order.length ep >>= _) _ _ _;refine hEh (nx _ _ s _ order.length (hAa _) ho ?_);rw[hB7 (hAa _)];refine qOh (pre:=pure ()) (T:=sOb es ep t) (by exact hh) hI (λq=>hEk (q _ (Heap.SameBut.refl ..) ⟨_,hI⟩)) λh' e k he=>?_
  obtain⟨oe,h1,h2⟩:=he;refine hEh (wpAny_isInstance (T:="StopIteration") (b:=true) ⟨oe,h1,h2⟩ isSubtype_stop (hEk (hQ _ s.toks λb o hb e=>k _ _ (by simpa using hb) e)))
 self:=λi s Q E st hQ=>by
  have hT:s.TypeIs (.ref I) "set_iterator":=⟨_,st.1,rfl⟩;refine wpAny_pyIter_slot hT FS.slot_sii (hEs FS.slot_sii hT FS.entry_sii ?_ (FS.args_sii _));exact hEk ⟨_,rfl,"set_iterator",_,hT,FS.slot_sin.lookup,hQ⟩ }
end
noncomputable abbrev tOb(xs:Array Value):Obj:={ cls:=.type "tuple",data:=.seq xs }
section
variable{P:Program}{w:World}{a I T:Addr}{es:Array (Int×Value)}{ep:Nat}{t:SetTable}
theorem qQ6(hne:a≠I)(hT0:T≠I)(hf:t.fits es.size=true)(ps:List Nat)(order:List Value)(hl:order.length=ps.length)(hp:∀(i p:Nat),ps[i]?=some p->∃k x,es[p]?=some (k,x)/\order[i]?=some x) :
  ∀A:Around,A.handled=none->Walks P w A I [I,a,T] [I] order.length (λi v=>order[i]?=some v) (λi h=>h.get? I=some (sIt a (.ref T) i es.size ep)/\h.get? a=some (sOb es ep t)/\h.get? T=some (tOb (ps.map λ(p:Nat)=>rawInt p).toArray)):=λA hh=>{
 sub:=λb hb=>by simp at hb ⊢;exact .inl hb
 frame:=λi h h' st k=>⟨k I (by simp) _ st.1,k a (by simp) _ st.2.1,k T (by simp) _ st.2.2⟩
 item:=λi s Q E hi st hQ=>by
  obtain⟨hI,ho,hTt⟩:=st;have hT:s.TypeIs (.ref I) "set_iterator":=⟨_,hI,rfl⟩;unfold pyNext;refine hEh (hFj (wpAny_callSpecial?_slot (name:=Str.ofString "__next__") hT FS.slot_sin (hEs FS.slot_sin hT FS.entry_sin ?_ (FS.args_sin _))));unfold Builtin.«set_iterator.__next__»;refine hEh (hEk (hEh (hFx hI rfl ?_)));show wpAny _ _ (setEntries a >>= _) _ _ _;refine hEh (hF7 ho rfl hf ?_);rw[hEm (by simp)];show wpAny _ _ (seqItems? (.ref T) >>= _) _ _ _;refine hEh (wpAny_seqItems hTt rfl ?_);have hip:i<ps.length:=by rw[<-hl];exact hi
  obtain⟨k,x,h1,h2⟩:=hp i _ (hA2 hip);have e1:((ps.map λ(p:Nat)=>rawInt p).toArray)[i]?=some (rawInt ((ps[i]:Nat):Int)):=by simp[hip]
  show wpAny _ _ (match ((ps.map λ(p:Nat)=>rawInt p).toArray)[((i:Int)).toNat]? with|some (.int place _)=>_|some _=>_|none=>_) _ _ _;rw[hB8,e1];show wpAny _ _ (setNextDrawn a ps[i] ep >>= _) _ _ _;unfold setNextDrawn;refine hEh (hEh (hF2 ho rfl hf ?_));dsimp only;rw[hEm (by simp),h1];refine hEk (hEh (hFb hI (by simp) λh3 hI3 b3=>?_));refine hEk ⟨_,rfl,hEk (hQ _ h3 s.toks h2 ⟨hI3,b3.extBut _ _ hne ho,b3.extBut _ _ hT0 hTt⟩ λb o hb e=>b3.extBut _ _ (by simpa using hb) e)⟩
 done:=λs Q E st hQ=>by
  obtain⟨hI,ho,hTt⟩:=st;have hT:s.TypeIs (.ref I) "set_iterator":=⟨_,hI,rfl⟩;unfold pyNext;refine hEh (hFj (wpAny_callSpecial?_slot (name:=Str.ofString "__next__") hT FS.slot_sin (hEs FS.slot_sin hT FS.entry_sin ?_ (FS.args_sin _))));unfold Builtin.«set_iterator.__next__»;refine hEh (hEk (hEh (hFx hI rfl ?_)));show wpAny _ _ (setEntries a >>= _) _ _ _;refine hEh (hF7 ho rfl hf ?_);rw[hEm (by simp)];show wpAny _ _ (seqItems? (.ref T) >>= _) _ _ _;refine hEh (wpAny_seqItems hTt rfl ?_);have e1:((ps.map λ(p:Nat)=>rawInt p).toArray)[order.length]?=none:=by simp[hl]
  show wpAny _ _ (match ((ps.map λ(p:Nat)=>rawInt p).toArray)[((order.length:Int)).toNat]? with|some (.int place _)=>_|some _=>_|none=>_) _ _ _;rw[hB8,e1];refine qOh (pre:=setField (.ref I) 0 (rawInt 0)) (T:=sOb es ep t) (by exact hh) hI (λq=>hFb hI (by simp) λh1 hI1 b1=>q _ b1 ⟨_,hI1⟩) λh' e k he=>?_
  obtain⟨oe,h1,h2⟩:=he;refine hEh (wpAny_isInstance (T:="StopIteration") (b:=true) ⟨oe,h1,h2⟩ isSubtype_stop (hEk (hQ _ s.toks λb o hb e=>k _ _ (by simpa using hb) e)))
 self:=λi s Q E st hQ=>by
  have hT:s.TypeIs (.ref I) "set_iterator":=⟨_,st.1,rfl⟩;refine wpAny_pyIter_slot hT FS.slot_sii (hEs FS.slot_sii hT FS.entry_sii ?_ (FS.args_sii _));exact hEk ⟨_,rfl,"set_iterator",_,hT,FS.slot_sin.lookup,hQ⟩ }
end
theorem qW6(h:j<=p):SetTable.below #[p] j=0:=by
 unfold SetTable.below;show SetTable.below.go #[p] j 1 0 1=0;unfold SetTable.below.go;have e:¬(#[p]:Array Nat).getD ((0+1) / 2) j<j:=by show ¬p<j;omega
 rw[hEn (by decide)];dsimp only;rw[hEm e];rfl
theorem qW7(h:p<j):SetTable.below #[p] j=1:=by
 unfold SetTable.below;show SetTable.below.go #[p] j 1 0 1=1;unfold SetTable.below.go;have e:(#[p]:Array Nat).getD ((0+1) / 2) j<j:=by show p<j;omega
 rw[hEn (by decide)];dsimp only;rw[hEn e];rfl
theorem qUo(j:Nat):SetTable.below #[] j=0:=rfl
section
variable{P:Program}{w:World}{A:Around}{E:Value->Shared->Prop}{s:Shared}{a:Addr}{ss:List Str}
theorem qTg(hS:qCb P w s.heap a ss)
  (h:∀(I:Addr) (fp:List Addr) (vs:List Value) (ss1:List Str) (St:Nat->Heap->Prop) (h1:Heap) (d:Drawn),StrsAre vs ss1->ss1.Perm ss->(∀b o,s.heap.get? b=some o->h1.get? b=some o)->(∀A:Around,A.handled=none->Walks P w A I fp [I] vs.length (λi v=>vs[i]?=some v) St) ->
   St 0 h1->I∈fp->(∀b∈fp,b<h1.objs.size/\(b=a\/s.heap.objs.size<=b))->s.heap.objs.size<=I->s.heap.objs.size<=h1.objs.size->Q (.ref I) { s with heap:=h1,drawn:=d }):wpAny (model P w) A (pyIter (.ref a)) Q E s:=by
 obtain⟨es,ep,t,ho,e1,e2,e3,e4,e5,e6⟩:=hS;have hT:s.TypeIs (.ref a) "set":=⟨_,ho,rfl⟩;have ha:a<s.heap.objs.size:=Heap.lt_size ho;have hp4:t.place.size=es.size:=by
  unfold SetTable.fits at e4;rw[hCi]at e4;exact eq_of_beq e4.1
 refine wpAny_pyIter_slot hT PySem.F.slot_set_iter (hEs PySem.F.slot_set_iter hT FS.entry_set_iter' ?_ (PySem.F.args_set_iter_1 _));unfold Builtin.«frozenset.__iter__» Builtin.Frozenset.slot0;refine hEh (hEh (hEk (hEk ?_)));unfold Builtin.Frozenset.sizeOf;refine hEh (hEh (hF7 ho rfl e4 (hEk ?_)));refine hEh (qMo ho e4 ?_);dsimp only;cases hb:w.params.followText "set-order" with
 |true =>
  rw[hEm (by simp)];refine hEh (hEk (hEh (wpAny_setEpoch_of ho rfl e4 ?_)));show wpAny _ _ (newFields "set_iterator" _ >>= _) _ _ _;refine hEh (hEx (hEk ⟨_,rfl,"set_iterator",_,⟨_,Heap.get?_push_size _ rfl,rfl⟩,FS.slot_sin.lookup,?_⟩) (by show 5<=_;decide));have p:=pick_perm (w.params.setOrder a ep) es;obtain⟨ss1,q1,q2⟩:=qGc e2 p;refine h s.heap.objs.size [s.heap.objs.size,a] _ ss1 _ _ s.drawn q1 q2 (λb o e=>Heap.get?_push_of_some _ e) (qKv (ep:=ep) (es:=es) (t:=t) (hAu ha) e4 _ (λ_=>0) ?_) ⟨Heap.get?_push_size _ rfl,Heap.get?_push_of_some _ ho⟩ (by simp) ?_ (hAa _) (by rw[Heap.size_push];exact hBk _)
  ·intro A' E' s' Q' i hi ho' hq;refine qMm ho' e4 hb ?_;rw[hAi,hBh,Option.map_map]at hq;exact hq
  ·intro b hbm;rw[Heap.size_push];simp at hbm;rcases hbm with rfl|rfl
   ·exact⟨hCa _,.inr (hAa _)⟩
   ·exact⟨hBv ha,.inl rfl⟩
 |false =>
  have led:t.led=true:=by rw[e5,hb];rfl
  by_cases hz:es.size > 1
  ·have pl:t.plain=false:=e6 (by omega);rw[hEn (by rw[pl,hEi hz];rfl)];refine hEh (qGv es.size (List.range es.size) s _ (by simp) λps d pp=>?_);refine hEh (hFe (s:={ s with drawn:=d }) ?_ (by rw[hA1,pp.length_eq,hB0];exact hFm e3));have ho1:(s.heap.push (tOb (ps.map λ(p:Nat)=>rawInt p).toArray)).get? a=some (sOb es ep t):=Heap.get?_push_of_some _ ho;refine hEh (wpAny_setEpoch_of (s:={ s with heap:=s.heap.push (tOb (ps.map λ(p:Nat)=>rawInt p).toArray),drawn:=d }) ho1 rfl e4 ?_);show wpAny _ _ (newFields "set_iterator" _ >>= _) _ _ _;refine hEh (hEx (hEk ⟨_,rfl,"set_iterator",_,⟨_,Heap.get?_push_size _ rfl,rfl⟩,FS.slot_sin.lookup,?_⟩) (by show 5<=_;decide));have hlt:∀p∈ps,p<es.size:=λp hm=>hAy.mp (pp.mem_iff.mp hm)
   have ep1:(ps.filterMap λp=>es[p]?).Perm es.toList:=by
    have q:=pp.filterMap λp=>es[p]?
    rw[filterMap_getElem?_range]at q;exact q
   have hfm:∀l:List Nat,(∀p∈l,p<es.size)->(l.filterMap λp=>es[p]?).length=l.length/\∀(i p:Nat),l[i]?=some p->∃k x,es[p]?=some (k,x)/\((l.filterMap λp=>es[p]?).map (·.2))[i]?=some x:=by
    intro l
    induction l with
    |nil=>intro _;exact⟨rfl,λi p z=>by simp at z⟩
    |cons c l ih =>
     intro hm;obtain⟨i1,i2⟩:=ih λp hp=>hm p (hA4 _ hp)
     have hcl:c<es.size:=hm c hA6;have hc:es[c]?=some es[c]:=hD2 hcl;rw[hBr,hc];refine⟨by simp[i1],λi p z=>?_⟩;cases i with
     |zero =>
      have e:c=p:=by simpa using z
      subst e;exact⟨_,_,hc,by simp⟩
     |succ i =>
      obtain⟨k,x,a1,a2⟩:=i2 i p (by simpa using z);exact⟨k,x,a1,by simpa using a2⟩
   obtain⟨f1,f2⟩:=hfm ps hlt;obtain⟨ss1,q1,q2⟩:=qGc e2 ep1;have sz1:(s.heap.push (tOb (ps.map λ(p:Nat)=>rawInt p).toArray)).objs.size=s.heap.objs.size+1:=Heap.size_push ..;refine h (s.heap.push (tOb (ps.map λ(p:Nat)=>rawInt p).toArray)).objs.size [(s.heap.push (tOb (ps.map λ(p:Nat)=>rawInt p).toArray)).objs.size,a,s.heap.objs.size] _ ss1 _ _ d q1 q2 (λb o e=>Heap.get?_push_of_some _ (Heap.get?_push_of_some _ e))
    (qQ6 (ep:=ep) (es:=es) (t:=t) (T:=s.heap.objs.size) ?_ ?_ e4 ps _ (by rw[hA1,f1]) f2) ⟨Heap.get?_push_size _ rfl,Heap.get?_push_of_some _ ho1,Heap.get?_push_of_some _ (Heap.get?_push_size _ rfl)⟩ (by simp) ?_ ?_ ?_
   ·rw[sz1];exact hAu (hBv ha)
   ·rw[sz1];exact hAu (hCa _)
   ·intro b hbm;rw[Heap.size_push,sz1];rw[sz1]at hbm;simp at hbm;rcases hbm with rfl|rfl|rfl
    ·exact⟨hCa _,.inr (hBk _)⟩
    ·exact⟨hBv (hBv ha),.inl rfl⟩
    ·exact⟨hBv (hCa _),.inr (hAa _)⟩
   ·rw[sz1];exact hBk _
   ·rw[Heap.size_push,sz1];exact hEa (hBk _)
  ·rw[hEm (by rw[hEj hz];simp)];refine hEh (hEk (hEh (wpAny_setEpoch_of ho rfl e4 ?_)));show wpAny _ _ (newFields "set_iterator" _ >>= _) _ _ _;refine hEh (hEx (hEk ⟨_,rfl,"set_iterator",_,⟨_,Heap.get?_push_size _ rfl,rfl⟩,FS.slot_sin.lookup,?_⟩) (by show 5<=_;decide));refine h s.heap.objs.size [s.heap.objs.size,a] _ ss _ _ s.drawn e2 (hDe _) (λb o e=>Heap.get?_push_of_some _ e) (qKv (ep:=ep) (es:=es) (t:=t) (hAu ha) e4 _ (λi=>if i=0 then 0 else t.place.getD 0 0+1) ?_) ⟨Heap.get?_push_size _ rfl,Heap.get?_push_of_some _ ho⟩ (by simp) ?_ (hAa _) (by rw[Heap.size_push];exact hBk _)
   ·intro A' E' s' Q' i hi ho' hq;refine qMn ho' e4 hb (by omega) led ?_;rw[hA1,hBy]at hi;rcases Nat.lt_or_ge es.size 1 with z0|z1
    ·have e0:es=#[]:=Array.eq_empty_of_size_eq_zero (by omega);have p0:t.place=#[]:=Array.eq_empty_of_size_eq_zero (by omega);subst e0;rw[p0]at hq ⊢;rw[qUo]
     simpa using hq
    ·have z:es.size=1:=by omega
     obtain⟨x,e0⟩:∃x,es=#[x]:=by
      have:=Array.size_eq_one_iff.mp z;exact this
     obtain⟨p,p0⟩:∃p,t.place=#[p]:=Array.size_eq_one_iff.mp (by omega);subst e0;rw[p0]at hq ⊢;obtain⟨k,x⟩:=x;by_cases i0:i=0
     ·subst i0;rw[hEn rfl,qW6 (hAp _)]
      simpa using hq
     ·have i1:i=1:=by simp at hi;omega
      subst i1;rw[hEm (by decide)];show Q' (match (#[(k,x)]:Array (Int×Value))[SetTable.below #[p] (p+1)]?,(#[p]:Array Nat)[SetTable.below #[p] (p+1)]? with|some (_,x),some j=>some (x,j+1)|_,_=>none) s';rw[qW7 (hCa _)]
      simpa using hq
   ·intro b hbm;rw[Heap.size_push];simp at hbm;rcases hbm with rfl|rfl
    ·exact⟨hCa _,.inr (hAa _)⟩
    ·exact⟨hBv ha,.inl rfl⟩
end
section
variable{X:Cx}{aB:List (Addr×Obj)}{σ:St}{H:Hp}{s:Shared}{h':Heap}
theorem Inv.turnedT{t':Nat}{d':Drawn}{ch:List Addr}{a:Addr}{o:HO}(I:Inv X aB σ H s)(k:∀b u,b∉ch->s.heap.get? b=some u->h'.get? b=some u)(f:∀b∈ch,qQ3 X aB H b)(hp:s.heap.objs.size<=a)(new:qC1 X.prog X.w (upd H a o) h' a o) :
  Inv X aB σ (upd H a o) { s with heap:=h',toks:=t',drawn:=d' }:=by
 have nit:∀b u,H b=some u->b∉ch:=λb u e z=>by rw[(f b z).1]at e;cases e
 have hn:H a=none:=I.hok.fresh hp;refine I.step (g':=s.gens) (d':=d') (ch:=ch) (λb hb=>?_) (λb u _ _ hc e _=>k b u hc e) (λb u _ _ hc e _=>⟨u.slots,k b u hc e⟩) (λb u _ e n=>?_) (λb u hc e=>⟨u,k b u hc e⟩) (λb xs q=>by rw[qAk (qAo q hn)];exact q) (λb u v q=>by rw[qAk (qAo q hn)];exact q)
  (λb ps q=>⟨#[],by rw[qAk (qAo q hn),q];simp⟩) (λm hm=>?_) (λb u e=>?_) I.bare
 ·obtain⟨_,f1,_,f3,f4,f5⟩:=f b hb;exact⟨f3,f1,f4,f5⟩
 ·rw[qAk (hAu (hAn (Heap.lt_size e) hp))];exact n
 ·obtain⟨ob,es,ep,ho,r⟩:=hm;exact⟨ob,es,ep,k _ ob (λz=>(f _ z).2.1 rfl) ho,r⟩
 ·by_cases hb:b=a
  ·subst hb;rw[upd_same]at e;cases e;exact new
  ·rw[qAk hb]at e;refine(I.hok b u e).stay (λc v hc q=>k c v ?_ q) (λc q=>by rw[qAk (qAo q hn)];exact q) λc xs q=>by rw[qAk (qAo q hn)];exact q
   rcases hc with z|z
   ·rw[z];exact nit b u e
   ·exact nit c _ z
end
section
variable{P:Program}{w:World}{A:Around}{E:Value->Shared->Prop}{s:Shared}{a:Addr}{ss:List Str}
theorem qMa(hh:A.handled=none)(hS:qCb P w s.heap a ss)
  (h:∀(vs:List Value) (ss1:List Str) (h1:Heap) (tk:Nat) (d:Drawn),StrsAre vs ss1->ss1.Perm ss->(∀b o,s.heap.get? b=some o->h1.get? b=some o)->s.heap.objs.size<=h1.objs.size->Q vs { s with heap:=h1,toks:=tk,drawn:=d }):wpAny (model P w) A (collect (.ref a)) Q E s:=by
 unfold collect;refine hEh (wpAny_runValue (hEv PySem.F.entry_proto_collect ?_));rw[Around.under_plainId PySem.F.plain_proto_collect _];show wpAny _ A.in1 (newList [] >>= λl=>again (.builtin "list.__iadd__" ⟨[l,.ref a],[]⟩)) _ _ _;refine hEh (hEx ?_);refine hEk ⟨hF0 PySem.F.plain_list_iadd _,hEv PySem.F.entry_list_iadd ?_⟩;rw[Around.under_plainId PySem.F.plain_list_iadd _];have hS1:qCb P w (s.heap.push (seqObj "list" #[] 0)) a ss:=hS.at λo e=>Heap.get?_push_of_some _ e
 have hL1:(s.heap.push (seqObj "list" #[] 0)).get? s.heap.objs.size=some (seqObj "list" #[] 0):=Heap.get?_push_size _ rfl;have hT:∀s':Shared,qCb P w s'.heap a ss->s'.TypeIs (.ref a) "set":=λs' z=>by
  obtain⟨es,ep,t,ho,_⟩:=z;exact⟨_,ho,rfl⟩
 have ha:a<s.heap.objs.size:=by
  obtain⟨es,ep,t,ho,_⟩:=hS;exact Heap.lt_size ho
 have hz:ss.length<scanBound:=by
  obtain⟨es,ep,t,_,_,e2,e3,_⟩:=hS;rw[<-e2.strs,hA1,hA1,hBy];exact e3
 have hne:Builtin.List.listSameRef (.ref s.heap.objs.size) (.ref a)=false:=by
  show(s.heap.objs.size == a)=false;exact beq_eq_false_iff_ne.mpr (hCm ha)
 show wpAny _ A.in1 (Builtin.List.listExtendWith (.ref s.heap.objs.size) (.ref a) (.ref s.heap.objs.size)) _ _ { s with heap:=s.heap.push (seqObj "list" #[] 0) };unfold Builtin.List.listExtendWith;refine hEh (wpAny_typeOf (hT _ hS1) ?_);rw[hEm (by rw[hne];decide)];refine hEh (qTg hS1 λI fp vs ss1 St h1 d q1 q2 q3 W st hI hfp hge hsz=>?_);have hS2:qCb P w h1 a ss:=hS1.at λo e=>q3 _ _ e
 have hL2:h1.get? s.heap.objs.size=some (seqObj "list" #[] 0):=q3 _ _ hL1;refine hEh (hEt ?_);unfold Builtin.List.listLengthHint;refine hEh (wpAny_specialOf (hT { s with heap:=h1,drawn:=d } hS2) PySem.F.slot_set_len.lookup ?_);dsimp only;rw[show splitId "set.__len__"=some ("set","__len__") from by decide +kernel];dsimp only;refine hEh (wpAny_isInstance (b:=true) (hT { s with heap:=h1,drawn:=d } hS2) sub_set_self ?_);rw[hEm (by decide),hEn (by decide +kernel)];refine hEh (wpAny_typeOf (hT { s with heap:=h1,drawn:=d } hS2) (hEk ?_));rw[hEn (by decide +kernel)];refine hEh (hFz ?_);unfold Builtin.List.listTouch;have hL3:=get?_update_seq hL2 (·.push .none);have hL4:=get?_update_seq hL3 (·.pop);refine hEh (hEh (hEr (s:={ s with heap:=h1,drawn:=d }) hL2 rfl (hEr (s:={ s with heap:=h1.update s.heap.objs.size (Obj.mapSeq (·.push .none)),drawn:=d }) hL3 rfl ?_)));have nS:s.heap.objs.size∉fp:=λz=>by
  rcases(hfp _ z).2 with e|e
  ·exact absurd e (hCm ha)
  ·rw[hFn]at e;exact absurd e (Nat.not_succ_le_self _)
 have upd2:∀b o,b≠s.heap.objs.size->h1.get? b=some o->((h1.update s.heap.objs.size (Obj.mapSeq (·.push .none))).update s.heap.objs.size (Obj.mapSeq (·.pop))).get? b=some o:=λb o hb e=>by
  rw[Heap.get?_update_ne _ _ _ _ hb,Heap.get?_update_ne _ _ _ _ hb];exact e
 have hv:vs.length<=sizeLine:=by
  have e1:=q2.length_eq;have e2:vs.length=ss1.length:=by rw[<-q1.strs,hA1]
  rw[e2,e1];exact hFm hz
 have st3:=(W A.in1.in1.in1 (by exact hh)).frame 0 _ ((h1.update s.heap.objs.size (Obj.mapSeq (·.push .none))).update s.heap.objs.size (Obj.mapSeq (·.pop))) st λb hb o e=>upd2 b o (λz=>nS (z▸hb)) e
 refine hEk ⟨hF0 PySem.F.plain_extend_loop _,codeAny_extend_loopS ((W _ (by exact hh)).toS) hv _ nS _ vs.length 0 _ _ _ rfl (hAp _) st3 hL4 (ItemsOf.nil _) λs' acc' c' hm hS' hacc=>?_⟩;show wpAny _ A (load s.heap.objs.size >>= _) _ _ s';refine hEh (wpAny_load hS' ?_);have eacc:acc'.toList=vs:=by
  refine hCs λi=>?_
  by_cases hi:i<vs.length
  ·have hi':i<acc'.size:=by rw[hacc.1];exact hi
   rw[hBh,hD2 hi'];exact(hacc.2 i _ (hD2 hi')).symm
  ·rw[hBh,Array.getElem?_eq_none (by rw[hacc.1];omega),hB7 (by omega)]
 show wpAny _ A (pure acc'.toList) _ _ s';rw[eacc];obtain⟨h5,g5,d5,tk5,os5⟩:=s';cases(show g5=s.gens from hm.gens);cases(show d5=d from hm.drawn);cases(show os5=s.os from hm.os);have keep:∀b o,h1.get? b=some o->b≠s.heap.objs.size->b≠I->h5.get? b=some o:=λb o e n1 n2=>hm.heap b o (by simp only[hAg,hCw,hFi,not_or];exact⟨n1,n2⟩) (upd2 b o n1 e)
 refine hEk (h vs ss1 h5 tk5 d q1 q2 (λb o e=>?_) ?_)
 ·have lt:=Heap.lt_size e;refine keep b o (q3 b o (Heap.get?_push_of_some _ e)) (hAu lt) (hAu (hAn lt ?_));rw[hFn]at hge;exact Nat.le_of_succ_le hge
 ·exact hB5 (Heap.lt_size hS')
end
noncomputable def zE4(P:Program)(w:World)(a:Addr)(ss:List Str):HO:=.ext λh=>qCb P w h a ss
section
variable{X:Cx}
theorem qUd(hc:X.calm=true):qB2 X (.type "set") (λxs H Q=>∃(p:Addr) (ss0:List Str),xs=[.ref p]/\SqL X.K H p (ss0.map V.str)/\ss0.length<1000/\∀(r:Addr) (ss:List Str),H r=none->ss.Nodup->ss.length<=ss0.length->(∀x,x∈ss↔x∈ss0)->Q (.ref r) (upd H r (zE4 X.prog X.w r ss))):=by
 intro aB s σ H xs us Q I r h;obtain⟨p,ss0,rfl,hq,hl,q⟩:=h;obtain⟨u,rfl,rx⟩:=qCy r;cases rx;obtain⟨its,rv,pl,hz⟩:=I.list hq;have hlen:=rv.length;rw[hA1]at hlen;refine qUc (I.ok.hd hc) pl.isList (by simpa using qEh rv) (by have:scanBound=4096:=rfl;simp;omega) λh' tk ss hS hO hk=>?_
 obtain⟨o1,o2,o3⟩:=hO;rw[hAf,<-hlen]at o2 o3;refine⟨.ref s.heap.objs.size,_,I.laid (t':=tk) (a:=s.heap.objs.size) (o:=zE4 X.prog X.w s.heap.objs.size ss) (λb o e=>hk b o (Heap.lt_size e) e) (hAa _) ⟨hS,?_,λh1 h2 z k=>z.at k⟩,rfl,q _ ss (I.hok.fresh (hAa _)) o1 o2 λx=>?_⟩
 ·obtain⟨es,ep,t,ho,_⟩:=hS;exact⟨_,ho⟩
 ·rw[o3 x,List.mem_iff_getElem?];constructor
  ·rintro⟨j,hj,rfl⟩;exact⟨j,by show ss0[j]?=some (ss0.getD j default);rw[hA7,hA2 hj];rfl⟩
  ·rintro⟨j,hj⟩;exact⟨j,(hAm.mp hj).1,by show ss0.getD j default=x;rw[hA7,hj];rfl⟩
theorem qIy(hc:X.calm=true):qB2 X (.builtin "sorted") (λxs H Q=>∃(p:Addr) (ss:List Str),xs=[.ref p]/\H p=some (zE4 X.prog X.w p ss)/\ss.length<64/\∀(r:Addr) (ss':List Str),H r=none->ss'.Perm ss->sortedS ss'=true->Q (.ref r) (upd H r (.lst (ss'.map V.str)))):=by
 intro aB s σ H xs us Q I r h;obtain⟨p,ss,rfl,hp,h64,q⟩:=h;obtain⟨u,rfl,rx⟩:=qCy r;cases rx;have hS:qCb X.prog X.w s.heap p ss:=(I.hok p _ hp).1;refine Calls.call_function_entry hFu hFo hFp (args_sorted1 _) ?_;unfold Builtin.«sorted»;refine hEh (m:=checkCount "sorted" 1 1 _) (hEk (hEh (qMa (I.ok.hd hc) hS λvs ss1 h1 tk d a1 a2 a3 a4=>?_)));have hvl:vs.length=ss1.length:=by rw[<-a1.strs,hA1]
 have hl64:vs.length<64:=by rw[hvl,a2.length_eq];exact h64
 refine hEh (hEy ?_ (by have:sizeLine > 64:=(by decide);omega));have hoL:(h1.push (seqObj "list" vs.toArray 0)).get? h1.objs.size=some (seqObj "list" vs.toArray 0):=Heap.get?_push_size _ rfl;refine hEh (hEt (hEs slot_list_sort ⟨_,hoL,rfl⟩ entry_list_sort (list_sort_treeK strKind_oneLt hoL a1.keysOf (λv1 v2 rest e=>keyKind_strs (by rw[<-e];exact a1)) hl64 λst' b1 b2=>⟨_,rfl,?_⟩) (hFy _)));obtain⟨ss',c1,c2,c3⟩:=sorted_out_str a1 b1 b2;refine hEk ⟨_,rfl,?_⟩;have nz:H h1.objs.size=none:=I.hok.fresh a4;obtain⟨e,he⟩:=sortedHeap_at (out:=(arrOf st').map (·.2)) hoL;refine⟨.ref h1.objs.size,_,I.turnedT (t':=tk) (d':=d) (ch:=[]) (a:=h1.objs.size) (o:=.lst (ss'.map V.str)) (λb o _ eb=>?_) (λb z=>nomatch z) a4 ?_,rfl,q _ ss' nz (c2.trans a2) c3⟩
 ·have e1:=a3 b o eb;have lt:=Heap.lt_size e1;rw[sortedHeap_old (hAu lt) (by rw[hFn];exact hBv lt)];exact Heap.get?_push_of_some _ e1
 ·refine⟨?_,((arrOf st').map (·.2)).toList,e,qJg c1,he⟩;rw[hA1,c2.length_eq,a2.length_eq];exact hB5 (qAf (by omega))
end
section
variable{X:Cx}{aB:List (Addr×Obj)}{σ:St}{H:Hp}{s:Shared}{h':Heap}
theorem Inv.turnedL{t':Nat}{ch:List Addr}(I:Inv X aB σ H s)(k:∀b u,b∉ch->s.heap.get? b=some u->h'.get? b=some u)(f:∀b∈ch,qQ3 X aB H b):Inv X aB σ H { s with heap:=h',toks:=t' }:=by
 have nit:∀b u,H b=some u->b∉ch:=λb u e z=>by rw[(f b z).1]at e;cases e
 refine I.step (g':=s.gens) (d':=s.drawn) (ch:=ch) (λb hb=>?_) (λb u _ _ hc e _=>k b u hc e) (λb u _ _ hc e _=>⟨u.slots,k b u hc e⟩) (λb u _ e n=>n) (λb u hc e=>⟨u,k b u hc e⟩) (λb xs q=>q) (λb u v q=>q) (λb ps q=>⟨#[],by rw[q];simp⟩) (λm hm=>?_) (λb u e=>?_) I.bare
 ·obtain⟨_,f1,_,f3,f4,f5⟩:=f b hb;exact⟨f3,f1,f4,f5⟩
 ·obtain⟨ob,es,ep,ho,r⟩:=hm;exact⟨ob,es,ep,k _ ob (λz=>(f _ z).2.1 rfl) ho,r⟩
 ·refine(I.hok b u e).stay (λc v hc q=>k c v ?_ q) (λc q=>q) λc xs q=>q
  rcases hc with z|z
  ·rw[z];exact nit b u e
  ·exact nit c _ z
end
noncomputable def Itp(n:Nat)(Ls:Hp->Prop)(xv:Nat->List V):It:=⟨λi H=>Ls H/\i<n,λi H x H'=>∃T,H T=none/\H'=upd H T (.tup (xv i))/\x = .ref T,λi H=>Ls H/\i=n⟩
theorem qI1{P:Program}{w:World}{K:PySem.W.Frag}{elts:List Expr}{ct:Nat}{pos:Pos}(it:Addr)(fp fpW wr:List Addr)(n:Nat)(Ls:Hp->Prop)(xv:Nat->List V)(tn:Nat->Heap->Prop)
  (hit:it∈fp) (hwr:∀b∈wr,b∈fp) (hobj:∀i h,tn i h->∀b∈fp,∃o,h.get? b=some o/\∀v,o.data≠.cell v) (hkeep:∀i h h',tn i h->(∀b∈fp,∀o,h.get? b=some o->h'.get? b=some o)->tn i h')
  (hx:∀i,(xv i).length<=sizeLine) {c:Cx->Prop}
  (W:∀(X:Cx),X.prog=P->X.w=w->X.K=K->c X->∀(aB:List (Addr×Obj)) (s:Shared) (σ:L2.St) (H:Hp),Inv X aB σ H s->Ls H->∃(Pt:Nat->Array Value->Prop) (St:Nat->Heap->Prop) (Mid:Nat->Addr->Heap->Prop),WalksT P w X.A it fpW wr n Pt St Mid/\(∀i,tn i s.heap->St i s.heap)/\(∀i h,St i h->tn i h) /\
   (∀i vals,Pt i vals->qBn (xv i) vals.toList))
  (hself:∀(A:Around) (i:Nat) (s:Shared) (Q:Value->Shared->Prop) (E:Value->Shared->Prop),tn i s.heap->Q (.ref it) s->wpAny (model P w) A (pyIter (.ref it)) Q E s):Turn P w K (.Tuple elts ct pos) (Itp n Ls xv) fp it tn c where
 mem:=hit
 obj:=hobj
 keep:=hkeep
 item:=by
  intro X hP hw hK hc i aB s σ H E I hf st hg;obtain⟨hL,hi⟩:=hg;obtain⟨Pt,St,Mid,Wt,w1,w2,w3⟩:=W X hP hw hK hc aB s σ H I hL;subst hP hw hK;refine Wt.item i s _ _ hi (w1 i st) λT vals h1 tk pv hT ht mid k1=>?_
  have hTw:T∉wr:=Wt.apart i T h1 mid;refine⟨_,rfl,Wt.go elts ct pos i T _ _ _ mid λh2 st2 k2=>?_⟩;have ht2:IsTup h2 T (vals.toList).toArray:=by
   obtain⟨o,a1,a2,nn,a3⟩:=ht;exact⟨o,k2 _ _ hTw a1,a2,nn,by simpa using a3⟩
  refine⟨.ref T,upd H T (.tup (xv i)),I.turnedT (t':=tk) (d':=s.drawn) (ch:=wr) (λb u hb e=>k2 b u hb (k1 b u hb e)) (λb hb=>hf b (hwr b hb)) hT ⟨hx i,vals.toList,w3 i vals pv,ht2⟩,rfl,⟨T,I.hok.fresh hT,rfl,rfl⟩,w2 _ _ st2,λb hb=>?_⟩;have e:b≠T:=by
   obtain⟨o,ho,_⟩:=hobj i _ st b hb;exact hAu (hAn (Heap.lt_size ho) hT)
  rw[qAk e];exact(hf b hb).1
 done:=by
  intro X hP hw hK hc i aB s σ H E I hf st hg;obtain⟨hL,hi⟩:=hg;obtain⟨Pt,St,Mid,Wt,w1,w2,w3⟩:=W X hP hw hK hc aB s σ H I hL;subst hP hw hK hi;exact Wt.done s _ _ (w1 _ st) λh1 tk k1=>⟨rfl,I.turnedL (ch:=wr) (λb u hb e=>k1 b u hb e) λb hb=>hf b (hwr b hb)⟩
 self:=hself
theorem qQ4(n a b:Nat)(h1:a<n)(h2:b<n):ZipApart (n+4) (n+2) (n+3) n (n+1) a b:=by
 constructor <;> (show @Ne Nat _ _;omega)
section
variable{X:Cx}
def zF1(K:PySem.W.Frag)(ta:TA):TI:=λσ H R=>ta σ H λvs H1=>∃(a b:Addr) (xs ys:List V),vs=[.ref a,.ref b]/\SqL K H1 a xs/\SqL K H1 b ys/\R (Itp (min xs.length ys.length) (λH=>SqL K H a xs/\SqL K H b ys) (λi=>[xs.getD i .non,ys.getD i .non])) H1
theorem qW5:bootBuiltins "zip"=some (.type "zip"):=by decide +kernel
theorem zCq{a b:Expr}{ta:TA}{p pos tpos:Pos}{elts:List Expr}{ct:Nat}(hg:Gl X "zip")(hm:X.mg "zip"=none)(ha:PA X [a,b] ta)(hs:starEach [a,b] X.env=[(false,eval a X.env),(false,eval b X.env)]:=by rfl)(hs2:starEach [b] X.env=[(false,eval b X.env)]:=by rfl) :
  PI X (.Tuple elts ct tpos) (.Call (.Name "zip" p) [a,b] [] pos) (zF1 X.K ta):=by
 intro aB s σ H R I h;refine Call_ (qEw I hg hm qW5 (hCt (thn (ha pos aB s σ H _ I h) λus s1 ⟨vs,H1,I1,r1,q1⟩=>?_) (by rw[hs,hs2]) (by rw[hs2];rfl)));obtain⟨l1,l2,xs,ys,e,hx,hy,q⟩:=q1;subst e;obtain⟨u1,u2,rfl,r1,r2⟩:=qY3 r1;cases r1;cases r2;obtain⟨it1,rv1,pl1,hz1⟩:=I1.list hx;obtain⟨it2,rv2,pl2,hz2⟩:=I1.list hy;have n1:=rv1.length;have n2:=rv2.length;have b1:l1<s1.heap.objs.size:=by obtain⟨o,n,e,_⟩:=pl1;exact Heap.lt_size e
 have b2:l2<s1.heap.objs.size:=by obtain⟨o,n,e,_⟩:=pl2;exact Heap.lt_size e
 refine call_zip_2 pl1.isList pl2.isList λh1 z1 z2 z3 z4 z5 z6 z7=>?_
 refine wpAny_pyIter_zip z1 ?_;have D:=qQ4 s1.heap.objs.size l1 l2 b1 b2;have hfp:∀b∈[s1.heap.objs.size+4,s1.heap.objs.size+2,s1.heap.objs.size+3,s1.heap.objs.size,s1.heap.objs.size+1],s1.heap.objs.size<=b:=λb hb=>by
  simp only[hAg,hCw,hFi]at hb;rcases hb with rfl|rfl|rfl|rfl|rfl
  ·exact hE2 _ _
  ·exact hE2 _ _
  ·exact hE2 _ _
  ·exact hAa _
  ·exact hE2 _ _
 refine⟨s1.heap.objs.size+4,[s1.heap.objs.size+4,s1.heap.objs.size+2,s1.heap.objs.size+3,s1.heap.objs.size,s1.heap.objs.size+1],
  λi h=>IsZip h (s1.heap.objs.size+4) (s1.heap.objs.size+2) (s1.heap.objs.size+3) .none/\IsPair h (s1.heap.objs.size+2) (.ref s1.heap.objs.size) (.ref (s1.heap.objs.size+1))/\(∃a b,IsPair h (s1.heap.objs.size+3) a b)/\h.IsListIter s1.heap.objs.size l1 i/\h.IsListIter (s1.heap.objs.size+1) l2 i,
  _,H1,rfl,I1.kept (t':=s1.toks) z7,
  qI1 (s1.heap.objs.size+4) _ [s1.heap.objs.size+4,s1.heap.objs.size+2,s1.heap.objs.size+3,s1.heap.objs.size,s1.heap.objs.size+1,l1,l2] [s1.heap.objs.size+4,s1.heap.objs.size+3,s1.heap.objs.size,s1.heap.objs.size+1] _ _ _ _ (by simp) (λb hb=>?_) (λi h st b hb=>?_) (λi h h' st k=>?_) (λi=>by show 2<=sizeLine;decide) ?_ (λA i s' Q E st hQ=>wpAny_pyIter_zip st.1 hQ),
  ⟨z1,z2,⟨_,_,z3⟩,z4,z5⟩,λb hb=>I1.fpOk (hfp b hb) (I1.hok.fresh (hfp b hb)),q⟩
 ·simp only[hAg,hCw,hFi]at hb ⊢;rcases hb with h|h|h|h
  ·exact .inl h
  ·exact .inr (.inr (.inl h))
  ·exact .inr (.inr (.inr (.inl h)))
  ·exact .inr (.inr (.inr (.inr h)))
 ·obtain⟨a1,a2,⟨c,d,a3⟩,⟨o4,a4,c4,d4⟩,⟨o5,a5,c5,d5⟩⟩:=st;simp only[hAg,hCw,hFi]at hb;rcases hb with rfl|rfl|rfl|rfl|rfl
  ·exact⟨_,a1,λv z=>by cases z⟩
  ·exact⟨_,a2,λv z=>by cases z⟩
  ·exact⟨_,a3,λv z=>by cases z⟩
  ·exact⟨_,a4,λv z=>by rw[d4]at z;cases z⟩
  ·exact⟨_,a5,λv z=>by rw[d5]at z;cases z⟩
 ·obtain⟨a1,a2,⟨c,d,a3⟩,a4,a5⟩:=st;exact⟨k _ (by simp) _ a1,k _ (by simp) _ a2,⟨c,d,k _ (by simp) _ a3⟩,a4.at λo e=>k _ (by simp) o e,a5.at λo e=>k _ (by simp) o e⟩
 ·intro X' hP hw hK hc pins' s' σ' H' I' hL;obtain⟨hx',hy'⟩:=hL;rw[<-hK]at hx' hy';obtain⟨jt1,sv1,ql1,_⟩:=I'.list hx';obtain⟨jt2,sv2,ql2,_⟩:=I'.list hy';have m1:=sv1.length;have m2:=sv2.length;have Wz:=WalksT.zip2 (prog:=X.prog) (w:=X.w) (I'.ok.hd hc) _ _ _ _ _ l1 l2 D jt1.toArray jt2.toArray;rw[show min jt1.toArray.size jt2.toArray.size=min xs.length ys.length by show min jt1.length jt2.length=_;rw[m1,m2]]at Wz;refine⟨_,_,_,Wz,λi st=>?_,λi h st=>?_,λi vals pv=>?_⟩
  ·obtain⟨a1,a2,a3,a4,a5⟩:=st;exact⟨a1,a2,a3,a4,a5,ql1.isList,ql2.isList⟩
  ·obtain⟨a1,a2,a3,a4,a5,_⟩:=st;exact⟨a1,a2,a3,a4,a5⟩
  ·obtain⟨x,y,e1,e2,rfl⟩:=pv;have e1:jt1[i]?=some x:=by simpa using e1
   have e2:jt2[i]?=some y:=by simpa using e2
   have c1:i<xs.length:=by rw[m1];exact(hAm.mp e1).1
   have c2:i<ys.length:=by rw[m2];exact(hAm.mp e2).1
   obtain⟨u,d1,d2⟩:=sv1.get (hA2 c1);obtain⟨v,f1,f2⟩:=sv2.get (hA2 c2);rw[e1]at d1;rw[e2]at f1;cases d1;cases f1;show qBn [xs.getD i .non,ys.getD i .non] [x,y];rw[hA7,hA2 c1,hA7,hA2 c2];exact .cons d2 (.cons f2 .nil)
end
section
variable{σ0:St}{g:TG}{tt:TT}{te:TE}{Q:List V->Hp->Prop}{H1:Hp}
theorem qD4(Pv:Nat->List V->Hp->Prop)(h0:Pv 0 [] H1)(hl:∀i ys H,i<=n->Pv i ys H->Ls H)
  (hs:∀i ys H T,i<n->Pv i ys H->H T=none->g (.ref T) σ0 (upd H T (.tup (xv i))) λσ2 H2=>Sle σ0 σ2/\tt σ2 H2 λb H3=>if b=true then te σ2 H3 (λv H4=>ys.length<sizeLine/\Nxt n i Pv (ys++[v]) H4) else Nxt n i Pv ys H3)
  (hd:∀ys H,Pv n ys H->Q ys H):qEf (Itp n Ls xv) σ0 g tt te Q H1:=by
 refine⟨λi m ys H=>m=n-i/\i<=n/\Pv i ys H,⟨n,by simp,hAp _,h0⟩,?_⟩;rintro i m ys H ⟨rfl,hi,p⟩;have q:=hl i ys H hi p;by_cases hlt:i<n
 ·refine .inr ⟨⟨q,hlt⟩,λx H' y=>?_⟩;obtain⟨T,e1,e2,e3⟩:=y;subst e2 e3;exact hs i ys H T hlt p e1
 ·have e:i=n:=by omega
  subst e;exact .inl ⟨⟨q,rfl⟩,hd ys H p⟩
end
noncomputable def qT7(tpos:Pos)(it:Value)(target:Expr)(env:Env)(ifs:List Expr)(body:Sem Unit)(k:Sem Fin):Sem Fin:=do
 standAt tpos
 match ← pyNext it with
 |none=>pure (.done .next)
 |some v =>
  letOwnedTupleGo target it v
  assign target env v
  let mut ok:=true
  for c in ifs do
   if ok then ok ← isTrue c env (eval c env)
  if ok then
   body
  k
section
variable{AS:Type}
abbrev TB(AS:Type):=AS->St->Hp->(AS->St->Hp->Prop)->Prop
end
structure GC(P:Program)(w:World){AS:Type}(e target iter:Expr)(ifs:List Expr)(scope:Scope)(tpos:Pos)(newAcc:Sem Value)(body:Addr->Env->Sem Unit)(o0:Obj)(a0:AS)(AO:AS->Obj->Prop)(HOf:Addr->AS->HO):Prop where
 new:∀(A:Around) (s:Shared) (Q:Value->Shared->Prop) (E:Value->Shared->Prop),Q (.ref s.heap.objs.size) { s with heap:=s.heap.push o0 }->wpAny (model P w) A newAcc Q E s
 nf:o0.isFreed=false
 nc:∀a o,AO a o->∀v,o.data≠.cell v
 hA0:AO a0 o0
 hHO:∀(H':Hp) (h:Heap) (acc:Addr) (a:AS) (o:Obj),sysModules<acc->AO a o->h.get? acc=some o->qC1 P w H' h acc (HOf acc a)
 cl:∃gs,clausesOf e=⟨target,iter,ifs,0⟩ :: gs
 dnS:∀(it acc:Value) (env:Env) (A:Around) (Q:PySem.Fin->Shared->Prop) (E:Value->Shared->Prop) (s:Shared),wpAny (model P w) A ((compStart e 0 it acc env).onRaise (λx=>do noteFrame x env;standAt theWindowsPlace)) Q E s->wpAny (model P w) (A.under (.compStart e 0 it acc env)) ((model P w).den (.compStart e 0 it acc env)) Q E s
 dnL:∀(it acc:Value) (env:Env) (A:Around) (Q:PySem.Fin->Shared->Prop) (E:Value->Shared->Prop) (s:Shared),wpAny (model P w) A ((compTurn e 0 it acc env).onRaise (λx=>do noteFrame x env;theTreesLotGoes x)) Q E s->wpAny (model P w) (A.under (.compLoop e 0 it acc env)) ((model P w).den (.compLoop e 0 it acc env)) Q E s
 q:∀it acc env,(Code.compLoop e 0 it acc env).quiet=true
 sh:∀(it acc:Addr) (env:Env),compTurn e 0 (.ref it) (.ref acc) env=qT7 tpos (.ref it) target env ifs (body acc env) (again (.compLoop e 0 (.ref it) (.ref acc) env))
end L2
namespace L2
open PySem PySem.Spec PyProof.Rows PySem.W
noncomputable abbrev Rng(n:Nat):Array Nat:=List.toArray (List.range n)
def Gd(n:Nat)(p:Array Nat):Prop:=p.Perm (Rng n)
theorem Gd.lt(h:Gd n p)(h0:0<n)(i:Nat):p.getD i 0<n:=by
 by_cases hi:i<p.size
 ·have e:p.getD i 0=p[i]:=by simp[Array.getD,hi]
  rw[e];have m:p[i]∈p.toList:=by simp
  have m2:=(hBg.mp h).mem_iff.mp m
  simpa using m2
 ·have e:p.getD i 0=0:=by simp[Array.getD,hi]
  rw[e];exact h0
theorem Gd.rev(h:Gd n p)(i j:Nat):Gd n (kas_rev p i j):=(mirror_perm _ _ _ _).trans h
theorem Gd.bub(h:Gd n p)(i j:Nat):Gd n (bubble p i j):=(bubble_perm _ _ _).trans h
section
variable{n:Nat}{cmp:Nat->Nat->(Bool->Shared->Prop)->Shared->Prop}{s:Shared}(hask:∀i j C,i<n->j<n->(∀b,C b s)->cmp i j C s)(h0:0<n)
include hask h0
theorem qTf(g:Gd n p)(hq:∀m,Q m s):∀f m,(kas_asc p f m).kasWp cmp Q s
 |0,m=>hq m
 |f+1,m=>by
  refine hask _ _ _ (g.lt h0 _) (g.lt h0 _) λb=>?_
  dsimp only;split
  ·exact hq m
  ·exact qTf g hq f (m+1)
theorem qKn(hq:∀p m q,Gd n p->Q (p,m,q) s):∀f p m q,Gd n p->(kas_desc f p m q).kasWp cmp Q s
 |0,p,m,q,g=>hq p m q g
 |f+1,p,m,q,g=>by
  refine hask _ _ _ (g.lt h0 _) (g.lt h0 _) λb=>?_
  dsimp only;split
  ·split
   ·exact qKn hq f _ _ _ (g.rev _ _)
   ·exact qKn hq f _ _ _ g
  ·refine hask _ _ _ (g.lt h0 _) (g.lt h0 _) λd=>?_
   dsimp only;split
   ·exact hq p m q g
   ·exact qKn hq f _ _ _ g
theorem qPl(g:Gd n p)(hq:∀m p,Gd n p->Q (m,p) s)(a b:Nat):(kas_tail3 a b p).kasWp cmp Q s:=by
 unfold kas_tail3;rw[KasT.kasWp_bind];exact qTf hask h0 (g.rev _ _) (λm=>hq m _ (g.rev _ _)) _ _
theorem qIi(g:Gd n p)(hq:∀m p,Gd n p->Q (m,p) s)(a b:Nat):(kas_descPart a b p).kasWp cmp Q s:=by
 unfold kas_descPart;rw[KasT.kasWp_bind];refine qKn hask h0 (λp' m q g'=>?_) _ _ _ _ g;dsimp only;split
 ·exact qPl hask h0 (g'.rev _ _) hq _ _
 ·exact qPl hask h0 g' hq _ _
theorem qWp(g:Gd n p)(hq:∀m p,Gd n p->Q (m,p) s)(b:Nat):(kas_count b p).kasWp cmp Q s:=by
 unfold kas_count;rw[KasT.kasWp_bind];refine qTf hask h0 g (λm=>?_) _ _;split
 ·exact hq _ _ g
 ·split
  ·refine hask _ _ _ (g.lt h0 _) (g.lt h0 _) λc=>?_
   dsimp only;split
   ·exact hq _ _ g
   ·exact qIi hask h0 (g.rev _ _) hq _ _
  ·exact qIi hask h0 g hq _ _
theorem qKm(g:Gd n p)(hq:∀m,Q m s)(k:Nat):∀f l r,(kas_place p k f l r).kasWp cmp Q s
 |0,l,r=>hq l
 |f+1,l,r=>by
  unfold kas_place;split
  ·exact hq l
  ·refine hask _ _ _ (g.lt h0 _) (g.lt h0 _) λc=>?_
   dsimp only;split
   ·exact qKm g hq k f _ _
   ·exact qKm g hq k f _ _
theorem qYf(hq:∀p,Gd n p->Q p s):∀f p k,Gd n p->(kas_bin f p k).kasWp cmp Q s
 |0,p,k,g=>hq p g
 |f+1,p,k,g=>by
  unfold kas_bin;rw[KasT.kasWp_bind];exact qKm hask h0 g (λm=>qYf hq f _ _ (g.bub _ _)) k _ _ _
theorem zA5(hq:∀p,Gd n p->Q p s):(kas_sort n).kasWp cmp Q s:=by
 unfold kas_sort;rw[KasT.kasWp_bind];refine qWp hask h0 (hDv _) (λm p g=>?_) _;dsimp only;split
 ·exact qYf hask h0 hq _ _ _ g
 ·exact hq _ g
end
def zD4(h:Heap)(v:Value)(t:List Str):Prop:=∃a its,v = .ref a/\IsTup h a its/\StrsAre its.toList t/\t≠[]
section
variable{P:Program}{w:World}{A:Around}{E:Value->Shared->Prop}{s:Shared}
theorem qHs(k:∀b o,b≠a->h.get? b=some o->h'.get? b=some o):∀ {vs:List Value} {ts:List (List Str)},Paired (zD4 h) vs ts->(∀v∈vs,v≠.ref a)->∃fs:List Value,KatTups h' vs fs/\fs.length=vs.length/\∀f∈fs,∃x t,f=Value.str x t
 |_,_,.nil,_=>⟨[],trivial,rfl,λf hf=>by cases hf⟩
 |_,_,@Paired.cons _ _ _ v t l1 l2 hh tt,hn=>by
  obtain⟨fs,q1,q2,q3⟩:=qHs k tt λu hu=>hn u (hA4 _ hu)
  obtain⟨b,its,rfl,⟨o,g,c,n,d⟩,st,ne⟩:=hh;have nb:b≠a:=λz=>hn _ hA6 (by rw[z])
  cases t with
  |nil=>exact absurd rfl ne
  |cons x r =>
   have e:=st.strs;cases hi:its.toList with
   |nil=>rw[hi]at e;cases e
   |cons f fr =>
    have hf:its[0]?=some f:=by rw[<-hBh,hi];rfl
    refine⟨f :: fs,.cons (k b o nb g) c d hf q1,by simp[q2],λg' hg'=>?_⟩;rcases hAg.mp hg' with z|z
    ·subst z;exact st.all _ (by rw[hi];exact hA6)
    ·exact q3 g' z
end
section
variable{X:Cx}
theorem qE1:∀ {as:List Addr} {us:List Value},qBn (as.map V.ref) us->us=as.map Value.ref
 |[],_,r=>by cases r;rfl
 |a :: as,_,r=>by
  cases r with
  |cons h t=>cases h;rw[qE1 t];rfl
theorem qD3:∀as:List Addr,qBn (as.map V.ref) (as.map Value.ref)
 |[]=>.nil
 |a :: as=>.cons rfl (qD3 as)
theorem qRa(I:Inv X aB σ H s)(k:∀b o,s.heap.get? b=some o->h'.get? b=some o):∀ {as:List Addr} {ts:List (List Str)},Paired (λa t=>SqT X.K H a (t.map V.str)/\t≠[]) as ts->Paired (zD4 h') (as.map Value.ref) ts
 |_,_,.nil=>.nil
 |_,_,.cons h t=>by
  obtain⟨h1,h2⟩:=h;obtain⟨its,rv,⟨o,g,c,n,d⟩,_⟩:=I.tuple h1;exact .cons ⟨_,its.toArray,rfl,⟨o,k _ _ g,c,n,d⟩,by simpa using qEh rv,h2⟩ (qRa I k t)
theorem qRb(I:Inv X aB σ H s):∀ {as:List Addr} {ts:List (List Str)},Paired (λa t=>SqT X.K H a (t.map V.str)/\t≠[]) as ts->∀b∈as,b<s.heap.objs.size
 |_,_,.nil,b,hb=>by cases hb
 |_,_,.cons h t,b,hb=>by
  rcases hAg.mp hb with z|z
  ·subst z;obtain⟨its,rv,⟨o,g,_⟩,_⟩:=I.tuple h.1;exact Heap.lt_size g
  ·exact qRb I t b z
end
section
variable{X:Cx}
theorem qG3:qB2 X (.type "range") (λxs H Q=>∃j:Int,xs=[.int j]/\0<=j/\j<=1000/\∀r,H r=none->Q (.ref r) (upd H r (.rng 0 j))):=by
 intro aB s σ H xs us Q I r h;obtain⟨j,rfl,h0,h1,q⟩:=h;obtain⟨u,rfl,t,rfl⟩:=qCy r;refine call_range_1 ?_;exact⟨.ref s.heap.objs.size,_,I.laid (a:=s.heap.objs.size) (o:=.rng 0 j) (λb o e=>Heap.get?_push_of_some _ e) (hAa _) ⟨_,_,_,Heap.get?_push_size _ rfl⟩,rfl,q _ (I.hok.fresh (hAa _))⟩
theorem qLy:∀ {its:List Value} {n:Nat} (k:Nat),its.length=n->(∀i v,its[i]?=some v->∃t,v=Value.int ((k+i:Nat):Int) t)->qBn ((List.range' k n).map λ(i:Nat)=>V.int (i:Int)) its
 |[],n,k,hl,_=>by
  have e:n=0:=hl.symm;subst e;exact .nil
 |v :: r,n,k,hl,h=>by
  obtain⟨m,rfl⟩:∃m,n=m+1:=⟨n-1,by simp at hl;omega⟩;rw[List.range'_succ,hBj];refine .cons ?_ (qLy (k+1) (by simpa using hl) λi v hv=>?_)
  ·obtain⟨t,e⟩:=h 0 v rfl;exact⟨t,by rw[e,Nat.add_zero]⟩
  ·obtain⟨t,e⟩:=h (i+1) v (by simpa using hv);exact⟨t,by rw[e,show k+(i+1)=k+1+i by omega]⟩
theorem qKt(hc:X.calm=true):qB2 X (.type "list") (λxs H Q=>∃(r:Addr) (j:Int),xs=[.ref r]/\H r=some (.rng 0 j)/\0<=j/\j<=1000/\∀l,H l=none->Q (.ref l) (upd H l (.lst ((List.range j.toNat).map λ(i:Nat)=>V.int (i:Int))))):=by
 intro aB s σ H xs us Q I r h;obtain⟨p,j,rfl,hp,h0,h1,q⟩:=h;obtain⟨u,rfl,rx⟩:=qCy r;cases rx;obtain⟨t,u,v,e⟩:=I.hok p _ hp;refine call_list_range (n:=j.toNat) (a:=0) (b:=j) (c:=1) (I.ok.hd hc) e (small_one (by decide) (by decide) (by omega) (by omega)) (by rw[rangeSize_one];split <;> omega) (by omega) λh' tk acc' c' hk hS hacc=>?_
 refine⟨.ref s.heap.objs.size,_,I.laid (t':=tk) (a:=s.heap.objs.size) (o:=.lst ((List.range j.toNat).map λ(i:Nat)=>V.int (i:Int))) (λb o e=>hk b o e) (hAa _) ⟨?_,acc'.toList,c',?_,by rw[Array.toArray_toList];exact hS⟩,rfl,q _ (I.hok.fresh (hAa _))⟩
 ·rw[hA1,hB0];exact hB5 (qAf (by omega))
 ·rw[List.range_eq_range'];refine qLy 0 (by rw[hBy];exact hacc.1) λi v hv=>?_
  obtain⟨t,e⟩:=hacc.2 i v (by rw[<-hBh];exact hv);exact⟨t,by rw[e];congr 1;omega⟩
end
structure Ordr(lt:Nat->Nat->Bool):Prop where
 asym:∀a b,lt a b=true->lt b a=false
 tr:∀a b c,lt b a=false->lt c b=false->lt c a=false
theorem Ordr.irr(o:Ordr lt)(a:Nat):lt a a=false:=by
 cases h:lt a a with
 |false=>rfl
 |true=>exact(o.asym a a h).symm.trans h▸rfl
def SPk(lt:Nat->Nat->Bool)(p:Array Nat)(k:Nat):Prop:=∀i j,i<j->j<k->lt (p.getD j 0) (p.getD i 0)=false
def DPk(lt:Nat->Nat->Bool)(p:Array Nat)(k:Nat):Prop:=∀i j,i<j->j<k->lt (p.getD i 0) (p.getD j 0)=false
def ERk(lt:Nat->Nat->Bool)(p:Array Nat)(a b:Nat):Prop:=∀i j,a<=i->i<b->a<=j->j<b->lt (p.getD i 0) (p.getD j 0)=false
theorem Gd.size(h:Gd n p):p.size=n:=by
 have:=Array.Perm.size_eq h
 simpa using this
theorem qJa(hj:j<=p.size)(k:Nat):(kas_rev p i j).getD k 0=if i<=k/\k<j then p.getD (i+j-1-k) 0 else p.getD k 0:=by
 unfold kas_rev;rw[hC6,getElem?_mirror_all hj];split <;> rw[<-hC6]
theorem qYt(hk:k<p.size)(hl:l<=k)(i:Nat):(bubble p k (k-l)).getD i 0=if i=l then p.getD k 0 else if l<i/\i<=k then p.getD (i-1) 0 else p.getD i 0:=by
 rw[hC6,getElem?_bubble hk _ (by omega)];have e:k-(k-l)=l:=by omega
 rw[e];by_cases e1:i=l
 ·rw[hEn e1,hEn e1,<-hC6]
 ·rw[hEm e1,hEm e1];by_cases e2:l<i/\i<=k
  ·rw[hEn e2,hEn e2,<-hC6]
  ·rw[hEm e2,hEm e2,<-hC6]
section
variable{lt:Nat->Nat->Bool}(o:Ordr lt)
include o
theorem SPk.snoc(h:SPk lt p k)(h1:1<=k)(hk:lt (p.getD k 0) (p.getD (k-1) 0)=false):SPk lt p (k+1):=λi j hij hj=>by
 by_cases e:j=k
 ·subst e;by_cases e2:i=j-1
  ·subst e2;exact hk
  ·exact o.tr _ _ _ (h i (j-1) (by omega) (by omega)) hk
 ·exact h i j hij (by omega)
theorem DPk.snoc(h:DPk lt p k)(h1:1<=k)(hk:lt (p.getD (k-1) 0) (p.getD k 0)=false):DPk lt p (k+1):=λi j hij hj=>by
 by_cases e:j=k
 ·subst e;by_cases e2:i=j-1
  ·subst e2;exact hk
  ·exact o.tr _ _ _ hk (h i (j-1) (by omega) (by omega))
 ·exact h i j hij (by omega)
omit o in
theorem DPk.rev(h:DPk lt p k)(hb:b<=p.size)(hbk:b<=k)(e:ERk lt p a b):DPk lt (kas_rev p a b) k:=λi j hij hj=>by
 rw[qJa hb,qJa hb];split
 ·split
  ·exact e _ _ (by omega) (by omega) (by omega) (by omega)
  ·exact h _ _ (by omega) (by omega)
 ·split
  ·exact h _ _ (by omega) (by omega)
  ·exact h _ _ (by omega) (by omega)
omit o in
theorem DPk.turn(h:DPk lt p k)(hk:k<=p.size):SPk lt (kas_rev p 0 k) k:=λi j hij hj=>by
 rw[qJa hk,qJa hk,hEn (by omega),hEn (by omega)];exact h _ _ (by omega) (by omega)
variable{n:Nat}{cmp:Nat->Nat->(Bool->Shared->Prop)->Shared->Prop}{s:Shared}(hask:∀i j C,i<n->j<n->C (lt i j) s->cmp i j C s)(h0:0<n)
include hask h0
theorem qRz(g:Gd n p)(N:Nat)(hq:∀m,SPk lt p m->1<=m->m<=N->(m<N->lt (p.getD m 0) (p.getD (m-1) 0)=true)->Q m s):∀f m,1<=m->m+f=N->SPk lt p m->(kas_asc p f m).kasWp cmp Q s
 |0,m,h1,hN,sp=>hq m sp h1 (by omega) (λz=>by omega)
 |f+1,m,h1,hN,sp=>by
  refine hask _ _ _ (g.lt h0 _) (g.lt h0 _) ?_;dsimp only;split
  ·rename_i c;exact hq m sp h1 (by omega) λ_=>c
  ·rename_i c;exact qRz g N hq f (m+1) (by omega) (by omega) (sp.snoc o h1 (by simpa using c))
theorem qJ4(N:Nat)(hN:N<=n)(hq:∀p m q,Gd n p->1<=m->q+1<=m->m<=N->DPk lt p m->ERk lt p (m-(q+1)) m->Q (p,m,q) s):∀f p m q,Gd n p->1<=m->q+1<=m->m+f=N->DPk lt p m->ERk lt p (m-(q+1)) m->(kas_desc f p m q).kasWp cmp Q s
 |0,p,m,q,g,h1,h2,h3,dp,er=>hq p m q g h1 h2 (by omega) dp er
 |f+1,p,m,q,g,h1,h2,h3,dp,er=>by
  have sz:=g.size;refine hask _ _ _ (g.lt h0 _) (g.lt h0 _) ?_;dsimp only;split
  ·rename_i c;have dp':=dp.snoc o h1 (o.asym _ _ c);have one:∀p':Array Nat,ERk lt p' (m+1-(0+1)) (m+1):=λp' i j hi hi' hj hj'=>by
    have e1:i=m:=by omega
    have e2:j=m:=by omega
    subst e1 e2;exact o.irr _
   split
   ·exact qJ4 N hN hq f _ (m+1) 0 (g.rev _ _) (by omega) (by omega) (by omega) (dp'.rev (by omega) (by omega) er) (one _)
   ·exact qJ4 N hN hq f p (m+1) 0 g (by omega) (by omega) (by omega) dp' (one _)
  ·rename_i c;refine hask _ _ _ (g.lt h0 _) (g.lt h0 _) ?_;dsimp only;split
   ·exact hq p m q g h1 h2 (by omega) dp er
   ·rename_i d;have c':lt (p.getD m 0) (p.getD (m-1) 0)=false:=by simpa using c
    have d':lt (p.getD (m-1) 0) (p.getD m 0)=false:=by simpa using d
    refine qJ4 N hN hq f p (m+1) (q+1) g (by omega) (by omega) (by omega) (dp.snoc o h1 d') λi j hi hi' hj hj'=>?_
    by_cases ei:i=m
    ·subst ei;by_cases ej:j=i
     ·subst ej;exact o.irr _
     ·exact o.tr _ _ _ (er (i-1) j (by omega) (by omega) (by omega) (by omega)) c'
    ·by_cases ej:j=m
     ·subst ej;exact o.tr _ _ _ d' (er i (j-1) (by omega) (by omega) (by omega) (by omega))
     ·exact er i j (by omega) (by omega) (by omega) (by omega)
theorem qOg(g:Gd n p)(N:Nat)(hN:N<=n)(hq:∀m p,Gd n p->SPk lt p m->1<=m->m<=N->Q (m,p) s)(m:Nat)(h1:1<=m)(h2:m<=N)(dp:DPk lt p m):(kas_tail3 m N p).kasWp cmp Q s:=by
 unfold kas_tail3;rw[KasT.kasWp_bind];have sz:=g.size;exact qRz o hask h0 (g.rev _ _) N (λm' sp a b _=>hq m' _ (g.rev _ _) sp a b) _ _ h1 (by omega) (dp.turn (by omega))
theorem qHw(g:Gd n p)(N:Nat)(hN:N<=n)(hq:∀m p,Gd n p->SPk lt p m->1<=m->m<=N->Q (m,p) s)(m:Nat)(h2:m+1<=N)(dp:DPk lt p (m+1)):(kas_descPart m N p).kasWp cmp Q s:=by
 unfold kas_descPart;rw[KasT.kasWp_bind];refine qJ4 o hask h0 N hN (λp' m' q g' a b c dp' er=>?_) _ _ _ _ g (by omega) (by omega) (by omega) dp λi j hi hi' hj hj'=>?_
 ·have sz:=g'.size;dsimp only;split
  ·exact qOg o hask h0 (g'.rev _ _) N hN hq _ a c (dp'.rev (by omega) (hAa _) er)
  ·exact qOg o hask h0 g' N hN hq _ a c dp'
 ·have e1:i=m:=by omega
  have e2:j=m:=by omega
  subst e1 e2;exact o.irr _
theorem qVa(g:Gd n p)(hq:∀m p,Gd n p->SPk lt p m->1<=m->m<=n->Q (m,p) s):(kas_count n p).kasWp cmp Q s:=by
 unfold kas_count;rw[KasT.kasWp_bind];have sz:=g.size;refine qRz o hask h0 g n (λm sp m1 mn st=>?_) _ _ (hAa _) (by omega) (λi j hij hj=>by omega);split
 ·exact hq _ _ g sp m1 mn
 ·rename_i c;have c':m≠n:=by simpa using c
  have lt1:=st (by omega);have ge1:=o.asym _ _ lt1;split
  ·refine hask _ _ _ (g.lt h0 _) (g.lt h0 _) ?_;dsimp only;split
   ·exact hq _ _ g sp m1 mn
   ·rename_i d;have d':lt (p.getD 0 0) (p.getD (m-1) 0)=false:=by simpa using d
    have lo:∀i,i<m->lt (p.getD (m-1) 0) (p.getD i 0)=false:=λi hi=>by
     by_cases e:i=m-1
     ·subst e;exact o.irr _
     ·exact sp i (m-1) (by omega) (by omega)
    have hi0:∀j,j<m->lt (p.getD j 0) (p.getD 0 0)=false:=λj hj=>by
     by_cases e:j=0
     ·subst e;exact o.irr _
     ·exact sp 0 j (by omega) hj
    have er:ERk lt p 0 m:=λi j _ hi _ hj=>o.tr _ _ _ (o.tr _ _ _ (lo j hj) d') (hi0 i hi)
    refine qHw o hask h0 (g.rev _ _) n (hAa _) hq m (by omega) λi j hij hj=>?_
    rw[qJa (by omega),qJa (by omega)];by_cases ej:j=m
    ·subst ej;rw[hEn (by omega),hEm (by omega)];exact o.tr _ _ _ ge1 (er _ _ (by omega) (by omega) (by omega) (by omega))
    ·rw[hEn (by omega),hEn (by omega)];exact er _ _ (by omega) (by omega) (by omega) (by omega)
  ·have e:m=1:=by omega
   subst e;refine qHw o hask h0 g n (hAa _) hq 1 (by omega) λi j hij hj=>?_
   have e1:i=0:=by omega
   have e2:j=1:=by omega
   subst e1 e2;exact ge1
theorem qJ3(g:Gd n p)(k:Nat)(sp:SPk lt p k)(hq:∀l,l<=k->(∀i,i<l->lt (p.getD k 0) (p.getD i 0)=false)->(∀i,l<=i->i<k->lt (p.getD i 0) (p.getD k 0)=false)->Q l s) :
  ∀f l r,l<=r->r<=k->r-l<=f->(∀i,i<l->lt (p.getD k 0) (p.getD i 0)=false)->(∀i,r<=i->i<k->lt (p.getD i 0) (p.getD k 0)=false)->(kas_place p k f l r).kasWp cmp Q s
 |0,l,r,h1,h2,h3,a,b=>hq l (by omega) a λi hi hk=>b i (by omega) hk
 |f+1,l,r,h1,h2,h3,a,b=>by
  unfold kas_place;split
  ·exact hq l (by omega) a λi hi hk=>b i (by omega) hk
  ·refine hask _ _ _ (g.lt h0 _) (g.lt h0 _) ?_;dsimp only;split
   ·rename_i c;have c':=o.asym _ _ c;refine qJ3 g k sp hq f l ((l+r) / 2) (by omega) (by omega) (by omega) a λi hi hk=>?_
    by_cases e:i=(l+r) / 2
    ·subst e;exact c'
    ·exact o.tr _ _ _ c' (sp _ _ (by omega) hk)
   ·rename_i c;have c':lt (p.getD k 0) (p.getD ((l+r) / 2) 0)=false:=by simpa using c
    refine qJ3 g k sp hq f ((l+r) / 2+1) r (by omega) h2 (by omega) (λi hi=>?_) b;by_cases e:i=(l+r) / 2
    ·subst e;exact c'
    ·exact o.tr _ _ _ (sp i ((l+r) / 2) (by omega) (by omega)) c'
theorem qXy(hq:∀p,Gd n p->SPk lt p n->Q p s):∀f p k,Gd n p->k+f=n->SPk lt p k->(kas_bin f p k).kasWp cmp Q s
 |0,p,k,g,h1,sp=>hq p g (by rw[<-h1];exact sp)
 |f+1,p,k,g,h1,sp=>by
  unfold kas_bin;rw[KasT.kasWp_bind];have sz:=g.size;refine qJ3 o hask h0 g k sp (λl hl a b=>qXy hq f _ _ (g.bub _ _) (by omega) λi j hij hj=>?_) k 0 k (by omega) (hAa _) (by omega) (λi hi=>by omega) (λi hi hk=>by omega);rw[qYt (by omega) hl,qYt (by omega) hl];by_cases ej:j=l
  ·rw[hEn ej,hEm (by omega),hEm (by omega)];exact a i (by omega)
  ·rw[hEm ej];by_cases ej2:l<j/\j<=k
   ·rw[hEn ej2];by_cases ei:i=l
    ·rw[hEn ei];exact b (j-1) (by omega) (by omega)
    ·rw[hEm ei];split
     ·exact sp _ _ (by omega) (by omega)
     ·exact sp _ _ (by omega) (by omega)
   ·rw[hEm ej2,hEm (by omega),hEm (by omega)];exact sp _ _ hij (by omega)
theorem qJ2(hq:∀p,Gd n p->SPk lt p n->Q p s):(kas_sort n).kasWp cmp Q s:=by
 unfold kas_sort;rw[KasT.kasWp_bind];refine qVa o hask h0 (hDv _) (λm p g sp m1 mn=>?_);dsimp only;have e:max m 1=m:=by omega
 rw[e];split
 ·exact qXy o hask h0 hq _ _ _ g (by omega) sp
 ·have e2:m=n:=by omega
  subst e2;exact hq _ g sp
end
theorem txTri:∀a b:List Nat,a<b\/a=b\/b<a
 |[],[]=>.inr (.inl rfl)
 |[],_ :: _=>.inl (List.nil_lt_cons _ _)
 |_ :: _,[]=>.inr (.inr (List.nil_lt_cons _ _))
 |x :: a,y :: b=>by
  rcases Nat.lt_trichotomy x y with h|h|h
  ·exact .inl (hE8.mpr (.inl h))
  ·subst h;rcases txTri a b with h|h|h
   ·exact .inl (hE8.mpr (.inr ⟨rfl,h⟩))
   ·exact .inr (.inl (by rw[h]))
   ·exact .inr (.inr (hE8.mpr (.inr ⟨rfl,h⟩)))
  ·exact .inr (.inr (hE8.mpr (.inl h)))
theorem zD5{x y:Str}(h:x.cps.toList=y.cps.toList):x=y:=by
 cases x;cases y;simp only[Str.mk.injEq];exact hEd.mp h
noncomputable def qQn(x y:Str):Bool:=decide (x.cps.toList<y.cps.toList)
theorem qCc(x:Str):qQn x x=false:=hEj (List.lt_irrefl _)
theorem qC2(h:qQn x y=true)(h':qQn y z=true):qQn x z=true:=hEi (List.lt_trans (hEl h) (hEl h'))
theorem qJ8(x y:Str):qQn x y=true\/x=y\/qQn y x=true:=by
 rcases txTri x.cps.toList y.cps.toList with h|h|h
 ·exact .inl (hEi h)
 ·exact .inr (.inl (zD5 h))
 ·exact .inr (.inr (hEi h))
noncomputable def ltL:List Str->List Str->Bool
 |[],[]=>false
 |[],_ :: _=>true
 |_ :: _,[]=>false
 |x :: r,y :: t=>if x=y then ltL r t else qQn x y
theorem qNi:∀a:List Str,ltL a a=false
 |[]=>rfl
 |x :: r=>by unfold ltL;rw[hEn rfl];exact qNi r
theorem qIg:∀a b:List Str,ltL a b=true\/a=b\/ltL b a=true
 |[],[]=>.inr (.inl rfl)
 |[],_ :: _=>.inl rfl
 |_ :: _,[]=>.inr (.inr rfl)
 |x :: r,y :: t=>by
  unfold ltL;by_cases e:x=y
  ·subst e;rw[hEn rfl,hEn rfl];rcases qIg r t with h|h|h
   ·exact .inl h
   ·exact .inr (.inl (by rw[h]))
   ·exact .inr (.inr h)
  ·rw[hEm e,hEm (λz=>e z.symm)];rcases qJ8 x y with h|h|h
   ·exact .inl h
   ·exact absurd h e
   ·exact .inr (.inr h)
theorem qFu:∀a b c:List Str,ltL a b=true->ltL b c=true->ltL a c=true
 |[],_,[],h,h'=>by
  rename_i b;cases b with
  |nil=>exact h
  |cons _ _=>cases h'
 |[],_,_ :: _,_,_=>rfl
 |_ :: _,[],_,h,_=>by cases h
 |_ :: _,_ :: _,[],_,h'=>by cases h'
 |x :: r,y :: t,z :: u,h,h'=>by
  unfold ltL at h h' ⊢;by_cases e1:x=y
  ·subst e1;rw[hEn rfl]at h;by_cases e2:x=z
   ·subst e2;rw[hEn rfl]at h' ⊢;exact qFu r t u h h'
   ·rw[hEm e2]at h' ⊢;exact h'
  ·rw[hEm e1]at h;by_cases e2:y=z
   ·subst e2;rw[hEm e1];exact h
   ·rw[hEm e2]at h';have q:=qC2 h h';have e3:¬x=z:=λe=>by rw[e,qCc]at q;cases q
    rw[hEm e3];exact q
theorem qPd(a b:List Str)(h:ltL a b=true):ltL b a=false:=by
 cases q:ltL b a with
 |false=>rfl
 |true=>have:=qFu a b a h q;rw[qNi]at this;cases this
noncomputable def ltI(ts:List (List Str))(i j:Nat):Bool:=ltL (ts.getD i []) (ts.getD j [])
theorem qTb(ts:List (List Str)):Ordr (ltI ts):=⟨λa b h=>qPd _ _ h,λa b c h h'=>by
 have h1:ltL (ts.getD b []) (ts.getD a [])=false:=h;have h2:ltL (ts.getD c []) (ts.getD b [])=false:=h';show ltL (ts.getD c []) (ts.getD a [])=false;rcases qIg (ts.getD a []) (ts.getD b []) with q|q|q
 ·rcases qIg (ts.getD b []) (ts.getD c []) with r|r|r
  ·exact qPd _ _ (qFu _ _ _ q r)
  ·rw[<-r];exact h1
  ·rw[h2]at r;cases r
 ·rw[q];exact h2
 ·rw[h1]at q;cases q⟩
theorem qCm(vs:List Value):(List.range vs.length).map (λi=>vs.getD i Value.none)=vs:=by
 refine hCs λi=>?_
 by_cases hi:i<vs.length
 ·rw[hAi,hCq hi,hA2 hi];show some (vs.getD i Value.none)=_;rw[hA7,hA2 hi];rfl
 ·rw[hB7 (by simp;omega),hB7 (by omega)]
theorem qLw:∀ {vs us:List Value} {x y:List Str} (i:Nat),StrsAre vs x->StrsAre us y->Q (ltL x y) s->fin=decide (x.length<y.length)->KatLex P w A b fin Q (vs.zip us) i s
 |_,_,_,_,i,.nil,.nil,hQ,hf=>by rw[hf];exact hQ
 |_,_,_,_,i,.nil,.cons _ _ _,hQ,hf=>by rw[hf];exact hQ
 |_,_,_,_,i,.cons _ _ _,.nil,hQ,hf=>by rw[hf];exact hQ
 |_,_,_,_,i,.cons p t r,.cons q u r',hQ,hf=>by
  refine kat_cons (wpAny_eqBool_str (kat_go (λe=>kat_yes (qLw (i+1) r r' ?_ ?_)) λe=>kat_no ?_))
  ·have e':=hEl e;unfold ltL at hQ;rw[hEn e']at hQ;exact hQ
  ·rw[hf];simp
  ·have e':=hFk e;unfold ltL at hQ;rw[hEm e']at hQ;cases hb:(b && i == 0) with
   |true=>exact strKind_oneLt P w A _ s _ _ _ _ rfl rfl hQ
   |false=>exact kat_one _ _ (lt_str hQ)
section
variable{P:Program}{w:World}{A:Around}{E:Value->Shared->Prop}{s:Shared}
theorem qJr(k:∀b o,b≠a->h.get? b=some o->h'.get? b=some o):∀ {vs:List Value} {ts:List (List Str)} {i:Nat},Paired (zD4 h) vs ts->(∀v∈vs,v≠.ref a)->i<vs.length->∃(b:Addr) (its:Array Value),IsTup h' b its/\vs.getD i Value.none = .ref b/\StrsAre its.toList (ts.getD i [])
 |_,_,i,.nil,_,hi=>absurd hi (hC5 _)
 |_,_,0,@Paired.cons _ _ _ v t l1 l2 hh tt,hn,_=>by
  obtain⟨b,its,rfl,⟨o,g,c,n,d⟩,st,ne⟩:=hh;have nb:b≠a:=λz=>hn _ hA6 (by rw[z])
  exact⟨b,its,⟨o,k b o nb g,c,n,d⟩,rfl,st⟩
 |_,_,i+1,@Paired.cons _ _ _ v t l1 l2 hh tt,hn,hi=>qJr (i:=i) k tt (λu hu=>hn u (hA4 _ hu)) (by simpa using hi)
theorem qQl(ho:s.heap.get? a=some (seqObj "list" vs.toArray n))(ht:Paired (zD4 s.heap) vs ts)(h64:vs.length<64)(hna:∀v∈vs,v≠.ref a)
  (h:∀(out:List Value) (p:Array Nat),out.Perm vs->Gd vs.length p->SPk (ltI ts) p vs.length->out=p.toList.map (λi=>vs.getD i Value.none)->R (.done (.ret .none)) { s with heap:=sortedHeap s.heap a vs out.toArray }):wpAny (model P w) A (Builtin.«list.sort» ⟨[.ref a],[]⟩) R E s:=by
 rw[list_sort_plain];have ha:a<s.heap.objs.size:=Heap.lt_size ho;refine hEh (hFg ho rfl (hEh (hEr ho rfl ?_ (by rw[hAf,hEq];omega) (hAp _))));obtain⟨e1,ho1⟩:∃e1,(s.heap.update a (Obj.mapSeq λ_=>#[])).get? a=some (seqObj "list" #[] e1):=⟨_,get?_update_seq ho (λ_=>#[])⟩;refine hEh (hF8 ho1 rfl (hEh (hFe ?_ (by show vs.length<=_;rw[hEq];omega))));refine hEh (hEy ?_ (hAp _));refine hEt ?_;have ho6:((vB 0).push (seqObj "list" #[] 0)).get? a=some (seqObj "list" #[] e1):=Heap.get?_push_of_some _ (Heap.get?_push_of_some _ ho1);have keep:∀b o,b≠a->s.heap.get? b=some o->((vB 0).push (seqObj "list" #[] 0)).get? b=some o:=λb o hb e=>by
  refine Heap.get?_push_of_some _ (Heap.get?_push_of_some _ ?_);rw[Heap.get?_update_ne _ _ _ _ hb];exact e
 show wpAny (model P w) A _ R E { s with heap:=(vB 0).push (seqObj "list" #[] 0) };dsimp only;have fin:∀(st':SortSt) (out:List Value),(arrOf st').map (·.2)=out.toArray->failedOf st'=none->out.Perm vs->(∃p,Gd vs.length p/\SPk (ltI ts) p vs.length/\out=p.toList.map (λi=>vs.getD i Value.none))->wpAny (model P w) A (do
   let touched:=(← seqEpoch a) != e1
   Builtin.List.listUpdate (.ref a) λ_=>(arrOf st').map (·.2)
   if let some e:=failedOf st' then rule "list.sort.comparison-raised";throw e
   if touched then rule "list.sort.modified";raiseError "ValueError" "list modified during sort"
   ret .none) R E { s with heap:=(vB 0).push (seqObj "list" #[] 0) }:=by
  intro st' out e hf hp ⟨p,hg,hsp,ep⟩;refine hEh (hF8 ho6 rfl ?_);refine hEh (hEr ho6 rfl ?_ (hAp _) (by rw[e,hAf,hp.length_eq,hEq];omega));rw[hf];simp only[hFd,hCc,hFh];rw[e];exact hEk (h out p hp hg hsp ep)
 by_cases h2:vs.toArray.size<2
 ·rw[hEn h2,hEn h2];refine hEh (hEk ?_);rw[StateT.run_pure];refine hEh (hEk (fin _ vs ?_ rfl (hDe _) ⟨Rng vs.length,hDv _,λi j hij hj=>absurd hj (by rw[hAf]at h2;omega),(qCm vs).symm⟩));show(vs.toArray.zip vs.toArray).map (·.2)=vs.toArray;apply hEd.mp;rw[Array.toList_map,Array.toList_zip];exact hEe (hAa _)
 ·rw[hEm h2,hEm h2];have hl2:2<=vs.length:=by rw[hAf]at h2;omega
  obtain⟨fs,kt,fl,fa⟩:=qHs (a:=a) keep ht hna;refine hEh (kat_kind (T:=.type "str") kt (by omega) (λv hv=>?_) (by decide) ?_)
  ·obtain⟨x,t,rfl⟩:=fa v hv;exact .now
  refine hEh (hEu (kat_run (ks:=vs) (Q:=λst' s'=>s'={ s with heap:=(vB 0).push (seqObj "list" #[] 0) }/\∃out:List Value,(arrOf st').map (·.2)=out.toArray/\failedOf st'=none/\out.Perm vs/\∃p,Gd vs.length p/\SPk (ltI ts) p vs.length/\out=p.toList.map (λi=>vs.getD i Value.none)) (G:=λp s'=>s'={ s with heap:=(vB 0).push (seqObj "list" #[] 0) }/\Gd vs.length p/\SPk (ltI ts) p vs.length) rfl hl2 h64 (λp st' s' a1 a2 a3 a4=>?_) ?_) ?_ λ_ _ e=>e)
  ·obtain⟨rfl,g,sp⟩:=a4;refine⟨rfl,_,kat_snds rfl a2,a3,?_,p,g,sp,rfl⟩;have q:=(hBg.mp g).map λi=>vs.getD i Value.none
   exact q.trans (hDg (qCm vs))
  ·refine qJ2 (qTb ts) (λi j C hi hj hC=>?_) (by omega) λp g sp=>⟨rfl,g,sp⟩
   obtain⟨x1,y1,z1,v1,w1⟩:=qJr keep ht hna hi;obtain⟨x2,y2,z2,v2,w2⟩:=qJr keep ht hna hj;show wpAny _ _ (keyLt' _ (vs.getD i Value.none) (vs.getD j Value.none)) C _ _;rw[v1,v2];obtain⟨o1,g1,c1,n1,d1⟩:=z1;obtain⟨o2,g2,c2,n2,d2⟩:=z2;have l1:y1.size=(ts.getD i []).length:=by rw[<-w1.strs];simp
   have l2:y2.size=(ts.getD j []).length:=by rw[<-w2.strs];simp
   exact kat_lt g1 d1 g2 d2 (qLw 0 w1 w2 hC (by rw[l1,l2]))
  ·rintro⟨⟨⟩,st'⟩ s' ⟨rfl,out,q1,q2,q3,q4⟩;exact fin st' out q1 q2 q3 q4
end
theorem qL0(g:Gd n o)(hi:i∈o.toList):i<n:=by
 have:=(hBg.mp g).mem_iff.mp hi
 simpa using this
theorem qPq(g:Gd n o):o.toList.length=n:=by
 have:=g.size
 simpa using this
theorem qId{as:List Addr}{l:List Nat}(h:∀i∈l,i<as.length):l.map (λi=>(as.map Value.ref).getD i Value.none)=(l.map λi=>as.getD i 0).map Value.ref:=by
 rw[hB6];refine hBs λi hi=>?_
 have:=h i hi;show(as.map Value.ref).getD i Value.none=Value.ref (as.getD i 0);rw[hA7,hA7,hAi,hA2 this];rfl
section
variable{X:Cx}
theorem qKr:qB2 X (.builtin "sorted") (λxs H Q=>∃(p:Addr) (as:List Addr) (ts:List (List Str)),xs=[.ref p]/\SqL X.K H p (as.map V.ref)/\Paired (λa t=>SqT X.K H a (t.map V.str)/\t≠[]) as ts/\as.length<64/\∀(r:Addr) (o:Array Nat),H r=none->Gd as.length o->SPk (ltI ts) o as.length->Q (.ref r) (upd H r (.lst ((o.toList.map λi=>as.getD i 0).map V.ref)))):=by
 intro aB s σ H xs us Q I r h;obtain⟨p,as,ts,rfl,hq,ht,h64,q⟩:=h;obtain⟨u,rfl,rx⟩:=qCy r;cases rx;obtain⟨its,rv,pl,hz⟩:=I.list hq;have ei:=qE1 rv;subst ei;refine Calls.call_function_entry hFu hFo hFp (args_sorted1 _) ?_;unfold Builtin.«sorted»;refine hEh (m:=checkCount "sorted" 1 1 _) (hEk (hEh (hFw pl.isList ?_ (by rw[hA1,hEq];omega))));refine hEh (hEy ?_ (by rw[hA1,hEq];omega));have hsz:(vC 0).objs.size=s.heap.objs.size+1:=by rw[Heap.size_update,hFn]
 have hoL:((vC 0).push (seqObj "list" (as.map Value.ref).toArray 0)).get? (s.heap.objs.size+1)=some (seqObj "list" (as.map Value.ref).toArray 0):=by
  rw[<-hsz];exact Heap.get?_push_size _ rfl
 have keep:∀b o,s.heap.get? b=some o->((vC 0).push (seqObj "list" (as.map Value.ref).toArray 0)).get? b=some o:=λb o e=>by
  have hlt:b<s.heap.objs.size:=Heap.lt_size e;rw[Heap.get?_push_ne _ _ _ (by rw[hsz];exact hAu (hBv hlt)),Heap.get?_update_ne _ _ _ _ (hAu hlt),Heap.get?_push_ne _ _ _ (hAu hlt)];exact e
 show wpAny _ _ _ _ _ { s with heap:=(vC 0).push (seqObj "list" (as.map Value.ref).toArray 0) };rw[hsz];have tp:=qRa (h':=(vC 0).push (seqObj "list" (as.map Value.ref).toArray 0)) I keep ht;refine hEh (hEt (hEs slot_list_sort ⟨_,hoL,rfl⟩ entry_list_sort (qQl hoL tp (by rw[hA1];exact h64) (λv hv z=>?_) λout o hp hg hsp eo=>⟨_,rfl,?_⟩) (hFy _)))
 ·obtain⟨b,hb,e⟩:=hAb.mp hv;rw[<-e]at z;injection z with z
  have lt:=qRb I ht b hb;exact absurd lt (by rw[z];exact Nat.not_lt_of_le (hBk _))
 rw[hA1]at hg hsp;rw[qId λi hi=>qL0 hg hi]at eo;subst eo;have nz:H (s.heap.objs.size+1)=none:=I.hok.fresh (hBk _);obtain⟨e,he⟩:=hFv s.heap (as.map Value.ref) ((o.toList.map λi=>as.getD i 0).map Value.ref).toArray;refine hEk ⟨_,rfl,.ref (s.heap.objs.size+1),_,I.laid (t':=s.toks) (a:=s.heap.objs.size+1) (o:=.lst ((o.toList.map λi=>as.getD i 0).map V.ref)) (h':=sortedAll s.heap (as.map Value.ref) ((o.toList.map λi=>as.getD i 0).map Value.ref).toArray) (λb o eb=>hFq eb) (hBk _) ⟨?_,(o.toList.map λi=>as.getD i 0).map Value.ref,e,qD3 _,he⟩,rfl,q _ o nz hg hsp⟩;rw[hA1,hA1,qPq hg];exact hB5 (qAf (by omega))
end
end L2
namespace L2
open PySem PySem.Spec PyProof.Rows PySem.W
open AutoSeq1 (wpAny_loadPart')
open MeetsSeq MeetsSeq2 MeetsSeq3 SeqRoads2
theorem qJu(h:StrsAre vs x):∀ {i:Nat},i<vs.length->∃t,vs[i]?=some (.str (x.getD i "") t):=by
 induction h with
 |nil=>intro i hi;exact absurd hi (hC5 _)
 |cons p t r ih =>
  intro i hi;cases i with
  |zero=>exact⟨t,rfl⟩
  |succ i=>simpa using ih (i:=i) (by simpa using hi)
theorem qTv{x:List Str}{i:Nat}(h:i<x.length):x.drop i=x.getD i "" :: x.drop (i+1):=by
 rw[hCp h,hA7,hA2 h];rfl
theorem qWo(l b:Addr)(items items2:Array Value)(n n2:Nat)(dd dd2:Option Addr)(sl sl2:Array (Option Value))(x y:List Str)(hx:StrsAre items.toList x)(hy:StrsAre items2.toList y):∀(k i:Nat),items.size-i=k->i<=items.size->i<=items2.size ->
  Meets (Builtin.«list.__eq__.loop» ⟨[.ref l,.ref b,rawInt i,rawInt 0],[]⟩)
   (λA R s=>(s.heap.get? l=some { cls:=.type "list",dict:=dd,data:=.seq items n,slots:=sl }/\s.heap.get? b=some { cls:=.type "list",dict:=dd2,data:=.seq items2 n2,slots:=sl2 })/\R (.ok (.ret (.bool (ltL (x.drop i) (y.drop i))))) s):=by
 have lx:items.size=x.length:=by rw[<-hx.strs];simp
 have ly:items2.size=y.length:=by rw[<-hy.strs];simp
 intro k
 induction k with
 |zero =>
  intro i hk h1 h2 prog w A R s h;obtain⟨hp,g,d,tk,os⟩:=s;obtain⟨⟨hl,hb⟩,h⟩:=h;have e1:i=items.size:=by omega
  have q1:items[((i:Nat):Int).toNat]?=none:=by simp;omega
  wp_walk using hEo hl,hEo hb
  rw[q1]
  wp_walk using hEo hl,hEo hb
  have dx:x.drop i=[]:=by simp;omega
  rw[dx]at h;show R (.ok (.ret (.bool (decide (items.size<items2.size))))) _;cases hd:y.drop i with
  |nil =>
   rw[hd]at h;have:y.length<=i:=by simpa using hd
   rw[hEj (by omega)];exact h
  |cons a r =>
   rw[hd]at h;have:i<y.length:=by
    have:=congrArg List.length hd;rw[List.length_drop,hCb]at this;omega
   rw[hEi (by omega)];exact h
 |succ k ih =>
  intro i hk h1 h2 prog w A R s h;obtain⟨hp,g,d,tk,os⟩:=s;obtain⟨⟨hl,hb⟩,h⟩:=h;have hlt:i<items.size:=by omega
  obtain⟨t1,q1⟩:=qJu hx (i:=i) (by simpa using hlt);rw[hBh]at q1;have q1':items[((i:Nat):Int).toNat]?=some (.str (x.getD i "") t1):=q1;have dx:=qTv (x:=x) (i:=i) (by omega)
  wp_walk using hEo hl,hEo hb
  rw[q1'];by_cases hlt2:i<items2.size
  ·obtain⟨t2,q2⟩:=qJu hy (i:=i) (by simpa using hlt2);rw[hBh]at q2;have q2':items2[((i:Nat):Int).toNat]?=some (.str (y.getD i "") t2):=q2;have dy:=qTv (x:=y) (i:=i) (by omega);have hc:((i:Int)+1)=((i+1:Nat):Int):=by push_cast;rfl
   rw[dx,dy]at h;unfold ltL at h;rw[q2'];refine hEh (wpAny_eqBool_str ?_);by_cases e:x.getD i ""=y.getD i ""
   ·rw[hEn e]at h;rw[hEi e]
    wp_walk
    rw[hc];exact⟨hF0 plain_eq_loop _,hEv entry_eq_loop (by
     rw[Around.under_plainId plain_eq_loop _];exact ih (i+1) (by omega) (by omega) (by omega) prog w A R _ ⟨⟨hl,hb⟩,h⟩)⟩
   ·rw[hEm e]at h;rw[hEj e]
    wp_walk using hEo hl,hEo hb
    rw[q1',q2'];refine hEh (richCompare_gives (op:=.Lt) (typeIs_str _ _ _) (typeIs_str _ _ _) F.slot_str_lt F.entry_str_lt (F.args_str_lt_2 _ _) (gives_str_lt _ _ _ _) (λe=>nomatch e) ?_);exact hEk h
  ·have q2':items2[((i:Nat):Int).toNat]?=none:=by simp;omega
   rw[q2']
   wp_walk using hEo hl,hEo hb
   have dy:y.drop i=[]:=by simp;omega
   rw[dx,dy]at h;show R (.ok (.ret (.bool (decide (items.size<items2.size))))) _;rw[hEj (by omega)];exact h
theorem qPh(l b:Addr)(items items2:Array Value)(n n2:Nat)(dd dd2:Option Addr)(sl sl2:Array (Option Value))(x y:List Str)(hx:StrsAre items.toList x)(hy:StrsAre items2.toList y) :
  Meets (Builtin.«list.__lt__» ⟨[.ref l,.ref b],[]⟩)
   (λA R s=>(s.heap.get? l=some { cls:=.type "list",dict:=dd,data:=.seq items n,slots:=sl }/\s.heap.get? b=some { cls:=.type "list",dict:=dd2,data:=.seq items2 n2,slots:=sl2 })/\R (.ok (.ret (.bool (ltL x y)))) s):=by
 intro prog w A R s h;obtain⟨hp,g,d,tk,os⟩:=s;obtain⟨⟨hl,hb⟩,h⟩:=h;have f3:=AutoSeq1.sub_list_list
 wp_walk using hEo hl,hEo hb
 exact⟨hF0 plain_eq_loop _,hEv entry_eq_loop (by
  rw[Around.under_plainId plain_eq_loop _];exact qWo l b items items2 n n2 dd dd2 sl sl2 x y hx hy _ 0 rfl (hAp _) (hAp _) prog w A R _ ⟨⟨hl,hb⟩,h⟩)⟩
theorem qNm(hu:A.units<cLine)(hl:s.heap.IsList l items)(hb:s.heap.IsList b items2)(hx:StrsAre items.toList x)(hy:StrsAre items2.toList y)
  (h:Q (ltL x y) s):wpAny (model P w) A (keyLt' oneType' (.ref l) (.ref b)) Q E s:=by
 obtain⟨⟨cls,dd,data,sl⟩,ho,hc,n,hd⟩:=hl;obtain⟨⟨cls2,dd2,data2,sl2⟩,ho2,hc2,n2,hd2⟩:=hb;simp only at hc hd hc2 hd2;subst hc hd hc2 hd2;rw[keyLt'_oneType,oneLt'_eq];simp only[if_true];refine hEh (wpAny_cRoomFor hu ?_);refine hEh (wpAny_callSpecialIfBound?_slot (⟨_,ho,rfl⟩:s.TypeIs (.ref l) "list") F.slot_list_lt (hFc F.slot_list_lt ⟨_,ho,rfl⟩ F.entry_list_lt (F.args_list_lt_2 _ _) (qPh l b items items2 n n2 dd dd2 sl sl2 x y hx hy) ⟨⟨ho,ho2⟩,?_⟩));exact hEw h
end L2
namespace L2
open PySem PySem.Spec PyProof.Rows PySem.W
def qUt(h:Heap)(v:Value)(t:List Str):Prop:=∃a its,v = .ref a/\h.IsList a its/\StrsAre its.toList t
theorem qLr:∀ {vs:List Value} {ts:List (List Str)},Paired (qUt h) vs ts->∀v∈vs,∃t∈ts,qUt h v t
 |_,_,.nil,v,hv=>by cases hv
 |_,_,.cons x r,v,hv=>by
  rcases hAg.mp hv with z|z
  ·subst z;exact⟨_,hA6,x⟩
  ·obtain⟨t,ht,q⟩:=qLr r v z;exact⟨t,hA4 _ ht,q⟩
section
variable{P:Program}{w:World}{A:Around}{E:Value->Shared->Prop}{s:Shared}
theorem qIh{h h':Heap}{a:Addr}(k:∀b o,b≠a->h.get? b=some o->h'.get? b=some o):∀ {vs:List Value} {ts:List (List Str)} {i:Nat},Paired (qUt h) vs ts->(∀v∈vs,v≠.ref a)->i<vs.length->∃(b:Addr) (its:Array Value),h'.IsList b its/\vs.getD i Value.none = .ref b/\StrsAre its.toList (ts.getD i [])
 |_,_,i,.nil,_,hi=>absurd hi (hC5 _)
 |_,_,0,@Paired.cons _ _ _ v t l1 l2 hh tt,hn,_=>by
  obtain⟨b,its,rfl,⟨o,g,c,n,d⟩,st⟩:=hh;have nb:b≠a:=λz=>hn _ hA6 (by rw[z])
  exact⟨b,its,⟨o,k b o nb g,c,n,d⟩,rfl,st⟩
 |_,_,i+1,@Paired.cons _ _ _ v t l1 l2 hh tt,hn,hi=>qIh (i:=i) k tt (λu hu=>hn u (hA4 _ hu)) (by simpa using hi)
theorem qMv(hu:A.units<cLine)(ho:s.heap.get? a=some (seqObj "list" vs.toArray n))(ht:Paired (qUt s.heap) vs ts)(h64:vs.length<64)(hna:∀v∈vs,v≠.ref a)
  (h:∀(out:List Value) (p:Array Nat),out.Perm vs->Gd vs.length p->SPk (ltI ts) p vs.length->out=p.toList.map (λi=>vs.getD i Value.none)->R (.done (.ret .none)) { s with heap:=sortedHeap s.heap a vs out.toArray }):wpAny (model P w) A (Builtin.«list.sort» ⟨[.ref a],[]⟩) R E s:=by
 rw[list_sort_plain];have ha:a<s.heap.objs.size:=Heap.lt_size ho;refine hEh (hFg ho rfl (hEh (hEr ho rfl ?_ (by rw[hAf,hEq];omega) (hAp _))));obtain⟨e1,ho1⟩:∃e1,(s.heap.update a (Obj.mapSeq λ_=>#[])).get? a=some (seqObj "list" #[] e1):=⟨_,get?_update_seq ho (λ_=>#[])⟩;refine hEh (hF8 ho1 rfl (hEh (hFe ?_ (by show vs.length<=_;rw[hEq];omega))));refine hEh (hEy ?_ (hAp _));refine hEt ?_;have ho6:((vB 0).push (seqObj "list" #[] 0)).get? a=some (seqObj "list" #[] e1):=Heap.get?_push_of_some _ (Heap.get?_push_of_some _ ho1);have keep:∀b o,b≠a->s.heap.get? b=some o->((vB 0).push (seqObj "list" #[] 0)).get? b=some o:=λb o hb e=>by
  refine Heap.get?_push_of_some _ (Heap.get?_push_of_some _ ?_);rw[Heap.get?_update_ne _ _ _ _ hb];exact e
 show wpAny (model P w) A _ R E { s with heap:=(vB 0).push (seqObj "list" #[] 0) };dsimp only;have fin:∀(st':SortSt) (out:List Value),(arrOf st').map (·.2)=out.toArray->failedOf st'=none->out.Perm vs->(∃p,Gd vs.length p/\SPk (ltI ts) p vs.length/\out=p.toList.map (λi=>vs.getD i Value.none))->wpAny (model P w) A (do
   let touched:=(← seqEpoch a) != e1
   Builtin.List.listUpdate (.ref a) λ_=>(arrOf st').map (·.2)
   if let some e:=failedOf st' then rule "list.sort.comparison-raised";throw e
   if touched then rule "list.sort.modified";raiseError "ValueError" "list modified during sort"
   ret .none) R E { s with heap:=(vB 0).push (seqObj "list" #[] 0) }:=by
  intro st' out e hf hp ⟨p,hg,hsp,ep⟩;refine hEh (hF8 ho6 rfl ?_);refine hEh (hEr ho6 rfl ?_ (hAp _) (by rw[e,hAf,hp.length_eq,hEq];omega));rw[hf];simp only[hFd,hCc,hFh];rw[e];exact hEk (h out p hp hg hsp ep)
 by_cases h2:vs.toArray.size<2
 ·rw[hEn h2,hEn h2];refine hEh (hEk ?_);rw[StateT.run_pure];refine hEh (hEk (fin _ vs ?_ rfl (hDe _) ⟨Rng vs.length,hDv _,λi j hij hj=>absurd hj (by rw[hAf]at h2;omega),(qCm vs).symm⟩));show(vs.toArray.zip vs.toArray).map (·.2)=vs.toArray;apply hEd.mp;rw[Array.toList_map,Array.toList_zip];exact hEe (hAa _)
 ·rw[hEm h2,hEm h2];have hl2:2<=vs.length:=by rw[hAf]at h2;omega
  refine hEh (kas_kind (T:=.type "list") hl2 (λv hv=>?_) (by decide) (by decide) ?_)
  ·obtain⟨t,_,b,its,rfl,⟨o,g,c,_⟩,st⟩:=qLr ht v hv;have nb:b≠a:=λz=>hna _ hv (by rw[z])
   exact kitAt_ty _ _ ⟨o,keep b o nb g,c⟩
  refine hEh (hEu (kat_run (ks:=vs) (Q:=λst' s'=>s'={ s with heap:=(vB 0).push (seqObj "list" #[] 0) }/\∃out:List Value,(arrOf st').map (·.2)=out.toArray/\failedOf st'=none/\out.Perm vs/\∃p,Gd vs.length p/\SPk (ltI ts) p vs.length/\out=p.toList.map (λi=>vs.getD i Value.none)) (G:=λp s'=>s'={ s with heap:=(vB 0).push (seqObj "list" #[] 0) }/\Gd vs.length p/\SPk (ltI ts) p vs.length) rfl hl2 h64 (λp st' s' a1 a2 a3 a4=>?_) ?_) ?_ λ_ _ e=>e)
  ·obtain⟨rfl,g,sp⟩:=a4;refine⟨rfl,_,kat_snds rfl a2,a3,?_,p,g,sp,rfl⟩;have q:=(hBg.mp g).map λi=>vs.getD i Value.none
   exact q.trans (hDg (qCm vs))
  ·refine qJ2 (qTb ts) (λi j C hi hj hC=>?_) (by omega) λp g sp=>⟨rfl,g,sp⟩
   obtain⟨x1,y1,z1,v1,w1⟩:=qIh keep ht hna hi;obtain⟨x2,y2,z2,v2,w2⟩:=qIh keep ht hna hj;show wpAny _ _ (keyLt' _ (vs.getD i Value.none) (vs.getD j Value.none)) C _ _;rw[v1,v2];exact qNm hu z1 z2 w1 w2 hC
  ·rintro⟨⟨⟩,st'⟩ s' ⟨rfl,out,q1,q2,q3,q4⟩;exact fin st' out q1 q2 q3 q4
end
section
variable{X:Cx}
theorem qHk(I:Inv X aB σ H s)(k:∀b o,s.heap.get? b=some o->h'.get? b=some o):∀ {as:List Addr} {ts:List (List Str)},Paired (λa t=>SqL X.K H a (t.map V.str)) as ts->Paired (qUt h') (as.map Value.ref) ts
 |_,_,.nil=>.nil
 |_,_,.cons h t=>by
  obtain⟨its,rv,⟨o,n,e,c,_,dt⟩,_⟩:=I.list h;exact .cons ⟨_,its.toArray,rfl,⟨o,k _ _ e,c,_,dt⟩,by simpa using qEh rv⟩ (qHk I k t)
theorem qPg(I:Inv X aB σ H s):∀ {as:List Addr} {ts:List (List Str)},Paired (λa t=>SqL X.K H a (t.map V.str)) as ts->∀b∈as,b<s.heap.objs.size
 |_,_,.nil,b,hb=>by cases hb
 |_,_,.cons h t,b,hb=>by
  rcases hAg.mp hb with z|z
  ·subst z;obtain⟨its,rv,⟨o,n,e,_⟩,_⟩:=I.list h;exact Heap.lt_size e
  ·exact qPg I t b z
theorem qDx(hu:X.A.units+2<cLine):qB2 X (.builtin "sorted") (λxs H Q=>∃(p:Addr) (as:List Addr) (ts:List (List Str)),xs=[.ref p]/\SqL X.K H p (as.map V.ref)/\Paired (λa t=>SqL X.K H a (t.map V.str)) as ts/\as.length<64/\∀(r:Addr) (o:Array Nat),H r=none->Gd as.length o->SPk (ltI ts) o as.length->Q (.ref r) (upd H r (.lst ((o.toList.map λi=>as.getD i 0).map V.ref)))):=by
 intro aB s σ H xs us Q I r h;obtain⟨p,as,ts,rfl,hq,ht,h64,q⟩:=h;obtain⟨u,rfl,rx⟩:=qCy r;cases rx;obtain⟨its,rv,pl,hz⟩:=I.list hq;have ei:=qE1 rv;subst ei;refine Calls.call_function_entry hFu hFo hFp (args_sorted1 _) ?_;unfold Builtin.«sorted»;refine hEh (m:=checkCount "sorted" 1 1 _) (hEk (hEh (hFw pl.isList ?_ (by rw[hA1,hEq];omega))));refine hEh (hEy ?_ (by rw[hA1,hEq];omega));have hsz:(vC 0).objs.size=s.heap.objs.size+1:=by rw[Heap.size_update,hFn]
 have hoL:((vC 0).push (seqObj "list" (as.map Value.ref).toArray 0)).get? (s.heap.objs.size+1)=some (seqObj "list" (as.map Value.ref).toArray 0):=by
  rw[<-hsz];exact Heap.get?_push_size _ rfl
 have keep:∀b o,s.heap.get? b=some o->((vC 0).push (seqObj "list" (as.map Value.ref).toArray 0)).get? b=some o:=λb o e=>by
  have hlt:b<s.heap.objs.size:=Heap.lt_size e;rw[Heap.get?_push_ne _ _ _ (by rw[hsz];exact hAu (hBv hlt)),Heap.get?_update_ne _ _ _ _ (hAu hlt),Heap.get?_push_ne _ _ _ (hAu hlt)];exact e
 show wpAny _ _ _ _ _ { s with heap:=(vC 0).push (seqObj "list" (as.map Value.ref).toArray 0) };rw[hsz];have tp:=qHk (h':=(vC 0).push (seqObj "list" (as.map Value.ref).toArray 0)) I keep ht;refine hEh (hEt (hEs slot_list_sort ⟨_,hoL,rfl⟩ entry_list_sort (qMv ?hu hoL tp (by rw[hA1];exact h64) (λv hv z=>?_) λout o hp hg hsp eo=>⟨_,rfl,?_⟩) (hFy _)))
 case hu=>omega
 ·obtain⟨b,hb,e⟩:=hAb.mp hv;rw[<-e]at z;injection z with z
  have lt:=qPg I ht b hb;exact absurd lt (by rw[z];exact Nat.not_lt_of_le (hBk _))
 rw[hA1]at hg hsp;rw[qId λi hi=>qL0 hg hi]at eo;subst eo;have nz:H (s.heap.objs.size+1)=none:=I.hok.fresh (hBk _);obtain⟨e,he⟩:=hFv s.heap (as.map Value.ref) ((o.toList.map λi=>as.getD i 0).map Value.ref).toArray;refine hEk ⟨_,rfl,.ref (s.heap.objs.size+1),_,I.laid (t':=s.toks) (a:=s.heap.objs.size+1) (o:=.lst ((o.toList.map λi=>as.getD i 0).map V.ref)) (h':=sortedAll s.heap (as.map Value.ref) ((o.toList.map λi=>as.getD i 0).map Value.ref).toArray) (λb o eb=>hFq eb) (hBk _) ⟨?_,(o.toList.map λi=>as.getD i 0).map Value.ref,e,qD3 _,he⟩,rfl,q _ o nz hg hsp⟩;rw[hA1,hA1,qPq hg];exact hB5 (qAf (by omega))
end
end L2
namespace L2
open PySem PySem.Spec PyProof.Rows
end L2
namespace L2
open PySem PySem.Spec PyProof.Rows PySem.W
abbrev Srt(a:List (List Str)):Prop:=a.Pairwise λx y=>ltL y x=false
theorem qNq(ts:List (List Str)):(List.range ts.length).map (λi=>ts.getD i [])=ts:=by
 refine hCs λi=>?_
 by_cases hi:i<ts.length
 ·rw[hAi,hCq hi,hA2 hi];show some (ts.getD i [])=_;rw[hA7,hA2 hi];rfl
 ·rw[hB7 (by simp;omega),hB7 (by omega)]
theorem qEm(g:Gd ts.length o)(sp:SPk (ltI ts) o ts.length):Srt (o.toList.map λi=>ts.getD i [])/\(o.toList.map λi=>ts.getD i []).Perm ts:=by
 have sz:=g.size;refine⟨?_,?_⟩
 ·rw[Srt,hD3];intro i j hi hj hij;rw[hA1]at hi hj;have h:=sp i j hij (by simpa [sz] using hj);rw[List.getElem_map,List.getElem_map];have e:∀k (hk:k<o.toList.length),o.getD k 0=o.toList[k]:=λk hk=>by
   have hk':k<o.size:=by simpa using hk
   simp[Array.getD,hk']
  rw[e i hi,e j hj]at h;exact h
 ·have q:=(hBg.mp g).map λi=>ts.getD i []
  exact q.trans (hDg (qNq ts))
theorem qHc:∀ {a b:List (List Str)},Srt a->Srt b->a.Perm b->a=b
 |[],b,_,_,p=>(List.nil_perm.mp p).symm▸rfl
 |x :: a,[],_,_,p=>by have:=p.length_eq;simp at this
 |x :: a,y :: b,ha,hb,p=>by
  obtain⟨a1,a2⟩:=hAr.mp ha;obtain⟨b1,b2⟩:=hAr.mp hb;have e:x=y:=by
   rcases hAg.mp (p.mem_iff.mp hA6) with z|z
   ·exact z
   ·rcases hAg.mp (p.mem_iff.mpr hA6) with w'|w'
    ·exact w'.symm
    ·have h1:=b1 x z;have h2:=a1 y w';rcases qIg x y with q|q|q
     ·rw[q]at h1;cases h1
     ·exact q
     ·rw[q]at h2;cases h2
  subst e;rw[qHc a2 b2 ((List.perm_cons _).mp p)]
end L2
namespace L2
open PySem PySem.Spec PyProof.Rows
theorem qG7(hN:X.N=N)(hsc:X.env.scope=sc)
  (O:CmpOk N sc N' scope sub) (hc:X.calm=true) (hi:PI X target iter wi)
  (B:∀C s H fp,PG (qCn X scope N' C s H fp) target g/\PTs (qCn X scope N' C s H fp) ifs tt/\PE (qCn X scope N' C s H fp) elt te)
  (hs:∀x,foldedSetIterable iter X.env x=pure x:=by intro _;rfl):PE X (.ListComp elt [⟨target,iter,ifs,0⟩] scope pos) (qQj sub wi g tt te) :=
 qZ5 hc (by rw[hN,hsc];exact O) hi B hs
theorem qV5(hN:X.N=N)(hsc:X.env.scope=sc)
  (O:CmpOk N sc N' scope sub) (hc:X.calm=true) (hi:PI X target iter wi)
  (B:∀C s H fp,PG (qCn X scope N' C s H fp) target g/\PTs (qCn X scope N' C s H fp) ifs tt/\PE (qCn X scope N' C s H fp) elt te)
  (nd:X.N.Nodup) (hy:X.N[i]?=some y) (hx:Loc X.env.scope y)
  (hsw:swapsWith (.ListComp elt [⟨target,iter,ifs,0⟩] scope pos) (some (.Name y py)) spos.line X.env=pure true:=by rfl)
  (hs:∀x,foldedSetIterable iter X.env x=pure x:=by intro _;rfl) (hf:X.fn y=true\/X.env.scope.names.lookup y=some .local:=by first|exact .inl rfl|exact .inr rfl|assumption) :
  PS X (.Assign [.Name y py] (.ListComp elt [⟨target,iter,ifs,0⟩] scope pos) spos) (zB4 (qQj sub wi g tt te) (qNs i)) :=
 qZx hc (by rw[hN,hsc];exact O) hi B nd hy hx hsw hs hf
theorem qA7{X:Cx}{y:Str}{py:Pos}{iter elt:Expr}{ifs:List Expr}{scope sc:Scope}{pos:Pos}{N N':List Str}{sub:List (Option Nat)}{wi:TI}{tt:TT}{te:TE}(hi:PI X (.Name y py) iter wi)
  (B:∀C s H fp,PTs (qCn X scope N' C s H fp) ifs tt/\PE (qCn X scope N' C s H fp) elt te) (hN:X.N=N:=by rfl) (hsc:X.env.scope=sc:=by rfl)
  (O:CmpOk N sc N' scope sub:=by exact CmpOk.of (by decide +kernel)) (hc:X.calm=true:=by rfl) (nd:N'.Nodup:=by decide) (h0:N'[0]?=some y:=by rfl) (hl:∀C s H fp,Loc (qCn X scope N' C s H fp).env.scope y:=by intro _ _ _ _;exact Or.inl rfl) (hg:∀C s H fp,(qCn X scope N' C s H fp).fn y=true\/(qCn X scope N' C s H fp).env.scope.names.lookup y=some .local:=by intro _ _ _ _;exact .inl rfl)
  (hs:∀x,foldedSetIterable iter X.env x=pure x:=by intro _;rfl):PE X (.ListComp elt [⟨.Name y py,iter,ifs,0⟩] scope pos) (qQj sub wi (qNs 0) tt te) :=
 qG7 hN hsc O hc hi (λC s H fp=>⟨qAm (i:=0) nd h0 (hl C s H fp) (hg C s H fp),B C s H fp⟩) hs
theorem qD0{X:Cx}{z:Str}{pz:Pos}{iter elt:Expr}{ifs:List Expr}{scope sc:Scope}{pos:Pos}{N N':List Str}{sub:List (Option Nat)}{wi:TI}{tt:TT}{te:TE}{i:Nat}{y:Str}{py spos:Pos}(hi:PI X (.Name z pz) iter wi)
  (B:∀C s H fp,PTs (qCn X scope N' C s H fp) ifs tt/\PE (qCn X scope N' C s H fp) elt te)
  (nd:X.N.Nodup) (hy:X.N[i]?=some y) (hx:Loc X.env.scope y) (hN:X.N=N:=by rfl) (hsc:X.env.scope=sc:=by rfl)
  (O:CmpOk N sc N' scope sub:=by exact CmpOk.of (by decide +kernel)) (hc:X.calm=true:=by rfl) (nd':N'.Nodup:=by decide) (h0:N'[0]?=some z:=by rfl) (hl:∀C s H fp,Loc (qCn X scope N' C s H fp).env.scope z:=by intro _ _ _ _;exact Or.inl rfl) (hg:∀C s H fp,(qCn X scope N' C s H fp).fn z=true\/(qCn X scope N' C s H fp).env.scope.names.lookup z=some .local:=by intro _ _ _ _;exact .inl rfl)
  (hsw:swapsWith (.ListComp elt [⟨.Name z pz,iter,ifs,0⟩] scope pos) (some (.Name y py)) spos.line X.env=pure true:=by rfl)
  (hs:∀x,foldedSetIterable iter X.env x=pure x:=by intro _;rfl) (hf:X.fn y=true\/X.env.scope.names.lookup y=some .local:=by first|exact .inl rfl|exact .inr rfl|assumption) :
  PS X (.Assign [.Name y py] (.ListComp elt [⟨.Name z pz,iter,ifs,0⟩] scope pos) spos) (zB4 (qQj sub wi (qNs 0) tt te) (qNs i)) :=
 qV5 hN hsc O hc hi (λC s H fp=>⟨qAm (i:=0) nd' h0 (hl C s H fp) (hg C s H fp),B C s H fp⟩) nd hy hx hsw hs hf
end L2
namespace My
open PySem L2
structure Cl(P:Program)(w:World)(K:PySem.W.Frag)(mg:Str->Option Value)(base:Heap)(CX:CXT)(k:Nat)(f:Addr)(fd:FuncData)(ps:List Str)(sp:Sp)(n:Str):Prop where
 g:FnOk P w K mg base CX k f fd ps sp
 b:qN5 K fd ps []
 k:PySem.W.keepIn K (.ref f)=true
 m:mg n=some (.ref f)
theorem qAv{X:Cx}{CX:CXT}{k:Nat}{f:Addr}{fd:FuncData}{ps:List Str}{sp:Sp}{x:Str}{dvs:List V}{E:XK}{e:Expr}{es:List Expr}{t:TA}{p pos:Pos}(G:Cl X.prog X.w X.K X.mg X.base CX k f fd ps sp x)(hr:Room k X.A)(hg:Gl X x)(hd:qBn dvs [])(hx:qQc CX X E)
  (ha:PA X (e :: es) t) (hdb:(x == ("__debug__" : Str))=false:=by decide) (he:starEach (e :: es) X.env=(false,eval e X.env) :: starEach es X.env:=by rfl) (hpl:(backTo pos (starEach es X.env)).any (·.1)=false:=by rfl):PE X (.Call (.Name x p) (e :: es) [] pos) (zB3 sp dvs E t):=qNf G.g hr hg G.m G.k G.b hd hx ha hdb he hpl
noncomputable def top(i:Nat):Stmt:=PySem.Challenge.pw_roundsalone_k31_shares.main.body.getD i (.Pass ⟨0,0,0,0⟩)
noncomputable abbrev qVk:Stmt:=top 1
noncomputable abbrev qI8:Stmt:=top 2
noncomputable abbrev qZj:Stmt:=top 3
noncomputable abbrev qVj:Stmt:=top 4
noncomputable abbrev qOn:Stmt:=top 6
noncomputable abbrev qM5:Stmt:=top 8
noncomputable abbrev qM4:Stmt:=top 9
noncomputable abbrev qZi:Stmt:=top 10
noncomputable abbrev qZm:Stmt:=top 12
noncomputable abbrev qI7:Stmt:=top 13
noncomputable abbrev qR7:Stmt:=top 14
noncomputable abbrev qGe:Stmt:=top 15
noncomputable abbrev qR8:Stmt:=top 16
noncomputable abbrev qZl:Stmt:=top 17
noncomputable abbrev qJ7:Stmt:=top 18
noncomputable abbrev qM7:Stmt:=top 19
noncomputable abbrev qOp:Stmt:=top 20
noncomputable abbrev qH1:Stmt:=top 21
noncomputable abbrev qH2:Stmt:=top 22
noncomputable abbrev qD7:Stmt:=top 23
noncomputable abbrev qZn:Stmt:=top 25
noncomputable abbrev zEi:Stmt:=top 26
noncomputable abbrev qOo:Stmt:=top 27
noncomputable abbrev qVt:Stmt:=top 28
noncomputable abbrev zEg:Stmt:=top 29
noncomputable abbrev qVo:Stmt:=top 30
noncomputable abbrev qLa:Stmt:=top 31
noncomputable abbrev qR6:Stmt:=top 32
noncomputable abbrev qM6:Stmt:=top 33
noncomputable abbrev qVp:Stmt:=top 34
noncomputable abbrev qVn:Stmt:=top 35
noncomputable abbrev qVq:Stmt:=top 36
noncomputable abbrev qZk:Stmt:=top 37
noncomputable abbrev qVm:Stmt:=top 38
noncomputable abbrev qVl:Stmt:=top 39
noncomputable abbrev qG6:Stmt:=top 40
noncomputable abbrev qVr:Stmt:=top 41
noncomputable abbrev qQp:Stmt:=top 42
noncomputable abbrev qVs:Stmt:=top 43
noncomputable abbrev qK9:Stmt:=top 44
noncomputable abbrev qR5:Stmt:=top 45
noncomputable abbrev qQq:Stmt:=top 46
noncomputable abbrev qEt:Stmt:=top 47
noncomputable abbrev qQo:Stmt:=top 48
theorem qDl(h:n<=5000):n<sizeLine:=hDo h (by decide)
def Ext(H H':Hp):Prop:=∀b o,H b=some o->H' b=some o
theorem Ext.refl(H:Hp):Ext H H:=λ_ _ h=>h
theorem Ext.trans(a:Ext H H1)(b:Ext H1 H2):Ext H H2:=λc o h=>b c o (a c o h)
theorem Ext.new(h:H p=none)(o:HO):Ext H (upd H p o):=λb u q=>by rw[qAk (qAo q h)];exact q
theorem Ext.none(e:Ext H H')(h:H' p=none):H p=none:=by
 cases q:H p with
 |none=>rfl
 |some o=>rw[e p o q]at h;cases h
theorem Ext.sqL(e:Ext H H')(h:SqL K H a xs):SqL K H' a xs:=by
 rcases h with (h|⟨o,h⟩)|h
 ·exact .inl (.inl (e _ _ h))
 ·exact .inl (.inr ⟨o,e _ _ h⟩)
 ·exact .inr h
def qXv(K:PySem.W.Frag):Sp:=λvs H Q _=>∃(a:Addr) (ns:List Int) (k:Int),vs=[.ref a,.int k]/\SqL K H a (ns.map V.int)/\0<=k/\∀v,Q (.int v) H
section
variable{P:Program}{w:World}{K:PySem.W.Frag}{mg:Str->Option Value}{base:Heap}{f f1:Addr}{fd fd1:FuncData}
theorem zCh:FnScope ["_law_script","_law_k"] ["_law_script","_law_k"] (qAc qZn):=fsk
theorem zAu(F:Fun K "_law_cell_at" "_law_cell_at" qZn f fd)(ml:mg "len"=none):v8 1 f fd ["_law_script","_law_k"] (qXv K):=by
 refine F.okA zCh λcdv A outer s H vs Q E hr h=>?_
 obtain⟨a,ns,k,rfl,hS,h0,q⟩:=h;refine⟨_,qAa (qBj (qAn qFq (pv 1) (qAh qAi rfl ml hAt (pa1 (pv 0))) (nomark _)) (qAd (qAt (qBh qBx (pv 0) (pv 1) (λ_ _=>rfl)))) qAx) (qAd (qAt qAb)),?_⟩;refine⟨_,rfl,_,rfl,a,_,rfl,.inl hS,_,_,rfl,rfl,_,rfl,?_⟩;refine qBy (λc=>?_) (λc=>q 0);have c':k<(((ns.map V.int).length:Nat):Int):=hEl c;rw[hA1]at c';have hk:k.toNat<ns.length:=by omega
 have hv:atI (ns.map V.int) ((k.toNat:Nat):Int)=some (.int ns[k.toNat]):=qAy (by rw[hAi,hA2 hk] <;> rfl);rw[hDh h0]at hv;exact⟨_,rfl,_,rfl,a,_,_,_,rfl,rfl,hS,hv,q _⟩
end
theorem qC9:bootBuiltins "isinstance"=some (.builtin "isinstance"):=by decide +kernel
theorem qFy(K:PySem.W.Frag)(t:Value):PySem.W.kitOne K t t=some true:=by unfold PySem.W.kitOne;rw[hEn (hF9 t)]
theorem qMe:bootBuiltins "abs"=some (.builtin "abs"):=by decide +kernel
theorem qNy:bootBuiltins "range"=some (.type "range"):=by decide +kernel
section
variable{σ0:St}{g:TG}{tt:TT}{te:TE}{Q:List V->Hp->Prop}{H1:Hp}
theorem qQf(f:V->Option V)(hS:SqL K H1 a xs)(hz:xs.length<=sizeLine)
  (hs:∀x∈xs,∀C:Option V->Hp->Prop,C (f x) H1->g x σ0 H1 λσ2 H2=>Sle σ0 σ2/\tt σ2 H2 λb H3=>if b=true then te σ2 H3 (λv H4=>C (some v) H4) else C none H3)
  (hd:Q (xs.filterMap f) H1):qEf (Itl K a) σ0 g tt te Q H1:=by
 refine qAq (xs:=xs) (λi ys H=>H=H1/\ys=(xs.take i).filterMap f) ⟨rfl,by simp⟩ (λi ys H _ h=>by rw[h.1];exact hS) ?_ ?_
 ·rintro i x ys H hx ⟨rfl,rfl⟩;have hi:i<xs.length:=(hAm.mp hx).1;have hm:x∈xs:=hAh hx;have tk:(xs.take (i+1)).filterMap f=(xs.take i).filterMap f++(f x).toList:=by
   rw[List.take_add_one,hx,hD5];cases e:f x <;> simp[e]
  have hl:((xs.take i).filterMap f).length<sizeLine:=by
   have h1:=hC0 f (xs.take i);rw[hAk]at h1;omega
  refine hs x hm (λo H4=>match o with|some v=>((xs.take i).filterMap f).length<sizeLine/\Nxt xs.length i _ ((xs.take i).filterMap f++[v]) H4|none=>Nxt xs.length i _ ((xs.take i).filterMap f) H4) ?_;cases e:f x with
  |none=>exact nxt hi ⟨rfl,by rw[tk,e];simp⟩
  |some v=>exact⟨hl,nxt hi ⟨rfl,by rw[tk,e];simp⟩⟩
 ·rintro ys H ⟨rfl,rfl⟩;rw[hA5 (hAa _)];exact hd
end
theorem qNp(n:Str):∀other:List Str,inV (.str n) (other.map V.str)=decide (n∈other)
 |[]=>by simp[inV]
 |x :: r=>by
  have ih:=qNp n r;unfold inV at ih ⊢;rw[hBj,List.any_cons,ih];show(x == n || decide (n∈r))=_;by_cases e:n=x
  ·subst e;simp
  ·have e':¬x=n:=λz=>e z.symm
   simp[e,e']
theorem qL2:∀other:List Str,(other.map V.str).all qIx=true:=λother=>by
 rw[hDa];intro x hx;obtain⟨y,_,rfl⟩:=hAb.mp hx;rfl
def LsS(H:Hp)(a:Addr)(ss:List Str):Prop:=H a=some (.lst (ss.map V.str))
noncomputable abbrev sg:Str:="abcdefghijklmnopqrstuvwxyz0123456789"
noncomputable def sgC(n:Nat):Nat:=sg.cps.toList.getD n 0
theorem qOi:sg.cps.toList.length=36:=by decide +kernel
theorem zEe:sg.cps.toList.Nodup:=by decide +kernel
theorem qVe:∀c∈sg.cps.toList,c<128:=by decide +kernel
theorem zCb(h0:0<=i)(h1:i<36):atI sg.cps.toList i=some (sgC i.toNat):=by
 have hk:i.toNat<sg.cps.toList.length:=by rw[qOi];omega
 have:=qAy (xs:=sg.cps.toList) (j:=i.toNat) (v:=sgC i.toNat) (by
  unfold sgC;rw[hA7,hA2 hk];rfl)
 rw[hDh h0]at this;exact this
theorem qZe(hi:i<36)(hj:j<36)(e:sgC i=sgC j):i=j:=by
 have hi':i<sg.cps.toList.length:=by rw[qOi];exact hi
 have hj':j<sg.cps.toList.length:=by rw[qOi];exact hj
 unfold sgC at e;rw[hA7,hA7,hA2 hi',hA2 hj']at e;exact(List.getElem_inj zEe).mp e
def Sm(x:Str):Prop:=∀c∈x.cps.toList,c<128
theorem Sm.ok(h:Sm x):PyData.strOk x=true:=by
 unfold PyData.strOk;rw[Array.all_eq_true_iff_forall_mem];intro c hc;have:=h c (by simpa using hc);exact hEi (by omega)
noncomputable def qE0(r:List Str):PyData:=.list (r.map .str)
noncomputable def qCu(F:List (List Str)):PyData:=.list (F.map qE0)
theorem qPx:∀a b:List Str,PyData.eqvAll (a.map .str) (b.map .str)=decide (a=b)
 |[],[]=>rfl
 |[],_ :: _=>rfl
 |_ :: _,[]=>rfl
 |x :: a,y :: b=>by
  show(x == y && PyData.eqvAll (a.map .str) (b.map .str))=_;rw[qPx a b];by_cases e:x=y
  ·subst e;simp
  ·simp[e]
theorem qFa(a b:List Str):PyData.eqv (qE0 a) (qE0 b)=decide (a=b):=qPx a b
def SOk(r:List Str):Prop:=∀x∈r,PyData.strOk x=true
theorem qFw:∀ {r:List Str},SOk r->PyData.canLayAll0 (r.map .str)=true/\PyData.depthAll (r.map .str)=0
 |[],_=>⟨rfl,rfl⟩
 |x :: r,h=>by
  obtain⟨h1,h2⟩:=qFw (r:=r) λy hy=>h y (hA4 _ hy)
  refine⟨?_,?_⟩
  ·show(PyData.strOk x && PyData.canLayAll0 (r.map .str))=true;rw[h1,h x hA6];rfl
  ·show max 0 (PyData.depthAll (r.map .str))=0;rw[h2];rfl
theorem qCl(h:SOk r):SeqAt.shaped (qE0 r)=true:=by
 obtain⟨h3,h4⟩:=qFw h;show(PyData.canLayAll0 (r.map .str) && decide (PyData.depthAll (r.map .str)+1<=64))=true;rw[h3,h4];rfl
theorem qTw:∀r:List Str,DRs K H (r.map V.str) (r.map .str)
 |[]=>.nil
 |x :: r=>.cons (.str x) (qTw r)
theorem qD1(h:LsS H a r):DR K H (.ref a) (qE0 r):=.lst (SqL.of h) (qTw r)
theorem qSf(hr:Room k A):A.units+64<cLine:=by have:=hr.un;omega
theorem qCo:bootBuiltins "list"=some (.type "list"):=by decide +kernel
theorem qF7:bootBuiltins "str"=some (.type "str"):=by decide +kernel
theorem qA3:bootBuiltins "sorted"=some (.builtin "sorted"):=by decide +kernel
theorem qF9:bootBuiltins "all"=some (.builtin "all"):=by decide +kernel
theorem qUj:bootBuiltins "set"=some (.type "set"):=by decide +kernel
theorem qFd:bootBuiltins "tuple"=some (.type "tuple"):=by decide +kernel
end My
namespace L2
open PySem PySem.Spec PyProof.Rows
def zFr(Pm:St->Hp->Prop)(t:TS):TS:=λD σ H=>t { D with nx:=Pm } σ H/\∀σ' H',Pm σ' H'->D.nx σ' H'
theorem qJc{X:Cx}{st:Stmt}{t:TS}(Pm:St->Hp->Prop)(h:PS X st t):PS X st (zFr Pm t):=by
 intro aB s σ H D I hw;refine thn (h aB s σ H { D with nx:=Pm } I hw.1) λfl s' q=>?_
 cases fl with
 |next=>obtain⟨σ',H',I',q⟩:=q;exact⟨σ',H',I',hw.2 σ' H' q⟩
 |brk=>exact q
 |cont=>exact q
 |ret u=>exact q
end L2
namespace My
open PySem L2
theorem qFg{α:Type}{P:List α->Prop}(h0:P [])(hs:∀l t,P l->P (l++[t]))(l:List α):P l:=by
 have:∀r:List α,P r.reverse:=λr=>by
  induction r with
  |nil=>exact h0
  |cons a r ih=>rw[List.reverse_cons];exact hs _ _ ih
 have q:=this l.reverse
 rwa [List.reverse_reverse]at q
abbrev Tr:=Str×Str×Str
noncomputable abbrev lab(f:Str->Str)(t:Tr):Str->Str:=λp=>if f p=f t.2.2 then f t.2.1 else f p
noncomputable def qB3(net:List Tr):Str->Str:=net.foldl lab id
theorem qEc(net:List Tr)(t:Tr):qB3 (net++[t])=lab (qB3 net) t:=by unfold qB3;rw[hBm];rfl
def qUx(net:List Tr)(x:Str):Prop:=∃t∈net,x=t.2.1\/x=t.2.2
theorem qIj:qUx (net++[t]) x↔qUx net x\/x=t.2.1\/x=t.2.2:=by
 unfold qUx;constructor
 ·rintro⟨u,hu,h⟩;rcases hAd.mp hu with z|z
  ·exact .inl ⟨u,z,h⟩
  ·rw[hA9]at z;subst z;exact .inr h
 ·rintro(⟨u,hu,h⟩|h)
  ·exact⟨u,hAe _ hu,h⟩
  ·exact⟨t,hA8 _ (hA9.mpr rfl),h⟩
theorem qWr(net:List Tr):∀t∈net,qB3 net t.2.1=qB3 net t.2.2:=by
 refine qFg (P:=λnet=>∀t∈net,qB3 net t.2.1=qB3 net t.2.2) (λt h=>by cases h) (λl t ih=>?_) net;intro u hu;rw[qEc];show(if qB3 l u.2.1=qB3 l t.2.2 then qB3 l t.2.1 else qB3 l u.2.1)=if qB3 l u.2.2=qB3 l t.2.2 then qB3 l t.2.1 else qB3 l u.2.2
 rcases hAd.mp hu with z|z
 ·rw[ih u z]
 ·rw[hA9]at z;subst z;rw[hEn rfl];split <;> rfl
noncomputable def qQ7(kept:List Tr)(t:Tr):List Tr:=if qB3 kept t.2.1=qB3 kept t.2.2 then kept else kept++[t]
noncomputable def qFf(net:List Tr):List Tr:=net.foldl qQ7 []
theorem qGb(net:List Tr)(t:Tr):qFf (net++[t])=qQ7 (qFf net) t:=by unfold qFf;rw[hBm];rfl
theorem qPk(h:f t.2.1=f t.2.2):lab f t=f:=by
 funext p
 show(if f p=f t.2.2 then f t.2.1 else f p)=f p;split
 ·rename_i e;rw[e,h]
 ·rfl
theorem qLz(net:List Tr):qB3 (qFf net)=qB3 net:=by
 refine qFg (P:=λnet=>qB3 (qFf net)=qB3 net) rfl (λl t ih=>?_) net;rw[qGb,qEc];unfold qQ7;rw[ih];split
 ·rename_i e;rw[ih,qPk e]
 ·rw[qEc,ih]
theorem count(ps:List Str)(nd:ps.Nodup)(net:List Tr):(∀x,qUx net x->x∈ps)->∃labs:List Str,labs.Nodup/\(∀x,x∈labs↔∃p∈ps,qB3 net p=x)/\labs.length+(qFf net).length=ps.length:=by
 refine qFg (P:=λnet=>(∀x,qUx net x->x∈ps)->∃labs:List Str,labs.Nodup/\(∀x,x∈labs↔∃p∈ps,qB3 net p=x)/\labs.length+(qFf net).length=ps.length) (λ_=>⟨ps,nd,λx=>⟨λh=>⟨x,h,rfl⟩,λ⟨p,hp,e⟩=>e▸hp⟩,rfl⟩) (λl t ih hp=>?_) net;obtain⟨labs,n1,m1,c1⟩:=ih λx hx=>hp x (qIj.mpr (.inl hx))
 have o1:t.2.1∈ps:=hp _ (qIj.mpr (.inr (.inl rfl)));have o2:t.2.2∈ps:=hp _ (qIj.mpr (.inr (.inr rfl)));rw[qEc,qGb];unfold qQ7;rw[qLz];by_cases e:qB3 l t.2.1=qB3 l t.2.2
 ·rw[hEn e,qPk e];exact⟨labs,n1,m1,c1⟩
 ·rw[hEm e];have mo:qB3 l t.2.2∈labs:=(m1 _).mpr ⟨_,o2,rfl⟩;refine⟨labs.erase (qB3 l t.2.2),n1.erase _,λx=>?_,?_⟩
  ·rw[n1.mem_erase_iff,m1];constructor
   ·rintro⟨nx,p,hp',ex⟩;refine⟨p,hp',?_⟩;show(if qB3 l p=qB3 l t.2.2 then qB3 l t.2.1 else qB3 l p)=x;rw[hEm (by rw[ex];exact nx),ex]
   ·rintro⟨p,hp',ex⟩;have ex':(if qB3 l p=qB3 l t.2.2 then qB3 l t.2.1 else qB3 l p)=x:=ex;by_cases z:qB3 l p=qB3 l t.2.2
    ·rw[hEn z]at ex';exact⟨by rw[<-ex'];exact e,_,o1,ex'⟩
    ·rw[hEm z]at ex';exact⟨by rw[<-ex'];exact z,p,hp',ex'⟩
  ·rw[List.length_erase_of_mem mo,hAc];have:0<labs.length:=List.length_pos_of_mem mo;show labs.length-1+((qFf l).length+1)=_;omega
abbrev qEp(l:List Str):Prop:=l.Pairwise λa b=>qQn a b=true
theorem qOv:∀ {a b:List Str},qEp a->qEp b->(∀x,x∈a↔x∈b)->a=b
 |[],[],_,_,_=>rfl
 |[],y :: b,_,_,h=>by have:=(h y).mpr hA6;cases this
 |x :: a,[],_,_,h=>by have:=(h x).mp hA6;cases this
 |x :: a,y :: b,ha,hb,h=>by
  obtain⟨a1,a2⟩:=hAr.mp ha;obtain⟨b1,b2⟩:=hAr.mp hb;have e:x=y:=by
   rcases hAg.mp ((h x).mp hA6) with z|z
   ·exact z
   ·rcases hAg.mp ((h y).mpr hA6) with w|w
    ·exact w.symm
    ·have q:=qC2 (b1 x z) (a1 y w);rw[qCc]at q;cases q
  subst e;refine congrArg _ (qOv a2 b2 λz=>⟨λhz=>?_,λhz=>?_⟩)
  ·rcases hAg.mp ((h z).mp (hA4 _ hz)) with w|w
   ·have:=a1 z hz;rw[w,qCc]at this;cases this
   ·exact w
  ·rcases hAg.mp ((h z).mpr (hA4 _ hz)) with w|w
   ·have:=b1 z hz;rw[w,qCc]at this;cases this
   ·exact w
noncomputable abbrev trV(t:Tr):List V:=[.str t.1,.str t.2.1,.str t.2.2]
def qFe(H:Hp)(p:Addr)(net:List Tr):Prop:=∃as:List Addr,H p=some (.lst (as.map V.ref))/\Paired (λa t=>H a=some (.tup (trV t))) as net
theorem qFe.ext(h:qFe H p net)(e:Ext H H'):qFe H' p net:=by
 obtain⟨as,h1,h2⟩:=h;exact⟨as,e _ _ h1,Paired.mapP h2 λa t z=>e _ _ z⟩
theorem qAr:∀ {as:List α} {bs:List β} {i:Nat} {a:α},Paired R as bs->as[i]?=some a->∃b,bs[i]?=some b/\R a b
 |_,_,_,_,.nil,e=>by simp at e
 |_,_,0,_,.cons h _,e=>by simp at e;subst e;exact⟨_,rfl,h⟩
 |_,_,i+1,_,.cons _ t,e=>by
  obtain⟨b,h1,h2⟩:=qAr (i:=i) t (by simpa using e);exact⟨b,by simpa using h1,h2⟩
theorem zAx{H:Hp}{as:List Addr}{net:List Tr}{i:Nat}{x:V}(h:Paired (λa t=>H a=some (.tup (trV t))) as net)(e:(as.map V.ref)[i]?=some x):∃a t,x = .ref a/\net[i]?=some t/\H a=some (.tup (trV t)):=by
 rw[hAi]at e;cases ha:as[i]? with
 |none=>rw[ha]at e;cases e
 |some a =>
  rw[ha]at e;obtain⟨t,h1,h2⟩:=qAr h ha;exact⟨a,t,(hAq e).symm,h1,h2⟩
theorem qAl{α:Type}{l:List α}{i:Nat}{t:α}(h:l[i]?=some t):l.take (i+1)=l.take i++[t]:=by rw[List.take_add_one,h];rfl
theorem qAu{α:Type}{l:List α}{i:Nat}{t:α}(h:l[i]?=some t):i<l.length:=(hAm.mp h).1
theorem qSg:∀(l:List Str) (p:Str),PyProof.Rows.risingS p l=true->(p :: l).Nodup->qEp (p :: l)
 |[],p,_,_=>hBw _ _
 |x :: r,p,h,nd=>by
  have h':(!PySem.Spec.ltCps x.cps.toList p.cps.toList && PyProof.Rows.risingS x r)=true:=h;rw[hCi]at h';have nd':=hBe.mp nd;have ih:=qSg r x h'.2 nd'.2;have px:qQn p x=true:=by
   have z:=h'.1;rw[PyProof.Rows.ltCps_eq]at z;rcases qJ8 p x with t|t|t
   ·exact t
   ·exact absurd t (λe=>nd'.1 (by rw[e];exact hA6))
   ·rw[hEi (hEl t)]at z;cases z
  refine hAr.mpr ⟨λy hy=>?_,ih⟩;rcases hAg.mp hy with e|hy
  ·rw[e];exact px
  ·exact qC2 px ((hAr.mp ih).1 y hy)
theorem qKa(h:PyProof.Rows.sortedS l=true)(nd:l.Nodup):qEp l:=by
 cases l with
 |nil=>exact List.Pairwise.nil
 |cons x r=>exact qSg r x h nd
def qQ0(net:List Tr)(ps:List Str):Prop:=ps.Nodup/\∀x,x∈ps↔qUx net x
theorem Ext.over(e:Ext H H')(h:H d=Option.none)(o:HO):Ext H (upd H' d o):=λb u q=>by rw[qAk (qAo q h)];exact e b u q
noncomputable def hD(ps:List Str)(f:Str->Str):List (Key×V):=ps.map λp=>(Sum.inr p,V.str (f p))
theorem zEk(hr:Room k A):A.units+2<cLine:=by have:=hr.un;omega
def qJo(H:Hp)(p:Addr)(F:List (List Str)):Prop:=∃as:List Addr,H p=some (.lst (as.map V.ref))/\Paired (LsS H) as F
theorem qJo.ext(h:qJo H p F)(e:Ext H H'):qJo H' p F:=by
 obtain⟨as,h1,h2⟩:=h;exact⟨as,e _ _ h1,Paired.mapP h2 λa r z=>e _ _ z⟩
theorem qNr(as:List Addr):(List.range as.length).map (λi=>as.getD i 0)=as:=by
 refine hCs λi=>?_
 by_cases hi:i<as.length
 ·rw[hAi,hCq hi,hA2 hi];show some (as.getD i 0)=_;rw[hA7,hA2 hi];rfl
 ·rw[hB7 (by simp;omega),hB7 (by omega)]
theorem pick_perm(g:Gd as.length o):(o.toList.map λi=>as.getD i 0).Perm as :=
 ((hBg.mp g).map λi=>as.getD i 0).trans (hDg (qNr as))
theorem qLi:∀ {as:List Addr} {ts:List (List Str)} {i:Nat},Paired R as ts->i<as.length->R (as.getD i 0) (ts.getD i [])
 |_,_,i,.nil,hi=>absurd hi (hC5 _)
 |_,_,0,.cons h _,_=>h
 |_,_,i+1,.cons _ t,hi=>by simpa using qLi (i:=i) t (by simpa using hi)
theorem qIc{R:Addr->List Str->Prop}{as:List Addr}{ts:List (List Str)}(pr:Paired R as ts):∀ {l:List Nat},(∀i∈l,i<as.length)->Paired R (l.map λi=>as.getD i 0) (l.map λi=>ts.getD i [])
 |[],_=>.nil
 |i :: l,h=>.cons (qLi pr (h i hA6)) (qIc pr λj hj=>h j (hA4 _ hj))
def Sgd(s:Str):Prop:=∀c∈s.cps.toList,c∈sg.cps.toList
theorem qZd(hi:i<36):sgC i∈sg.cps.toList:=by
 have hi':i<sg.cps.toList.length:=by rw[qOi];exact hi
 unfold sgC;rw[hA7,hA2 hi'];exact hC4 hi'
theorem Sgd.sm(h:Sgd s):Sm s:=λc hc=>qVe c (h c hc)
theorem Sgd.app(h:Sgd x)(h':Sgd y):Sgd (x++y):=λc hc=>by
 rw[Str.cps_append,Array.toList_append,hAd]at hc;exact hc.elim (h c) (h' c)
theorem Sgd.one(hi:i<36):Sgd ⟨#[sgC i]⟩:=λd hd=>by
 have:d=sgC i:=by simpa using hd
 rw[this];exact qZd hi
theorem Sgd.nil:Sgd "":=λc hc=>by
 have:c∈([]:List Nat):=hc;cases this
theorem Sgd.slice(h:Sgd x)(l u:Option Int):Sgd (Txt.slice x l u):=λc hc=>by
 unfold Txt.slice at hc;split at hc
 ·exact h c hc
 ·simp only[hD6]at hc;obtain⟨i,_,hi⟩:=hc;exact h c (by simpa using Array.mem_of_getElem? hi)
def zE7(s:Str):Prop:=Sgd s/\1<=s.length/\s.length<=6
theorem qMw(h0:0<=j)(h1:j<=x.length):(Txt.slice x none (some j)).length<=j.toNat:=by
 have e:Txt.slice x none (some j)=_:=PySem.StrLaws.sliceText_to (x:=x) (j:=j) ⟨h0,h1⟩;rw[e];show(List.toArray _).size<=_;rw[hAf,hAk];omega
theorem qJ0(h0:0<=j)(h1:j<=x.length):(Txt.slice x (some j) none).length<=x.length-j.toNat:=by
 have e:Txt.slice x (some j) none=_:=PySem.StrLaws.sliceText_from (x:=x) (i:=j) ⟨h0,h1⟩;rw[e];show(List.toArray _).size<=_;rw[hAf,hAk,List.length_drop];have:x.cps.toList.length=x.length:=rfl;omega
def qQk(K:PySem.W.Frag):Sp:=λvs H Q _=>∃(a:Addr) (ns:List Int) (k:Int),vs=[.ref a,.int k]/\SqL K H a (ns.map V.int)/\0<=k/\k<=100/\∀v,Q (.int v) H
def Tx(ss:List Str):Prop:=∀s∈ss,zE7 s
def qJy:Sp:=λvs H Q _=>∃(b n:Int),vs=[.int b,.int n]/\0<=n/\n<=100/\∀(r:Addr) (ss:List Str) (H':Hp),Ext H H'->H r=none->LsS H' r ss->ss.length=n.toNat->Tx ss->(n<=36->ss.Nodup)->Q (.ref r) H'
noncomputable def nmF(pre post:Str)(f:Int)(k:Nat):Str:=pre++⟨#[sgC ((f+7*(0+(k:Int))) % 36).toNat]⟩++post
theorem zAw(hi:i<36)(hj:j<36)(e:nmF pre post f i=nmF pre post f j):i=j:=by
 have e1:=congrArg (λs:Str=>s.cps.toList) e;unfold nmF at e1;simp only[Str.cps_append,Array.toList_append]at e1;have e2:=List.append_cancel_left (List.append_cancel_right e1);have a0:=hBi (f+7*(0+(i:Int))) (show(36:Int)≠0 by decide);have a1:=hB9 (f+7*(0+(i:Int))) (show(0:Int)<36 by decide);have b0:=hBi (f+7*(0+(j:Int))) (show(36:Int)≠0 by decide);have b1:=hB9 (f+7*(0+(j:Int))) (show(0:Int)<36 by decide);have e3:sgC ((f+7*(0+(i:Int))) % 36).toNat=sgC ((f+7*(0+(j:Int))) % 36).toNat:=by simpa using e2
 have e4:=qZe (by omega) (by omega) e3;omega
theorem qPa:∀ {n:Nat},(∀i j,i<n->j<n->g i=g j->i=j)->((List.range n).map g).Nodup
 |0,_=>List.nodup_nil
 |n+1,h=>by
  rw[hCf,hA3,hCl];refine⟨qPa λi j hi hj=>h i j (by omega) (by omega),by simp,λa ha b hb=>?_⟩;obtain⟨i,hi,rfl⟩:=hAb.mp ha;rw[hD8,hA9]at hb;subst hb;rw[hAy]at hi;intro z;have:=h i n (by omega) (by omega) z;omega
section
variable{P:Program}{w:World}{K:PySem.W.Frag}{mg:Str->Option Value}{base:Heap}{f f1 f2:Addr}{fd fd1 fd2:FuncData}
noncomputable abbrev bgN:List Str:=["_law_script","_law_k","_law_x","_law_total","_law_j"]
theorem qM3:FnScope bgN ["_law_script","_law_k"] (qAc zEi):=fsk
theorem zC0(F:Fun K "_law_big" "_law_big" zEi f fd)(G:v9 1 f1 fd1 ["_law_script","_law_k"] (qXv K) "_law_cell_at")(mr:mg "range"=none)(ma:mg "abs"=none) :
  v8 2 f fd ["_law_script","_law_k"] (qQk K):=by
 refine F.okA qM3 λcdv A outer s H vs Q E hr h=>?_
 obtain⟨a,ns,k,rfl,hS,h0,h1,q⟩:=h;refine⟨_,qAa (qBj (qAn zEt (qAh qP9 rfl ma qMe (pa1 (qAv G hr rfl .nil pass0 (qAe (pv 0) (pa1 (pv 1)))))) (qAg qYa qAb qAb) (nomark _))
   (qAd (qAt (qAg qCr (qAh qP9 rfl ma qMe (pa1 (qAv G hr rfl .nil pass0 (qAe (pv 0) (pa1 (pv 1)))))) (qAg qYa qAb qAb)))) qAx)
  (qAa (v4 2 qM3 (qAg qA8 (qAg qA8 (qAg qA8 (qAg qA9 (qAv G hr rfl .nil pass0 (qAe (pv 0) (pa1 qAb))) qAb) (qAg qEv qAb (pv 1))) (qAg qEv qAb (qAv G hr rfl .nil pass0 (qAe (pv 0) (pa1 (pv 1)))))) qAb))
  (qAa (v4 2 qM3 (qAg qA8 (qAg qA9 (pv 2) qAb) qAb))
  (qAa (v4 3 qM3 qAb)
  (qAa (qBf PassesOwn.never rfl (qBg rfl mr (pa1 qAb)) (v5 4 qM3)
   (qAa (v4 2 qM3 (qAg qA9 (qAg qA8 (qAg qA8 (qAg qA8 (qAg qEv (pv 2) qAb) (qAg qA4 (pv 2) qAb)) (qAg qEv (qAg qEv qAb (pv 4)) (pv 4))) (pv 1)) qAb))
   (qAd (v4 3 qM3 (qAg qA8 (qAg qEv (pv 3) qAb) (qAg qA9 (qAg qEv (pv 2) qAb) qAb))))))
  (qAd (qAt (pv 3))))))),?_⟩
 refine⟨_,rfl,_,rfl,a,ns,k,rfl,hS,h0,λv=>⟨v,rfl,?_⟩⟩;refine⟨_,_,rfl,rfl,⟨by decide,by decide,by decide⟩,_,_,rfl,rfl,_,rfl,?_⟩;refine qBy (λc=>?_) (λc=>?_)
 ·refine⟨_,rfl,_,rfl,a,ns,k,rfl,hS,h0,λv=>⟨v,rfl,?_⟩⟩;exact⟨_,_,rfl,rfl,⟨by decide,by decide,by decide⟩,_,_,rfl,rfl,q _⟩
 refine⟨_,rfl,a,ns,0,rfl,hS,by decide,λv1=>?_⟩;refine⟨_,_,rfl,rfl,(by show(0:Int)<_;decide),_,rfl,_,_,rfl,rfl,.inl ⟨by decide,by decide⟩,_,_,rfl,rfl,?_⟩;refine⟨_,rfl,_,rfl,a,ns,k,rfl,hS,h0,λv2=>?_⟩;refine⟨_,_,rfl,rfl,.inl ⟨by decide,by decide⟩,_,_,rfl,rfl,_,_,rfl,rfl,?_⟩;refine⟨_,rfl,_,_,rfl,rfl,(by show(0:Int)<_;decide),_,_,rfl,rfl,?_⟩;refine⟨8,rfl,by decide,by decide,qB5 (lo:=0) (n:=8) (λi σ H'=>H'=H/\∃(x t:Int) (z:Option V),σ=[some (.ref a),some (.int k),some (.int x),some (.int t),z]) ⟨rfl,_,0,none,rfl⟩ ?_ ?_⟩
 ·rintro i σ H' hi ⟨rfl,x,t,z,rfl⟩;refine⟨_,rfl,_,_,rfl,rfl,.inr ⟨by decide,by decide⟩,_,rfl,_,_,rfl,rfl,⟨by decide,by decide⟩,_,_,rfl,rfl,?_⟩;refine⟨_,rfl,_,_,rfl,rfl,.inl ⟨by decide,by decide⟩,_,rfl,_,_,rfl,rfl,.inr ⟨by omega,by omega⟩,_,_,rfl,rfl,?_⟩;refine⟨_,rfl,_,_,rfl,rfl,_,_,rfl,rfl,(by show(0:Int)<_;decide),?_⟩;refine⟨_,rfl,_,_,rfl,rfl,.inr ⟨by decide,by decide⟩,_,rfl,_,_,rfl,rfl,.inr ⟨by decide,by decide⟩,_,_,rfl,rfl,(by show(0:Int)<_;decide),_,_,rfl,rfl,?_⟩;exact⟨rfl,_,_,_,rfl⟩
 ·rintro σ H' ⟨rfl,x,t,z,rfl⟩;exact⟨_,rfl,q _⟩
noncomputable abbrev naN:List Str:=["_law_big_here","_law_many","_law_signs","_law_word","_law_k","_law_spot","_law_first","_law_head","_law_tail"]
theorem qDd:FnScope naN ["_law_big_here","_law_many"] (qAc qOo):=fsk
theorem qWb(F:Fun K "_law_names" "_law_names" qOo f fd)(mr:mg "range"=none)(ml:mg "len"=none):v8 1 f fd ["_law_big_here","_law_many"] qJy:=by
 refine F.okA qDd λcdv A outer s H vs Q E hr h=>?_
 obtain⟨b,n,rfl,n0,n1,q⟩:=h;refine⟨_,qAa (v6 2 qDd qEu)
  (qAa (v4 3 qDd qEu)
  (qAa (qBf PassesOwn.never rfl (qBg rfl mr (pa1 (qAg qA8 qAb (qAg qA9 (pv 0) qAb)))) (v5 4 qDd)
   (qAa (v4 3 qDd (qAg qEn (pv 3) (qBh qYg (pv 2) (qAg qA9 (qAg qA4 (pv 0) qAb) qAb) (λ_ _=>rfl))))
   (qAd (v4 0 qDd (qAg qA4 (pv 0) qAb)))))
  (qAa (v4 5 qDd (qAg qA9 (qAg qA4 (pv 0) qAb) (qAh qMc rfl ml hAt (pa1 (pv 3)))))
  (qAa (v6 6 qDd (qAg qA9 (qAg qA4 (pv 0) qAb) qAb))
  (qAa (qGz (qA6 (qAe (qFn qXx (pv 3) qH9 (qH8 (pv 5))) (pa1 (qFn qXx (pv 3) (qH8 (qAg qA8 (pv 5) qAb)) qH9)))) (qB0 rfl (qAs (v7 7 qDd) (qAs (v7 8 qDd) qBc))))
  (qAd (qAt (qA7 (N:=naN) (sc:=qAc qOo) (N':=["_law_k","_law_head","_law_signs","_law_first","_law_tail"]) (sub:=[none,some 7,some 2,some 6,some 8]) (qBg rfl mr (pa1 (pv 1))) (λC s H fp=>⟨qAw,
    qAg qEn (qAg qEn (pv 1) (qBh qYg (pv 2) (qAg qA9 (qAg qA8 (pv 3) (qAg qEv qAb (pv 0))) qAb) (λ_ _=>rfl))) (pv 4)⟩))))))))),?_⟩
 have b6:=hBi b (show(6:Int)≠0 by decide);have b6':=hB9 b (show(0:Int)<6 by decide);refine⟨_,rfl,_,_,rfl,rfl,(by show(0:Int)<_;decide),_,_,rfl,rfl,1+b % 6,rfl,by omega,by omega,?_⟩;refine qB5 (lo:=0) (n:=(1+b % 6).toNat) (λi σ H'=>H'=H/\∃(b':Int) (word:Str) (x:Option V),σ=[some (.int b'),some (.int n),some (.str sg),some (.str word),x,none,none,none,none]/\word.length=i/\Sgd word) ⟨rfl,b,"",none,rfl,rfl,Sgd.nil⟩ ?_ ?_
 ·rintro i σ H' hi ⟨rfl,b',word,x,rfl,hw,sm⟩;have c1:=hBi (b' / 6) (show(36:Int)≠0 by decide);have c2:=hB9 (b' / 6) (show(0:Int)<36 by decide);refine⟨_,rfl,_,rfl,_,rfl,_,_,rfl,rfl,⟨by decide,by decide⟩,_,_,rfl,rfl,(by show(0:Int)<_;decide),sg,_,sgC (b' / 6 % 36).toNat,rfl,rfl,by decide +kernel,zCb c1 c2,word,⟨#[sgC (b' / 6 % 36).toNat]⟩,rfl,rfl,?_,?_⟩
  ·show word.length+1<=sizeLine;exact hB5 (qAf (by omega))
  ·refine⟨_,rfl,_,_,rfl,rfl,⟨by decide,by decide⟩,?_⟩;refine⟨rfl,_,_,_,rfl,?_,sm.app (Sgd.one (by omega))⟩;rw[Str.length_append];show word.length+1=i+1;omega
 ·rintro σ H' ⟨rfl,b',word,x,rfl,hw,sm⟩;have wl:word.length<=sizeLine:=hB5 (qAf (by omega));have fa:=hBi (b' / 216) (show(36:Int)≠0 by decide);have fb:=hB9 (b' / 216) (show(0:Int)<36 by decide);refine⟨_,rfl,_,_,rfl,rfl,⟨by decide,by decide⟩,_,rfl,word,rfl,wl,_,_,rfl,rfl,(by show(0:Int)<_;omega),?_⟩;refine⟨_,rfl,_,_,rfl,rfl,⟨by decide,by decide⟩,_,_,rfl,rfl,(by show(0:Int)<_;decide),?_⟩;obtain⟨spot,hsp⟩:∃spot,b' / 6 % ((word.length:Nat):Int)=spot:=⟨_,rfl⟩;refine⟨_,rfl,_,rfl,_,rfl,word,rfl,wl,_,rfl,_,rfl,_,_,rfl,rfl,_,rfl,word,rfl,wl,(by show 2<=sizeLine;decide),λT hT=>⟨T,_,rfl,SqT.of upd_same,rfl,_,_,rfl,_,_,rfl,rfl,?_⟩⟩;have l1:=Txt.slice_le word none (some spot);have l2:=Txt.slice_le word (some (spot+1)) none;have s1:=sm.slice none (some spot);have s2:=sm.slice (some (spot+1)) none;have X1:=Ext.new hT (.tup [V.str (Txt.slice word none (some spot)),V.str (Txt.slice word (some (spot+1)) none)]);refine⟨_,rfl,n,rfl,by omega,by omega,?_⟩;refine qDr (lo:=0) (n:=n.toNat) (λi ys H2=>H2=upd H' T (.tup [V.str (Txt.slice word none (some spot)),V.str (Txt.slice word (some (spot+1)) none)])/\∃ss:List Str,ys=ss.map V.str/\ss.length=i/\Tx ss/\ss=(List.range i).map (nmF (Txt.slice word none (some spot)) (Txt.slice word (some (spot+1)) none) (b' / 216 % 36))) ⟨by rw[hsp],[],rfl,rfl,(λs hs=>by cases hs),rfl⟩ ?_ ?_
  ·rintro i ys H2 hi ⟨rfl,ss,rfl,ls,tx,eq⟩;have ea:=hBi (b' / 216 % 36+7*(0+(i:Int))) (show(36:Int)≠0 by decide);have eb:=hB9 (b' / 216 % 36+7*(0+(i:Int))) (show(0:Int)<36 by decide);rw[hsp];refine⟨sls,iteT (B:=False) ⟨_,rfl,_,rfl,_,rfl,_,rfl,_,_,rfl,rfl,.inl ⟨by decide,by decide⟩,_,_,rfl,rfl,_,_,rfl,rfl,(by show(0:Int)<_;decide),sg,_,sgC ((b' / 216 % 36+7*(0+(i:Int))) % 36).toNat,rfl,rfl,by decide +kernel,zCb ea eb,_,_,rfl,rfl,?_,_,rfl,_,_,rfl,rfl,?_,?_,nxt hi ⟨rfl,ss++[Txt.slice word none (some spot)++⟨#[sgC ((b' / 216 % 36+7*(0+(i:Int))) % 36).toNat]⟩++Txt.slice word (some (spot+1)) none],?_,?_,?_,?_⟩⟩⟩
   ·show _+1<=sizeLine;exact hB5 (qAf (by omega))
   ·rw[Str.length_append];show _+1+_<=sizeLine;exact hB5 (qAf (by omega))
   ·rw[hA1];exact qAf (by omega)
   ·rw[hA3];rfl
   ·rw[hAc,ls];rfl
   ·intro s hs;rcases hAd.mp hs with z|z
    ·exact tx s z
    ·rw[hA9]at z;subst z;have sp0:0<=spot:=by rw[<-hsp];exact hBi _ (by omega)
     have sp1:spot<(word.length:Int):=by rw[<-hsp];exact hB9 _ (by omega)
     have la:=qMw (x:=word) (j:=spot) sp0 (by omega);have lb:=qJ0 (x:=word) (j:=spot+1) (by omega) (by omega);have lc:(⟨#[sgC ((b' / 216 % 36+7*(0+(i:Int))) % 36).toNat]⟩:Str).length=1:=rfl;refine⟨(s1.app (Sgd.one (by omega))).app s2,?_,?_⟩
     ·rw[Str.length_append,Str.length_append,lc];omega
     ·rw[Str.length_append,Str.length_append,lc];omega
   ·rw[eq,hCf,hA3];rfl
  ·rintro ys H2 ⟨rfl,ss,rfl,ls,tx,eq⟩ r hr';exact q r ss _ (X1.trans (Ext.new hr' _)) (X1.none hr') upd_same ls tx (λn36=>by rw[eq];exact qPa λi j hi hj=>zAw (by omega) (by omega))
end
noncomputable abbrev enV(e:Int×Int):List V:=[.int e.1,.int e.2]
def qBi(H:Hp)(p:Addr)(es:List (Int×Int)):Prop:=∃as:List Addr,H p=some (.lst (as.map V.ref))/\Paired (λa e=>H a=some (.tup (enV e))) as es
theorem qBi.ext(h:qBi H p es)(e:Ext H H'):qBi H' p es:=by
 obtain⟨as,h1,h2⟩:=h;exact⟨as,e _ _ h1,Paired.mapP h2 λa t z=>e _ _ z⟩
theorem qBi.snoc(hk:H k=some (.lst (as.map V.ref)))(pr:Paired (λa t=>H a=some (.tup (enV t))) as net)(e:Ext H H')(ha:H' a=some (.tup (enV t))):qBi (upd H' k (.lst (as.map V.ref++[V.ref a]))) k (net++[t]):=by
 have hk':=e _ _ hk;have ne:∀ {b:Addr} {xs:List V},H' b=some (.tup xs)->b≠k:=λh z=>by rw[z,hk']at h;cases h
 refine⟨as++[a],by rw[upd_same,hA3];rfl,?_⟩;refine Paired.snoc (Paired.mapP pr λb u z=>?_) ?_
 ·have z':=e _ _ z;rw[qAk (ne z')];exact z'
 ·rw[qAk (ne ha)];exact ha
theorem qY0{hs:List Int}{i:Int}(h0:0<=i)(h1:i<(hs.length:Int)):∃v,atI (hs.map V.int) i=some (.int v):=by
 have hk:i.toNat<hs.length:=by omega
 have hv:atI (hs.map V.int) ((i.toNat:Nat):Int)=some (.int hs[i.toNat]):=qAy (by rw[hAi,hA2 hk] <;> rfl);rw[hDh h0]at hv;exact⟨_,hv⟩
def qQ2(sp:Int)(e:Int×Int):Prop:=(0<=e.1/\e.1<sp)/\0<=e.2/\e.2<sp
def qXu:Sp:=λvs H Q _=>∃(b n sp:Int),vs=[.int b,.int n,.int sp]/\0<=n/\n<=12/\0<sp/\sp<=10/\∀r es H',Ext H H'->H r=none->qBi H' r es->es.length<=n.toNat->(∀e∈es,qQ2 sp e)->Q (.ref r) H'
section
variable{P:Program}{w:World}{K:PySem.W.Frag}{mg:Str->Option Value}{base:Heap}{f f1 f2:Addr}{fd fd1 fd2:FuncData}
noncomputable abbrev eN:List Str:=["_law_big_here","_law_many","_law_spread","_law_heaps","_law_found","_law_high","_law_k","_law_one","_law_other","_law_gone"]
theorem qD6:FnScope eN ["_law_big_here","_law_many","_law_spread"] (qAc qVt):=fsk
structure EI(H:Hp)(sp n:Int)(i:Nat)(σ:St)(H':Hp)(b' h:Int)(hp fo:Addr)(hs:List Int)(es:List (Int×Int)):Prop where
 st:∃x6 x7 x8 x9:Option V,σ=[some (.int b'),some (.int n),some (.int sp),some (.ref hp),some (.ref fo),some (.int h),x6,x7,x8,x9]
 ext:Ext H H'
 fo0:H fo=none
 ne:hp≠fo
 hsA:H' hp=some (.lst (hs.map V.int))
 hsl:(hs.length:Int)=sp
 esA:qBi H' fo es
 esl:es.length<=i
 esi:∀e∈es,qQ2 sp e
theorem zAt(F:Fun K "_law_ends" "_law_ends" qVt f fd)(mr:mg "range"=none)(ml:mg "len"=none)(mL:mg "list"=none):v8 1 f fd ["_law_big_here","_law_many","_law_spread"] qXu:=by
 refine F.okA qD6 λcdv A outer s H vs Q E hr h=>?_
 obtain⟨b,n,sp,rfl,n0,n1,p0,p1,q⟩:=h;refine⟨_,qAa (v6 3 qD6 (qBp (qKt rfl) rfl mL qCo (pa1 (qBp qG3 rfl mr qNy (pa1 (pv 2))))))
  (qAa (v4 4 qD6 (qA2 qAz))
  (qAa (v4 5 qD6 qAb)
  (qAa (qBf PassesOwn.never rfl (qBg rfl mr (pa1 (pv 1))) (v5 6 qD6)
   (qAa (qGz (qA6 (qAe (qAg qA9 (pv 0) (pv 2)) (pa1 (qAg qA9 (qAg qA4 (pv 0) (pv 2)) (pv 2))))) (qB0 rfl (qAs (v7 7 qD6) (qAs (v5 8 qD6) qBc))))
   (qAa (v4 0 qD6 (qAg qA4 (qAg qA4 (pv 0) (pv 2)) (pv 2)))
   (qAd (qBj (PW.pt (qLd (qAn qB4 (qBh qBx (pv 3) (pv 7) (λ_ _=>rfl)) (qBh qBx (pv 3) (pv 8) (λ_ _=>rfl)) (nomark _)) (qH7 (qAn qFq (qAg qCr (qAh qAi rfl ml hAt (pa1 (pv 4))) (pv 5)) qAb (nomark _)))))
    (qAd (qCd (qDu hAx hBn hBo qBw (pv 4) (pa1 (qA6 (qAe (pv 7) (pa1 (pv 8))))))))
    (qAd (qBj (PW.pt (qLd (qAn qFp (qBh qBx (pv 3) (pv 7) (λ_ _=>rfl)) (qBh qBx (pv 3) (pv 8) (λ_ _=>rfl)) (nomark _)) (qH7 (qAn qFq (pv 5) qAb (nomark _)))))
     (qAa (qCd (qDu hAx hBn hBo qBw (pv 4) (pa1 (qA6 (qAe (pv 7) (pa1 (pv 8)))))))
     (qAa (qLe (i:=5) qD6.nd rfl (Or.inl rfl) qAb qPo)
     (qAa (v6 9 qD6 (qBh qBx (pv 3) (pv 8) (λ_ _=>rfl)))
     (qAd (v6 3 qD6 (qA7 (N:=eN) (sc:=qAc qVt) (N':=["_law_heap","_law_heaps","_law_one","_law_gone"]) (sub:=[none,some 3,some 7,some 9]) (qAp (pv 3)) (λC s H fp=>⟨qAw,qEl (qAn qB4 (pv 0) (pv 3) (nomark _)) (qBh (show IxR _ (zEo K) from qBx) (pv 1) (pv 2) (λ_ _=>rfl)) (pv 0)⟩)))))))
     qAx)))))))
  (qAd (qAt (pv 4)))))),?_⟩
 refine⟨_,rfl,sp,rfl,by omega,by omega,λrg hrg=>⟨rg,sp,rfl,upd_same,by omega,by omega,λhp hhp=>?_⟩⟩;have X1:=Ext.new hrg (.rng 0 sp);have X2:=X1.trans (Ext.new hhp (.lst ((List.range sp.toNat).map λ(i:Nat)=>V.int (i:Int))));refine⟨hAp _,λfo hfo=>?_⟩;have f0:=X2.none hfo;refine⟨_,rfl,n,rfl,by omega,by omega,qB5 (lo:=0) (n:=n.toNat) (λi σ H'=>∃b' h hp fo hs es,EI H sp n i σ H' b' h hp fo hs es)
  ⟨b,0,hp,fo,(List.range sp.toNat).map λ(i:Nat)=>(i:Int),[],⟨_,_,_,_,rfl⟩,X2.trans (Ext.new hfo _),f0,λe=>(by rw[<-e,upd_same]at hfo;cases hfo),?_,?_,⟨[],upd_same,.nil⟩,hAa _,λe he=>by cases he⟩ ?_ ?_⟩
 ·rw[qAk (λe=>by rw[<-e,upd_same]at hfo;cases hfo),upd_same,hB6];rfl
 ·rw[hA1,hB0];omega
 ·rintro i σ H' hi ⟨b',h,hp,fo,hs,es,⟨x6,x7,x8,x9,rfl⟩,ext,fo0,ne,hsA,hsl,esA,esl,esi⟩;have sp0:(0:Int)<sp:=p0;have o0:=hBi b' (show sp≠0 by omega);have o1:=hB9 b' p0;have t0:=hBi (b' / sp) (show sp≠0 by omega);have t1:=hB9 (b' / sp) p0;have cd:zE9 (b' / sp) sp:=⟨p0,by omega⟩;have cd':zE9 b' sp:=⟨p0,by omega⟩;refine⟨_,rfl,_,rfl,_,_,rfl,rfl,p0,_,rfl,_,rfl,_,_,rfl,rfl,cd',_,rfl,_,_,rfl,rfl,p0,(by show 2<=sizeLine;decide),λT hT=>⟨T,_,rfl,SqT.of upd_same,rfl,_,_,rfl,_,_,rfl,rfl,?_⟩⟩;have X3:=Ext.new hT (.tup [V.int (b' % sp),V.int (b' / sp % sp)]);refine⟨_,rfl,_,rfl,_,_,rfl,rfl,cd',_,rfl,_,_,rfl,rfl,cd,?_⟩;obtain⟨v1,a1⟩:=qY0 (hs:=hs) o0 (by omega);obtain⟨v2,a2⟩:=qY0 (hs:=hs) t0 (by omega);have hs3:=X3 _ _ hsA;have es3:=esA.ext X3;obtain⟨as,ea1,ea2⟩:=id esA;have la:as.length=es.length:=ea2.length;have inn:qQ2 sp ((b' % sp),(b' / sp % sp)):=⟨⟨o0,o1⟩,t0,t1⟩;refine⟨_,rfl,_,rfl,hp,_,_,_,rfl,rfl,SqL.of hs3,a1,_,rfl,_,rfl,hp,_,_,_,rfl,rfl,SqL.of hs3,a2,rfl,_,rfl,?_⟩;refine qBy (λc=>?_) (λc=>?_)
  ·refine⟨_,rfl,fo,_,rfl,.inl (SqL.of (X3 _ _ ea1)),_,rfl,_,_,rfl,rfl,_,_,rfl,rfl,_,rfl,?_⟩;refine qBy (λc2=>?_) (λc2=>?_)
   ·refine⟨_,rfl,.inl ⟨rfl,_,SqL.of (X3 _ _ ea1)⟩,_,rfl,_,rfl,(by show 2<=sizeLine;decide),λT2 hT2=>?_⟩;have X4:=X3.trans (Ext.new hT2 (.tup (enV ((b' % sp),(b' / sp % sp)))));refine⟨fo,_,_,rfl,rfl,X4 _ _ ea1,by rw[hA1];exact qAf (by omega),?_⟩;refine⟨_,_,hp,fo,hs,es++[((b' % sp),(b' / sp % sp))],⟨_,_,_,_,rfl⟩,(ext.trans X4).over fo0 _,fo0,ne,by rw[qAk ne];exact X4 _ _ hsA,hsl,qBi.snoc ea1 ea2 X4 upd_same,by rw[hAc];exact hC9 esl,λe he=>?_⟩;rcases hAd.mp he with z|z
    ·exact esi e z
    ·rw[hA9]at z;subst z;exact inn
   ·refine⟨_,rfl,_,rfl,hp,_,_,_,rfl,rfl,SqL.of hs3,a1,_,rfl,_,rfl,hp,_,_,_,rfl,rfl,SqL.of hs3,a2,rfl,_,rfl,?_⟩;refine qBy (λc3=>?_) (λc3=>?_)
    ·have e1:v1=v2:=by simpa using c
     have e2:¬v1=v2:=by simpa using c3
     exact absurd e1 e2
    ·refine qFz ?_;exact⟨_,_,hp,fo,hs,es,⟨_,_,_,_,rfl⟩,ext.trans X3,fo0,ne,hs3,hsl,es3,by omega,esi⟩
  ·refine qFz ?_;refine⟨_,rfl,_,rfl,hp,_,_,_,rfl,rfl,SqL.of hs3,a1,_,rfl,_,rfl,hp,_,_,_,rfl,rfl,SqL.of hs3,a2,rfl,_,rfl,?_⟩;refine qBy (λc3=>?_) (λc3=>?_)
   ·refine⟨_,rfl,_,_,rfl,rfl,_,rfl,?_⟩;refine qBy (λc2=>?_) (λc2=>?_)
    ·refine⟨_,rfl,.inl ⟨rfl,_,SqL.of (X3 _ _ ea1)⟩,_,rfl,_,rfl,(by show 2<=sizeLine;decide),λT2 hT2=>?_⟩;have X4:=X3.trans (Ext.new hT2 (.tup (enV ((b' % sp),(b' / sp % sp)))));refine⟨fo,_,_,rfl,rfl,X4 _ _ ea1,by rw[hA1];exact qAf (by omega),?_⟩;have hs4:upd (upd (upd H' T (.tup [V.int (b' % sp),V.int (b' / sp % sp)])) T2 (.tup (enV ((b' % sp),(b' / sp % sp))))) fo (.lst (as.map V.ref++[V.ref T2])) hp=some (.lst (hs.map V.int)):=by rw[qAk ne];exact X4 _ _ hsA
     have en4:=qBi.snoc (t:=((b' % sp),(b' / sp % sp))) ea1 ea2 X4 upd_same;have X5:=(ext.trans X4).over fo0 (.lst (as.map V.ref++[V.ref T2]));refine⟨_,rfl,_,_,rfl,rfl,?_⟩;refine⟨_,rfl,_,rfl,hp,_,_,_,rfl,rfl,SqL.of hs4,a2,?_⟩;refine⟨_,rfl,hp,rfl,⟨_,SqL.of hs4⟩,?_⟩;refine qQf (λv=>some (if v = .int v2 then .int v1 else v)) (SqL.of hs4) (by rw[hA1];exact hB5 (qAf (by omega))) (λx hx C hC=>?_) (λr hr'=>?_)
     ·obtain⟨y,_,rfl⟩:=hAb.mp hx;refine⟨sls,iteT (B:=False) ?_⟩;refine⟨_,rfl,_,rfl,rfl,_,rfl,?_⟩;refine qBy (λc5=>?_) (λc5=>?_)
      ·have e5:y=v2:=by simpa using c5
       subst e5;refine⟨_,rfl,_,rfl,hp,_,_,_,rfl,rfl,SqL.of hs4,a1,?_⟩;rw[hEn rfl]at hC;exact hC
      ·have e5:¬y=v2:=by simpa using c5
       rw[hEm (λz=>e5 (V.int.inj z))]at hC;exact⟨_,rfl,hC⟩
     ·have rf:r≠fo:=λe=>by rw[e,upd_same]at hr';cases hr'
      have em:(hs.map V.int).filterMap (λv=>some (if v = .int v2 then .int v1 else v))=(hs.map λy=>if y=v2 then v1 else y).map V.int:=by
       rw[List.filterMap_eq_map',hB6,hB6];refine hBs λy _=>?_
       show(if V.int y=V.int v2 then V.int v1 else V.int y)=V.int (if y=v2 then v1 else y);by_cases z:y=v2
       ·subst z;rw[hEn rfl,hEn rfl]
       ·rw[hEm (λe=>z (V.int.inj e)),hEm z]
      rw[em];refine⟨_,_,r,fo,_,es++[((b' % sp),(b' / sp % sp))],⟨_,_,_,_,rfl⟩,X5.trans (Ext.new hr' _),fo0,rf,upd_same,by rw[hA1];exact hsl,en4.ext (Ext.new hr' _),by rw[hAc];exact hC9 esl,λe he=>?_⟩;rcases hAd.mp he with z|z
      ·exact esi e z
      ·rw[hA9]at z;subst z;exact inn
    ·exact⟨_,_,hp,fo,hs,es,⟨_,_,_,_,rfl⟩,ext.trans X3,fo0,ne,hs3,hsl,es3,by omega,esi⟩
   ·refine qFz ?_;exact⟨_,_,hp,fo,hs,es,⟨_,_,_,_,rfl⟩,ext.trans X3,fo0,ne,hs3,hsl,es3,by omega,esi⟩
 ·rintro σ H' ⟨b',h,hp,fo,hs,es,⟨x6,x7,x8,x9,rfl⟩,ext,fo0,ne,hsA,hsl,esA,esl,esi⟩;exact⟨_,rfl,q fo es H' ext fo0 esA esl esi⟩
end
end My
namespace L2
open PySem PySem.Spec PyProof.Rows
theorem qIn{n:Nat}{Ls:Hp->Prop}{xv:Nat->List V}{g:TG}{tb:TS}{D:Ends}{σ:St}{H:Hp}(Pv:Nat->St->Hp->Prop)(h0:Pv 0 σ H)(hl:∀i σ H,i<=n->Pv i σ H->Ls H)
  (hs:∀i σ H T,i<n->Pv i σ H->H T=none->g (.ref T) σ (upd H T (.tup (xv i))) λσ2 H2=>tb { D with nx:=Pv (i+1),ct:=Pv (i+1),bk:=D.nx } σ2 H2) (hd:∀σ H,Pv n σ H->D.nx σ H) :
  ∃W:Nat->Nat->St->Hp->Prop,(∃m,W 0 m σ H)/\∀i m σ H,W i m σ H ->
   ((Itp n Ls xv).stop i H/\D.nx σ H)\/((Itp n Ls xv).go i H/\∃N:St->Hp->Prop,(∀σ' H',N σ' H'->∃m',m'<m/\W (i+1) m' σ' H')/\∀x H',(Itp n Ls xv).yld i H x H'->g x σ H' λσ2 H2=>tb { D with nx:=N,ct:=N,bk:=D.nx } σ2 H2):=by
 refine⟨λi m σ H=>m=n-i/\i<=n/\Pv i σ H,⟨n,by simp,hAp _,h0⟩,?_⟩;rintro i m σ H ⟨rfl,hi,p⟩;have q:=hl i σ H hi p;by_cases hlt:i<n
 ·refine .inr ⟨⟨q,hlt⟩,Pv (i+1),λσ' H' p'=>⟨n-(i+1),by omega,rfl,hlt,p'⟩,λx H' y=>?_⟩;obtain⟨T,e1,e2,e3⟩:=y;subst e2 e3;exact hs i σ H T hlt p e1
 ·have e:i=n:=by omega
  subst e;exact .inl ⟨⟨q,rfl⟩,hd σ H p⟩
end L2
namespace My
open PySem L2
theorem zBp{hs:List Int}{i:Int}(h0:0<=i)(h1:i<(hs.length:Int)):∃v∈hs,atI (hs.map V.int) i=some (.int v):=by
 have hk:i.toNat<hs.length:=by omega
 have hv:atI (hs.map V.int) ((i.toNat:Nat):Int)=some (.int hs[i.toNat]):=qAy (by rw[hAi,hA2 hk] <;> rfl);rw[hDh h0]at hv;exact⟨_,hC4 hk,hv⟩
theorem qUp{hs:List Str}{i:Int}(h0:0<=i)(h1:i<(hs.length:Int)):∃v∈hs,atI (hs.map V.str) i=some (.str v):=by
 have hk:i.toNat<hs.length:=by omega
 have hv:atI (hs.map V.str) ((i.toNat:Nat):Int)=some (.str hs[i.toNat]):=qAy (by rw[hAi,hA2 hk] <;> rfl);rw[hDh h0]at hv;exact⟨_,hC4 hk,hv⟩
theorem qC3:∀ {as:List α} {bs:List β},Paired R as bs->∀a∈as,∃b∈bs,R a b
 |_,_,.nil,a,h=>by cases h
 |_,_,.cons h t,a,ha=>by
  rcases hAg.mp ha with rfl|z
  ·exact⟨_,hA6,h⟩
  ·obtain⟨b,hb,hr⟩:=qC3 t a z;exact⟨b,hA4 _ hb,hr⟩
theorem qJf{α β γ:Type}{R:α->β->Prop}{S:α->γ->Prop}(g:β->γ)(h:∀a b,R a b->S a (g b)):∀ {as:List α} {bs:List β},Paired R as bs->Paired S as (bs.map g)
 |_,_,.nil=>.nil
 |_,_,.cons x t=>.cons (h _ _ x) (qJf g h t)
theorem qFe.snoc(hk:H k=some (.lst (as.map V.ref)))(pr:Paired (λa t=>H a=some (.tup (trV t))) as net)(e:Ext H H')(ha:H' a=some (.tup (trV t))):qFe (upd H' k (.lst (as.map V.ref++[V.ref a]))) k (net++[t]):=by
 have hk':=e _ _ hk;have ne:∀ {b:Addr} {xs:List V},H' b=some (.tup xs)->b≠k:=λh z=>by rw[z,hk']at h;cases h
 refine⟨as++[a],by rw[upd_same,hA3];rfl,?_⟩;refine Paired.snoc (Paired.mapP pr λb u z=>?_) ?_
 ·have z':=e _ _ z;rw[qAk (ne z')];exact z'
 ·rw[qAk (ne ha)];exact ha
noncomputable def qMk(t:Tr):List Str:=[t.1,t.2.1,t.2.2]
noncomputable def t0:Tr:=("","","")
theorem qSb:∀ {net:List Tr} {i:Nat},i<net.length->qMk (net.getD i t0)=(net.map qMk).getD i []
 |[],_,h=>absurd h (hC5 _)
 |t :: r,0,_=>rfl
 |t :: r,i+1,h=>by simpa using qSb (net:=r) (i:=i) (by simpa using h)
theorem qO9{H:Hp}:∀ {as:List Addr} {net:List Tr} {i:Nat},Paired (λa t=>H a=some (.tup (trV t))) as net->i<as.length->H (as.getD i 0)=some (.tup (trV (net.getD i t0)))
 |_,_,i,.nil,hi=>absurd hi (hC5 _)
 |_,_,0,.cons h _,_=>h
 |_,_,i+1,.cons _ t,hi=>by simpa using qO9 (i:=i) t (by simpa using hi)
theorem qLl{H:Hp}{as:List Addr}{net:List Tr}(pr:Paired (λa t=>H a=some (.tup (trV t))) as net):∀ {l:List Nat},(∀i∈l,i<as.length)->Paired (λa t=>H a=some (.tup (trV t))) (l.map λi=>as.getD i 0) (l.map λi=>net.getD i t0)
 |[],_=>.nil
 |i :: l,h=>.cons (qO9 pr (h i hA6)) (qLl pr λj hj=>h j (hA4 _ hj))
theorem qI9{net:List Tr}:∀ {l:List Nat},(∀i∈l,i<net.length)->(l.map λi=>net.getD i t0).map qMk=l.map λi=>(net.map qMk).getD i []
 |[],_=>rfl
 |i :: l,h=>by
  rw[hBj,hBj,hBj,qI9 λj hj=>h j (hA4 _ hj),qSb (h i hA6)]
theorem qVx(e:qMk t=qMk u):t=u:=by
 obtain⟨a,b,c⟩:=t;obtain⟨a',b',c'⟩:=u;unfold qMk at e;simp at e;obtain⟨e1,e2,e3⟩:=e;subst e1 e2 e3;rfl
theorem qLo(net:List Tr):(net.map qMk).map (λr=>r.getD 0 "")=net.map (·.1):=by
 rw[hB6];rfl
theorem qOt:∀ {net:List Tr},Srt (net.map qMk)->(net.map (·.1)).Nodup->qEp (net.map (·.1))
 |[],_,_=>List.Pairwise.nil
 |t :: r,h,nd=>by
  rw[hBj]at h nd;obtain⟨h1,h2⟩:=hAr.mp h;obtain⟨n1,n2⟩:=hBe.mp nd;rw[hBj];refine hAr.mpr ⟨λx hx=>?_,qOt h2 n2⟩;obtain⟨u,hu,rfl⟩:=hAb.mp hx;have q:=h1 (qMk u) (hB3 hu);have ne:¬u.1=t.1:=λz=>n1 (z▸hB3 hu)
  unfold qMk ltL at q;rw[hEm ne]at q;rcases qJ8 t.1 u.1 with z|z|z
  ·exact z
  ·exact absurd z.symm ne
  ·rw[z]at q;cases q
def TxT(t:Tr):Prop:=Sm t.1/\Sm t.2.1/\Sm t.2.2
def TxN(net:List Tr):Prop:=∀t∈net,TxT t
def zB7(K:PySem.W.Frag):Sp:=λvs H Q _=>∃(a:Addr) (ns:List Int),vs=[.ref a,.int 1]/\SqL K H a (ns.map V.int)/\∀r net H',Ext H H'->H r=none->qFe H' r net->net.length<=12->TxN net->qEp (net.map (·.1))->Q (.ref r) H'
section
variable{P:Program}{w:World}{K:PySem.W.Frag}{mg:Str->Option Value}{base:Heap}{f f1 f2 f3:Addr}{fd fd1 fd2 fd3:FuncData}
noncomputable abbrev neN:List Str:=["_law_script","_law_at","_law_head","_law_ends_here","_law_ties","_law_knots","_law_net_here","_law_tie","_law_two"]
theorem qK6:FnScope neN ["_law_script","_law_at"] (qAc zEg):=fsk
noncomputable abbrev spr:List Int:=[4,5,3,6,5,9,2,10]
theorem zCx(F:Fun K "_law_net" "_law_net" zEg f fd)
  (G1:v9 2 f1 fd1 ["_law_script","_law_k"] (qQk K) "_law_big")
  (G2:v9 1 f2 fd2 ["_law_big_here","_law_many","_law_spread"] qXu "_law_ends")
  (G3:v9 1 f3 fd3 ["_law_big_here","_law_many"] qJy "_law_names")
  (ml:mg "len"=none) (mz:mg "zip"=none) (mtu:mg "tuple"=none) (mso:mg "sorted"=none):v8 3 f fd ["_law_script","_law_at"] (zB7 K):=by
 refine F.okA qK6 λcdv A outer s H vs Q E hr h=>?_
 obtain⟨a,ns,rfl,hS,q⟩:=h;have hr1:=hr.mono (j:=1) (by decide);refine⟨_,qAa (v4 2 qK6 (qAv G1 hr rfl .nil pass0 (qAe (pv 0) (pa1 (pv 1)))))
  (qAa (v4 3 qK6 (qAv G2 hr1 rfl .nil pass0 (qAe (qAv G1 hr rfl .nil pass0 (qAe (pv 0) (pa1 (qAg qA8 (pv 1) qAb)))) (qAe (qAg qA9 (qAg qA4 (pv 2) qAb) qAb) (qAe
    (qBh qBx (qA2 (qAe qAb (qAe qAb (qAe qAb (qAe qAb (qAe qAb (qAe qAb (qAe qAb (pa1 qAb))))))))) (qAg qA9 (pv 2) qAb) (λ_ _=>rfl)) qAz)))))
  (qAa (v4 4 qK6 (qAv G3 hr1 rfl .nil pass0 (qAe (qAg qA4 (pv 2) qAb) (pa1 (qAh qAi rfl ml hAt (pa1 (pv 3)))))))
  (qAa (v4 5 qK6 (qAv G3 hr1 rfl .nil pass0 (qAe (qAv G1 hr rfl .nil pass0 (qAe (pv 0) (pa1 (qAg qA8 (pv 1) qAb)))) (pa1 qAb))))
  (qAa (v4 6 qK6 (qA2 qAz))
  (qAa (qBf PassesOwn.never rfl (zCq rfl mz (qAe (pv 4) (pa1 (pv 3)))) (qB0 rfl (qAs (v5 7 qK6) (qAs (v5 8 qK6) qBc)))
   (qAd (qCd (qDu hAx hBn hBo qBw (pv 6) (qAe
    (qAg qSv (qA6 (pa1 (pv 7))) (qBp qF3 rfl mtu qFd (pa1 (qAh qCa rfl mso qA3 (qAe
     (qA2 (qAe (qBh qBx (pv 5) (qBh qBq (pv 8) qAb (λ_ _=>rfl)) (λ_ _=>rfl)) (pa1 (qBh qBx (pv 5) (qBh qBq (pv 8) qAb (λ_ _=>rfl)) (λ_ _=>rfl))))) qAz))))) qAz)))))
  (qAd (qAt (qAh qKr rfl mso qA3 (pa1 (pv 6)))))))))),?_⟩
 refine⟨_,rfl,_,rfl,a,ns,1,rfl,hS,by decide,by decide,λhd=>?_⟩;have d1:=hBi (hd / 8) (show(13:Int)≠0 by decide);have d2:=hB9 (hd / 8) (show(0:Int)<13 by decide);have d3:=hBi hd (show(8:Int)≠0 by decide);have d4:=hB9 hd (show(0:Int)<8 by decide);refine⟨_,rfl,_,rfl,_,_,rfl,rfl,a,ns,_,rfl,hS,by decide,by decide,λv1=>?_⟩;refine⟨_,rfl,_,_,rfl,rfl,⟨by decide,by decide⟩,_,_,rfl,rfl,(by show(0:Int)<_;decide),(by show 8<=sizeLine;decide),λL hL=>?_⟩;have X1:=Ext.new hL (.lst (spr.map V.int));obtain⟨sp,spm,spa⟩:=zBp (hs:=spr) d3 (by show hd % 8<8;exact d4);have spb:0<sp/\sp<=10:=by
  have:∀z∈spr,0<z/\z<=10:=by decide
  exact this sp spm
 refine⟨_,rfl,_,_,rfl,rfl,(by show(0:Int)<_;decide),L,spr.map V.int,_,_,rfl,rfl,SqL.of upd_same,spa,?_⟩;refine⟨_,_,sp,rfl,d1,by omega,spb.1,spb.2,λen es H2 e2 en0 hen esl esi=>?_⟩;have E2:=X1.trans e2;obtain⟨bs,hb1,hb2⟩:=id hen;have lb:bs.length=es.length:=hb2.length;have esl':es.length<=12:=by omega
 refine⟨_,rfl,_,_,rfl,rfl,⟨by decide,by decide⟩,_,rfl,en,_,rfl,.inl (SqL.of hb1),?_⟩;refine⟨_,_,rfl,by omega,by rw[hA1];omega,λtl ts H3 e3 tl0 htl tsl tsx tnd=>?_⟩;have E3:=E2.trans e3;refine⟨_,rfl,_,rfl,_,_,rfl,rfl,a,ns,_,rfl,E3.sqL hS,by decide,by decide,λv2=>?_⟩;refine⟨_,10,rfl,by decide,by decide,λkl kn H4 e4 kl0 hkl knl knx _=>?_⟩;have E4:=E3.trans e4;refine⟨hAp _,λnl hnl=>?_⟩;have nl0:=E4.none hnl;have E5:=E4.trans (Ext.new hnl (.lst []));have tsl':ts.length=es.length:=by rw[tsl,hA1,lb];omega
 have mn:min (ts.map V.str).length (bs.map V.ref).length=es.length:=by rw[hA1,hA1,lb,tsl'];exact Nat.min_self _
 have htl5:=(Ext.new hnl (.lst [])) _ _ (e4 _ _ htl);have hen5:=(Ext.new hnl (.lst [])) _ _ (e4 _ _ (e3 _ _ hb1));refine⟨_,rfl,_,rfl,tl,en,_,_,rfl,SqL.of htl5,SqL.of hen5,?_⟩;refine qIn (λi σ H6=>∃(x7 x8:Option V) (net:List Tr),σ=[some (.ref a),some (.int 1),some (.int hd),some (.ref en),some (.ref tl),some (.ref kl),some (.ref nl),x7,x8]/\Ext H4 H6/\qFe H6 nl net/\net.length=i/\TxN net/\net.map (·.1)=ts.take i)
  ⟨none,none,[],rfl,Ext.new hnl _,⟨[],upd_same,.nil⟩,rfl,(λt ht=>by cases ht),rfl⟩ ?_ ?_ ?_
 ·rintro i σ H6 _ ⟨x7,x8,net,_,e6,_⟩;exact⟨SqL.of (e6 _ _ (e4 _ _ htl)),SqL.of (e6 _ _ (e4 _ _ (e3 _ _ hb1)))⟩
 ·rintro i σ H6 T hi ⟨x7,x8,net,rfl,e6,nt,nl',tx,nm⟩ hT;rw[mn]at hi;have hit:i<ts.length:=by omega
  have hib:i<bs.length:=by omega
  have g1:(ts.map V.str).getD i .non = .str ts[i]:=by rw[hA7,hAi,hA2 hit];rfl
  have g2:(bs.map V.ref).getD i .non = .ref bs[i]:=by rw[hA7,hAi,hA2 hib];rfl
  obtain⟨e,he,hbe⟩:=qAr hb2 (hA2 hib);obtain⟨⟨i0,i1⟩,j0,j1⟩:=esi e (hAh he);obtain⟨k1,k1m,k1a⟩:=qUp (hs:=kn) i0 (by rw[knl];show e.1<10;omega);obtain⟨k2,k2m,k2a⟩:=qUp (hs:=kn) j0 (by rw[knl];show e.2<10;omega);obtain⟨as,ea1,ea2⟩:=id nt;have la:as.length=net.length:=ea2.length;dsimp only;rw[g1,g2];have Y1:=Ext.new hT (.tup [V.str ts[i],V.ref bs[i]]);refine⟨T,_,rfl,SqT.of upd_same,rfl,_,_,rfl,_,_,rfl,rfl,?_⟩;refine⟨_,rfl,.inl ⟨rfl,_,SqL.of (Y1 _ _ ea1)⟩,_,rfl,(by show 1<=sizeLine;decide),λT1 hT1=>?_⟩;have Y2:=Y1.trans (Ext.new hT1 (.tup [V.str ts[i]]));have hb6:=Y2 _ _ (e6 _ _ (e4 _ _ (e3 _ _ hbe)));have hk6:=Y2 _ _ (e6 _ _ hkl);refine⟨_,rfl,_,rfl,bs[i],_,_,_,rfl,rfl,SqT.of hb6,(by exact qAy (j:=0) rfl),kl,_,_,_,rfl,rfl,SqL.of hk6,k1a,?_⟩;refine⟨_,rfl,_,rfl,bs[i],_,_,_,rfl,rfl,SqT.of hb6,(by exact qAy (j:=1) rfl),kl,_,_,_,rfl,rfl,SqL.of hk6,k2a,?_⟩;refine⟨(by show 2<=sizeLine;decide),λL2 hL2=>⟨L2,[k1,k2],rfl,SqL.of upd_same,(by show 2<64;decide),λS ss hS' perm srt=>?_⟩⟩;have Y3:=Y2.trans (Ext.new hL2 (.lst [V.str k1,V.str k2]));have Y4:=Y3.trans (Ext.new hS' (.lst (ss.map V.str)));refine⟨S,_,rfl,.inl ⟨SqL.of upd_same,λT2 hT2=>?_⟩⟩;have lss:ss.length=2:=perm.length_eq;obtain⟨x,y,rfl⟩:∃x y,ss=[x,y]:=by
   match ss,lss with
   |[x,y],_=>exact⟨x,y,rfl⟩
  have sx:Sm x:=by
   have:x∈[k1,k2]:=perm.mem_iff.mp (by simp);simp at this;rcases this with rfl|rfl
   ·exact(knx _ k1m).1.sm
   ·exact(knx _ k2m).1.sm
  have sy:Sm y:=by
   have:y∈[k1,k2]:=perm.mem_iff.mp (by simp);simp at this;rcases this with rfl|rfl
   ·exact(knx _ k1m).1.sm
   ·exact(knx _ k2m).1.sm
  have Y5:=Y4.trans (Ext.new hT2 (.tup ([x,y].map V.str)));have t1:upd (upd H6 T (.tup [V.str ts[i],V.ref bs[i]])) T1 (.tup [V.str ts[i]]) T1=some (.tup [V.str ts[i]]):=upd_same;have t15:=Ext.new hT2 (.tup ([x,y].map V.str)) _ _ (Ext.new hS' (.lst ([x,y].map V.str)) _ _ (Ext.new hL2 (.lst [V.str k1,V.str k2]) _ _ t1));refine⟨T1,T2,_,_,rfl,rfl,SqT.of t15,SqT.of upd_same,(by simp),(by show 3<=sizeLine;decide),(λz=>by cases z),λ_ T3 hT3=>?_⟩;have Y6:=Y5.trans (Ext.new hT3 (.tup (trV (ts[i],x,y))));refine⟨nl,_,_,rfl,rfl,Y6 _ _ ea1,?_,?_⟩
  ·rw[hA1];exact qAf (by omega)
  ·refine⟨_,_,net++[(ts[i],x,y)],rfl,(e6.trans Y6).over hnl _,qFe.snoc ea1 ea2 Y6 upd_same,by rw[hAc,nl'];rfl,(λt ht=>?_),by rw[hA3,nm,qAl (hA2 hit)];rfl⟩;rcases hAd.mp ht with z|z
   ·exact tx t z
   ·rw[hA9]at z;subst z;exact⟨(tsx _ (hC4 hit)).1.sm,sx,sy⟩
 ·rintro σ H6 ⟨x7,x8,net,rfl,e6,nt,nl',tx,nm⟩;rw[mn]at nl' nm;obtain⟨as,ea1,ea2⟩:=id nt;have la:as.length=net.length:=ea2.length;refine⟨_,rfl,nl,as,net.map qMk,rfl,SqL.of ea1,qJf _ (λa t z=>⟨SqT.of z,by simp[qMk]⟩) ea2,by omega,λr o hr' g sp=>?_⟩;have E6:=E4.trans e6;have gm:∀i∈o.toList,i<as.length:=λi hi=>qL0 g hi
  have gm':∀i∈o.toList,i<net.length:=λi hi=>by have:=gm i hi;omega
  have gl:=qPq g;have lt:as.length=(net.map qMk).length:=by rw[hA1];exact la
  rw[lt]at g sp;obtain⟨s1,s2⟩:=qEm g sp;rw[<-qI9 gm']at s1 s2;have nd:((o.toList.map λi=>net.getD i t0).map (·.1)).Nodup:=by
   rw[<-qLo];refine(s2.map _).nodup_iff.mpr ?_;rw[qLo,nm,<-tsl',hA5 (hAa _)];refine tnd ?_;rw[hA1];omega
  refine q r (o.toList.map λi=>net.getD i t0) _ (E6.trans (Ext.new hr' _)) (E6.none hr') ⟨_,upd_same,Paired.mapP (qLl ea2 gm) λa' t z=>Ext.new hr' _ _ _ z⟩ ?_ (λt ht=>?_) (qOt s1 nd)
  ·rw[hA1,gl];omega
  ·have m:qMk t∈net.map qMk:=s2.mem_iff.mp (hB3 ht);obtain⟨u,hu,e⟩:=hAb.mp m;rw[<-qVx e];exact tx u hu
end
section
variable{K:PySem.W.Frag}
theorem qHr(h:Tr->Str)(hp:H1 p=some (.lst (as.map V.ref)))(pr:Paired (λa t=>H1 a=some (.tup (trV t))) as net)(ln:net.length<=12)
  (hs:∀a t,H1 a=some (.tup (trV t))->∀(C:V->Hp->Prop) (B:Hp->Prop),C (.str (h t)) H1->g (.ref a) σ0 H1 λσ2 H2=>Sle σ0 σ2/\tt σ2 H2 λb H3=>if b=true then te σ2 H3 C else B H3)
  (hd:Q ((net.map h).map V.str) H1):qEf (Itl K p) σ0 g tt te Q H1:=by
 have lA:as.length=net.length:=pr.length;refine qAq (xs:=as.map V.ref) (λj ys H2=>H2=H1/\ys=((net.take j).map h).map V.str) ⟨rfl,rfl⟩ (λj ys H2 _ h=>by rw[h.1];exact SqL.of hp) ?_ ?_
 ·rintro j x ys H2 hx ⟨rfl,rfl⟩;obtain⟨a,t,rfl,ht,ha⟩:=zAx pr hx;have hi:=qAu ht;have sz:(((net.take j).map h).map V.str).length<sizeLine:=by
   rw[hA1,hA1,hAk];exact qAf (by omega)
  exact hs a t ha _ _ ⟨sz,nxt (qAu hx) ⟨rfl,by rw[qAl ht,hA3,hA3];rfl⟩⟩
 ·rintro ys H2 ⟨rfl,rfl⟩;rw[hA1,lA,hA5 (hAa _)];exact hd
end
end My
namespace My
theorem qDs(h:x<2^i)(hj:i<=j):x.testBit j=false :=
 hDj (hAn h (hBf (by decide) hj))
theorem qY5(h:x.testBit i=true):2^i<=x:=by
 rcases Nat.lt_or_ge x (2^i) with z|z
 ·rw[hDj z]at h;cases h
 ·exact z
theorem qTd(h1:x.testBit i=true)(h2:x<2^(i+1)):x.log2=i:=by
 have g:=qY5 h1;have nz:x≠0:=λz=>by subst z;simp at h1
 have a:=(hEg nz).mpr h2;have b:=(Nat.le_log2 nz).mpr g;omega
theorem zBz{x i:Nat}(h:x.testBit i=true):i<=x.log2:=by
 have nz:x≠0:=λz=>by subst z;simp at h
 exact(Nat.le_log2 nz).mpr (qY5 h)
theorem qU3{x i:Nat}(h:x.log2<i):x.testBit i=false:=qDs hDl h
theorem qGu(h:n % 2=0):n^^^1=n+1:=by
 have d:(n^^^1) / 2=n / 2:=by rw[Nat.xor_div_two];simp
 have b:(n^^^1).testBit 0=true:=by rw[hAo,hB1,hB1];simp[h]
 rw[hB1]at b;have b':=hEl b;omega
theorem qMl(h:n % 2=1):n^^^1=n-1:=by
 have d:(n^^^1) / 2=n / 2:=by rw[Nat.xor_div_two];simp
 have b:(n^^^1).testBit 0=false:=by rw[hAo,hB1,hB1];simp[h]
 rw[hB1]at b;have b':=hFk b;omega
theorem qVc(hs:s≠0):s >>> s.log2=1:=by
 rw[hDs];have a:=Nat.log2_self_le hs;have b:s<2^(s.log2+1):=hDl;rw[hDp]at b;have p:0<2^s.log2:=Nat.pow_pos (by decide);exact Nat.div_eq_of_lt_le (by omega) (by omega)
theorem qIz(x:Nat)(hs:s≠0):x^^^s<x↔x.testBit s.log2=true:=by
 have e:(x^^^s) >>> s.log2=(x >>> s.log2)^^^1:=by rw[Nat.shiftRight_xor_distrib,qVc hs]
 have tb:x.testBit s.log2=decide ((x >>> s.log2) % 2=1):=by rw[hCy,hDs]
 rw[tb];have lt:∀ {a b:Nat},a >>> s.log2<b >>> s.log2->a<b:=λ{a b} h=>by
  rw[hDs,hDs]at h;rcases Nat.lt_or_ge a b with z|z
  ·exact z
  ·have:=Nat.div_le_div_right (c:=2^s.log2) z;omega
 rcases hC3 (x >>> s.log2) with h|h
 ·rw[qGu h]at e;have:x<x^^^s:=lt (by omega);constructor
  ·intro z;omega
  ·intro z;rw[h]at z;simp at z
 ·rw[qMl h]at e;have:x^^^s<x:=lt (by rw[e];exact Nat.sub_one_lt λz=>by rw[z]at h;cases h);exact⟨λ_=>by simp[h],λ_=>this⟩
noncomputable def rd1(x s:Nat):Nat:=if x.testBit s.log2=true then x^^^s else x
theorem zAy(x:Nat)(hs:s≠0):(if x^^^s<x then x^^^s else x)=rd1 x s:=by
 unfold rd1;by_cases h:x.testBit s.log2=true
 ·rw[hEn h,hEn ((qIz x hs).mpr h)]
 ·rw[hEm h,hEm (λz=>h ((qIz x hs).mp z))]
theorem qCv(x s i:Nat):(rd1 x s).testBit i=(x.testBit i ^^ (x.testBit s.log2 && s.testBit i)):=by
 unfold rd1;by_cases h:x.testBit s.log2=true
 ·rw[hEn h,hAo,h,hCv]
 ·rw[hEm h];have:x.testBit s.log2=false:=by simpa using h
  rw[this];simp
theorem qV1(s:Nat):rd1 0 s=0:=by unfold rd1;simp
theorem qZt(x y s:Nat):rd1 (x^^^y) s=rd1 x s^^^rd1 y s:=by
 refine hAl λi=>?_
 rw[qCv,hAo,hAo,hAo,qCv,qCv];cases x.testBit i <;> cases y.testBit i <;> cases x.testBit s.log2 <;> cases y.testBit s.log2 <;> cases s.testBit i <;> rfl
noncomputable def red1(k:List Nat)(x:Nat):Nat:=k.foldl rd1 x
theorem qEa:∀k:List Nat,red1 k 0=0
 |[]=>rfl
 |s :: k=>by show red1 k (rd1 0 s)=0;rw[qV1];exact qEa k
theorem qKc:∀(k:List Nat) (x y:Nat),red1 k (x^^^y)=red1 k x^^^red1 k y
 |[],_,_=>rfl
 |s :: k,x,y=>by show red1 k (rd1 (x^^^y) s)=red1 k (rd1 x s)^^^red1 k (rd1 y s);rw[qZt];exact qKc k _ _
structure RR(k:List Nat):Prop where
 nz:∀s∈k,s≠0
 ap:k.Pairwise λs t=>t.testBit s.log2=false/\s.testBit t.log2=false
theorem RR.nil:RR []:=⟨λs h=>(by cases h),.nil⟩
theorem RR.tl(h:RR (s :: k)):RR k:=⟨λt ht=>h.nz t (hA4 _ ht),(hAr.mp h.ap).2⟩
theorem RR.hd(h:RR (s :: k)):∀t∈k,t.testBit s.log2=false/\s.testBit t.log2=false:=(hAr.mp h.ap).1
theorem RR.ne:∀ {k:List Nat},RR k->∀ {s t:Nat},s∈k->t∈k->s≠t->s.testBit t.log2=false
 |[],_,_,_,hs,_,_=>by cases hs
 |a :: k,h,s,t,hs,ht,e=>by
  rcases hAg.mp hs with rfl|zs
  ·rcases hAg.mp ht with rfl|zt
   ·exact absurd rfl e
   ·exact(h.hd t zt).2
  ·rcases hAg.mp ht with rfl|zt
   ·exact(h.hd s zs).1
   ·exact RR.ne h.tl zs zt e
theorem RR.self(h:RR k)(hs:s∈k):s.testBit s.log2=true:=hBt (h.nz s hs)
theorem RR.nd(h:RR k):k.Nodup:=by
 have:∀ {k:List Nat},RR k->k.Nodup:=λ{k} h=>by
  induction k with
  |nil=>exact List.nodup_nil
  |cons s k ih =>
   refine hBe.mpr ⟨λz=>?_,ih h.tl⟩;have:=(h.hd s z).1;rw[h.self hA6]at this;cases this
 exact this h
theorem qLb:∀ {k:List Nat} {x i:Nat},RR k->(∀s∈k,x.testBit s.log2=true->s.testBit i=false)->(red1 k x).testBit i=x.testBit i
 |[],_,_,_,_=>rfl
 |s :: k,x,i,h,hx=>by
  show(red1 k (rd1 x s)).testBit i=_;have b1:(rd1 x s).testBit i=x.testBit i:=by
   rw[qCv];cases q:x.testBit s.log2 with
   |false=>simp
   |true=>rw[hx s hA6 q];simp
  rw[qLb h.tl λt ht hb=>?_,b1];refine hx t (hA4 _ ht) ?_;rw[qCv,(h.hd t ht).2]at hb
  simpa using hb
theorem qH6:∀ {k:List Nat} {x:Nat},RR k->∀s∈k,(red1 k x).testBit s.log2=false
 |[],_,_,_,hs=>by cases hs
 |a :: k,x,h,s,hs=>by
  show(red1 k (rd1 x a)).testBit s.log2=false;rcases hAg.mp hs with rfl|z
  ·rw[qLb h.tl λt ht _=>(h.hd t ht).1,qCv,h.self hA6];cases x.testBit s.log2 <;> rfl
  ·exact qH6 h.tl s z
theorem qO0:∀ {k:List Nat},RR k->∀s∈k,red1 k s=0
 |[],_,_,hs=>by cases hs
 |a :: k,h,s,hs=>by
  show red1 k (rd1 s a)=0;rcases hAg.mp hs with rfl|z
  ·have:rd1 s s=0:=by unfold rd1;rw[hEn (h.self hA6),hC1]
   rw[this];exact qEa k
  ·have:rd1 s a=s:=by unfold rd1;rw[hEm (by rw[(h.hd s z).1];decide)]
   rw[this];exact qO0 h.tl s z
inductive Spn (l:List Nat):Nat->Prop
 |zero:Spn l 0
 |add {x y:Nat}:x∈l->Spn l y->Spn l (x^^^y)
theorem Spn.mem(h:x∈l):Spn l x:=by
 have:=Spn.add h Spn.zero
 rwa [Nat.xor_zero]at this
theorem Spn.xor(h:Spn l x)(h':Spn l y):Spn l (x^^^y):=by
 induction h with
 |zero=>rwa [hCg]
 |add m _ ih=>rw[hBu];exact .add m ih
theorem Spn.mono(h:∀x∈l,Spn l' x)(hy:Spn l y):Spn l' y:=by
 induction hy with
 |zero=>exact .zero
 |add m _ ih=>exact(h _ m).xor ih
theorem Spn.lt(h:∀x∈l,x<2^m)(hy:Spn l y):y<2^m:=by
 induction hy with
 |zero=>exact Nat.pow_pos (by decide)
 |add hm _ ih=>exact hCd (h _ hm) ih
theorem qA1(x y:Nat):(x^^^y)^^^y=x:=by rw[hBu,hC1,Nat.xor_zero]
theorem qZs(hs:s∈k):Spn k (rd1 x s^^^x):=by
 unfold rd1;split
 ·rw[hDf x s,qA1];exact .mem hs
 ·rw[hC1];exact .zero
theorem qEk(k:List Nat):∀(k':List Nat),(∀s∈k',s∈k)->∀x,Spn k (red1 k' x^^^x)
 |[],_,x=>by show Spn k (x^^^x);rw[hC1];exact .zero
 |s :: k',h,x=>by
  have a:=qEk k k' (λt ht=>h t (hA4 _ ht)) (rd1 x s);have b:=qZs (x:=x) (h s hA6);have c:=a.xor b;rw[<-hBu,qA1]at c;exact c
theorem qN8(h:RR k)(hy:Spn k y):red1 k y=0:=by
 induction hy with
 |zero=>exact qEa k
 |add m _ ih=>rw[qKc,qO0 h _ m,ih];rfl
noncomputable def qQr(k:List Nat)(x:Nat):List Nat:=if red1 k x=0 then k else k.map (λs=>rd1 s (red1 k x))++[red1 k x]
noncomputable def red(xs:List Nat):List Nat:=xs.foldl qQr []
theorem qEj(xs:List Nat)(x:Nat):red (xs++[x])=qQr (red xs) x:=by unfold red;rw[hBm];rfl
theorem qO1{s f:Nat}(hs:s≠0)(hf:f≠0)(h:f.testBit s.log2=false):(rd1 s f).log2=s.log2/\rd1 s f≠0:=by
 have ss:=hBt hs;have bit:(rd1 s f).testBit s.log2=true:=by rw[qCv,ss,h];simp
 refine⟨qTd bit ?_,λz=>by rw[z]at bit;simp at bit⟩;unfold rd1;split
 ·rename_i q;have le:=zBz q;exact hCd hDl (hAn hDl (hBf (by decide) (by omega)))
 ·exact hDl
theorem RR.step(h:RR k)(x:Nat):RR (qQr k x):=by
 unfold qQr;by_cases z:red1 k x=0
 ·rw[hEn z];exact h
 rw[hEm z];have ld:=λs hs=>qH6 (x:=x) h s hs
 generalize red1 k x=f at z ld;have l2:∀s∈k,(rd1 s f).log2=s.log2/\rd1 s f≠0:=λs hs=>qO1 (h.nz s hs) z (ld s hs)
 have ff:=hBt z;refine⟨λs hs=>?_,?_⟩
 ·rcases hAd.mp hs with w|w
  ·obtain⟨u,hu,rfl⟩:=hAb.mp w;exact(l2 u hu).2
  ·rw[hA9]at w;rw[w];exact z
 ·rw[hBc];refine⟨?_,hBw _ _,λa ha b hb=>?_⟩
  ·rw[hBb];refine hBp (λ{a b} ha hb r=>?_) h.ap;rw[(l2 a ha).1,(l2 b hb).1,qCv,qCv,r.1,r.2,ld a ha,ld b hb];simp
  ·rw[hA9]at hb;obtain⟨u,hu,rfl⟩:=hAb.mp ha;subst hb;refine⟨by rw[(l2 u hu).1];exact ld u hu,?_⟩;rw[qCv,ff];cases u.testBit b.log2 <;> rfl
theorem qVz(x y:Nat):Spn (qQr k x) y↔Spn (k++[x]) y:=by
 have rx:=qEk k k (λ_ h=>h) x;unfold qQr;have inl:∀ {z},Spn k z->Spn (k++[x]) z:=λ{z} hz=>hz.mono λu hu=>.mem (hAe _ hu)
 have xm:Spn (k++[x]) x:=.mem (by simp);by_cases z:red1 k x=0
 ·rw[hEn z];rw[z,hCg]at rx;refine⟨inl,λh=>h.mono λu hu=>?_⟩;rcases hAd.mp hu with w|w
  ·exact .mem w
  ·rw[hA9]at w;rw[w];exact rx
 rw[hEm z];have fm:Spn (k++[x]) (red1 k x):=by
  have:=(inl rx).xor xm
  rwa [qA1]at this
 revert rx fm;generalize red1 k x=f;intro rx fm;have ff:Spn (k.map (λs=>rd1 s f)++[f]) f:=.mem (by simp);have sk:∀s∈k,Spn (k.map (λs=>rd1 s f)++[f]) s:=λs hs=>by
  have a:Spn (k.map (λs=>rd1 s f)++[f]) (rd1 s f):=.mem (hAe _ (hB3 (f:=λs=>rd1 s f) hs));by_cases q:s.testBit f.log2=true
  ·have b:=a.xor ff;rw[show rd1 s f=s^^^f from hEn q,qA1]at b;exact b
  ·rw[show rd1 s f=s from hEm q]at a;exact a
 constructor
 ·intro h;refine h.mono λu hu=>?_
  rcases hAd.mp hu with w|w
  ·obtain⟨s,hs,rfl⟩:=hAb.mp w;unfold rd1;split
   ·exact(inl (.mem hs)).xor fm
   ·exact inl (.mem hs)
  ·rw[hA9]at w;rw[w];exact fm
 ·intro h;refine h.mono λu hu=>?_
  rcases hAd.mp hu with w|w
  ·exact sk u w
  ·rw[hA9]at w;subst w;have b:=ff.xor (rx.mono sk);rw[<-hBu,hC1,hCg]at b;exact b
theorem qFh{P:List Nat->Prop}(h0:P [])(hs:∀l t,P l->P (l++[t]))(l:List Nat):P l:=by
 have:∀r:List Nat,P r.reverse:=λr=>by
  induction r with
  |nil=>exact h0
  |cons a r ih=>rw[List.reverse_cons];exact hs _ _ ih
 have q:=this l.reverse
 rwa [List.reverse_reverse]at q
theorem qCi(xs:List Nat):RR (red xs):=qFh (P:=λxs=>RR (red xs)) RR.nil (λl t ih=>by rw[qEj];exact ih.step t) xs
theorem qBs(xs:List Nat):∀y,Spn (red xs) y↔Spn xs y:=by
 refine qFh (P:=λxs=>∀y,Spn (red xs) y↔Spn xs y) (λy=>Iff.rfl) (λl t ih y=>?_) xs;rw[qEj,qVz];constructor
 ·exact λh=>h.mono λu hu=>by
   rcases hAd.mp hu with w|w
   ·exact((ih u).mp (.mem w)).mono λv hv=>.mem (hAe _ hv)
   ·exact .mem (hA8 _ w)
 ·exact λh=>h.mono λu hu=>by
   rcases hAd.mp hu with w|w
   ·exact((ih u).mpr (.mem w)).mono λv hv=>.mem (hAe _ hv)
   ·exact .mem (hA8 _ w)
theorem qOy(h:∀x∈xs,x<2^m):∀s∈red xs,s<2^m:=λs hs=>Spn.lt h ((qBs xs s).mp (.mem hs))
def Fsh(xs:List Nat):Prop:=∀i x,xs[i]?=some x->∃j,x.testBit j=true/\∀y∈xs.take i,y.testBit j=false
theorem qJw(h:∀x∈l,x.testBit j=false)(hy:Spn l y):y.testBit j=false:=by
 induction hy with
 |zero=>simp
 |add m _ ih=>rw[hAo,h _ m,ih];rfl
noncomputable def xsum:Nat->(Nat->Bool)->Bool
 |0,_=>false
 |m+1,f=>xsum m f ^^ f m
theorem qB8:∀ {m:Nat},(∀j,j<m->f j=g j)->xsum m f=xsum m g
 |0,_=>rfl
 |m+1,h=>by unfold xsum;rw[qB8 λj hj=>h j (by omega),h m (by omega)]
theorem qHa(f g:Nat->Bool):∀m:Nat,xsum m (λj=>f j ^^ g j)=(xsum m f ^^ xsum m g)
 |0=>rfl
 |m+1=>by
  unfold xsum;rw[qHa f g m];show((xsum m f ^^ xsum m g) ^^ (f m ^^ g m))=_;cases xsum m f <;> cases xsum m g <;> cases f m <;> cases g m <;> rfl
theorem qDi:∀m:Nat,xsum m (λ_=>false)=false
 |0=>rfl
 |m+1=>by unfold xsum;rw[qDi m];rfl
theorem qHb:∀ {m:Nat},(∀j,j<m->j≠l->f j=false)->xsum m f=(decide (l<m) && f l)
 |0,_=>by simp[xsum]
 |m+1,h=>by
  unfold xsum;rw[qHb (m:=m) λj hj=>h j (by omega)];by_cases e:l=m
  ·subst e;simp
  ·have n:=h m (by omega) (λz=>e z.symm);rw[n];have:decide (l<m)=decide (l<m+1):=by
    by_cases q:l<m
    ·rw[hEi q,hEi (by omega)]
    ·rw[hEj q,hEj (by omega)]
   rw[this];simp
noncomputable def dot(m x y:Nat):Bool:=xsum m λj=>x.testBit j && y.testBit j
theorem qW1(m x x' y:Nat):dot m (x^^^x') y=(dot m x y ^^ dot m x' y):=by
 unfold dot;rw[<-qHa];refine qB8 λj _=>?_
 rw[hAo];cases x.testBit j <;> cases x'.testBit j <;> cases y.testBit j <;> rfl
theorem qT0(m x y y':Nat):dot m x (y^^^y')=(dot m x y ^^ dot m x y'):=by
 unfold dot;rw[<-qHa];refine qB8 λj _=>?_
 rw[hAo];cases x.testBit j <;> cases y.testBit j <;> cases y'.testBit j <;> rfl
theorem qW0(m y:Nat):dot m 0 y=false:=by
 unfold dot;rw[qB8 (g:=λ_=>false) λj _=>by simp,qDi]
theorem qTz(m y:Nat):dot m y 0=false:=by
 unfold dot;rw[qB8 (g:=λ_=>false) λj _=>by simp,qDi]
theorem zBk(hp:p<m):dot m (2^p) y=y.testBit p:=by
 unfold dot;rw[qHb (l:=p) λj _ ne=>by rw[hB4,hEj (λz=>ne z.symm)];rfl];rw[hB4];simp[hp]
theorem qY8(h:∀s∈l,dot m y s=false)(hz:Spn l z):dot m y z=false:=by
 induction hz with
 |zero=>exact qTz m y
 |add hm _ ih=>rw[qT0,h _ hm,ih];rfl
theorem qN3:∀(l x:Nat),x.testBit l=false->2^l+x=2^l^^^x
 |0,x,h=>by
  have e:x % 2=0:=by
   rw[hB1]at h;have:=hFk h;omega
  show 1+x=1^^^x;rw[hDf,qGu e,Nat.add_comm]
 |l+1,x,h=>by
  rw[hCj]at h;have ih:=qN3 l (x / 2) h;have d:(2^(l+1)^^^x) / 2=2^l+x / 2:=by
   rw[Nat.xor_div_two,ih,hDp,Nat.mul_div_cancel _ (by decide)]
  have b:(2^(l+1)^^^x).testBit 0=x.testBit 0:=by rw[hAo,hB4];simp
  rw[hB1,hB1]at b;have b':(2^(l+1)^^^x) % 2=1↔x % 2=1:=by simpa using b
  have p:=hDp (n:=2) (m:=l);rcases hC3 x with q|q
  ·have:¬(2^(l+1)^^^x) % 2=1:=λz=>by have:=b'.mp z;omega
   omega
  ·have:=b'.mpr q;omega
theorem qJs:∀(L:List Nat),L.Nodup->∀j,((L.map λl=>2^l).sum).testBit j=decide (j∈L)
 |[],_,j=>by simp
 |l :: L,nd,j=>by
  obtain⟨n1,n2⟩:=hBe.mp nd;have ih:=qJs L n2;rw[hBj,hDd,qN3 l _ (by rw[ih l,hEj n1]),hAo,ih j,hB4];by_cases e:l=j
  ·subst e;simp[n1]
  ·have e':¬j=l:=λz=>e z.symm
   simp[e,e']
noncomputable def crM(S:List Nat)(p:Nat):Nat:=2^p+((S.filter λs:Nat=>s.testBit p).map λs:Nat=>2^s.log2).sum
def zFi(S:List Nat)(p:Nat):Prop:=∃s∈S,s.log2=p
instance (S:List Nat):DecidablePred (zFi S):=λp=>inferInstanceAs (Decidable (∃s∈S,s.log2=p))
theorem zA3:∀ {S:List Nat},RR S->(S.map Nat.log2).Nodup
 |[],_=>List.nodup_nil
 |s :: S,h=>by
  rw[hBj];refine hBe.mpr ⟨λz=>?_,zA3 h.tl⟩;obtain⟨t,ht,e⟩:=hAb.mp z;have a:=(h.hd t ht).1;rw[<-e,h.self (hA4 _ ht)]at a;cases a
noncomputable def zDs(S:List Nat)(m:Nat):List Nat:=((List.range m).filter λp=>!decide (zFi S p)).map (crM S)
noncomputable def xl(L:List Nat):Nat:=L.foldr (·^^^·) 0
end My
namespace My
open PySem
theorem qUs:∀(n a b:Nat),a<n->a+b=(a^^^b)+2*(a&&&b)
 |0,_,_,h=>absurd h (hC5 _)
 |n+1,a,b,h=>by
  by_cases a0:a=0
  ·subst a0;simp
  have ih:=qUs n (a / 2) (b / 2) (by omega);have d1:(a^^^b) / 2=a / 2^^^b / 2:=Nat.xor_div_two;have d2:(a&&&b) / 2=a / 2&&&b / 2:=Nat.and_div_two;have b1:(a^^^b).testBit 0=(a.testBit 0 ^^ b.testBit 0):=hAo ..;have b2:(a&&&b).testBit 0=(a.testBit 0 && b.testBit 0):=hAv ..;rw[hB1,hB1,hB1]at b1 b2;rw[<-d1,<-d2]at ih;generalize a^^^b=X at b1 ih ⊢;generalize a&&&b=Y at b2 ih ⊢;rcases hC3 a with p|p <;> rcases hC3 b with q|q <;> rw[p,q]at b1 b2 <;> simp at b1 b2 <;> omega
theorem qCp(a b:Nat):Builtin.bitAnd (a:Int) (b:Int)=((a&&&b:Nat):Int):=by
 unfold Builtin.bitAnd;rw[hEi (hD7 a),hEi (hD7 b)];simp
theorem qCh(a b:Nat):Builtin.bitXor (a:Int) (b:Int)=((a^^^b:Nat):Int):=by
 have e:=qUs (a+1) a b (hCa a);have h:Builtin.bitXor (a:Int) (b:Int)=(a:Int)+b-2*Builtin.bitAnd a b:=by
  have x:∀x y:Int,Builtin.bitNot (Builtin.bitNot x)=x:=λx y=>by unfold Builtin.bitNot;omega
  unfold Builtin.bitXor Builtin.bitOr;have na:¬(0:Int)<=Builtin.bitNot (a:Int):=by unfold Builtin.bitNot;omega
  have nb:¬(0:Int)<=Builtin.bitNot (b:Int):=by unfold Builtin.bitNot;omega
  have o:Builtin.bitAnd (Builtin.bitNot (a:Int)) (Builtin.bitNot (b:Int))=Builtin.bitNot ((a ||| b:Nat):Int):=by
   unfold Builtin.bitAnd;rw[hEj na,hEj nb];show Builtin.bitNot _=_;rw[x a 0,x b 0];simp
  rw[o,x _ 0,qCp];have e2:(a ||| b)+(a&&&b)=a+b:=by
   have:=qMj (a+1) a b (hCa a);omega
  omega
 rw[h,qCp];omega
where
 qMj:∀(n a b:Nat),a<n->(a ||| b)+(a&&&b)=a+b
 |0,_,_,h=>absurd h (hC5 _)
 |n+1,a,b,h=>by
  by_cases a0:a=0
  ·subst a0;simp
  have ih:=qMj n (a / 2) (b / 2) (by omega);have d1:(a ||| b) / 2=a / 2 ||| b / 2:=Nat.or_div_two
  have d2:(a&&&b) / 2=a / 2&&&b / 2:=Nat.and_div_two;have b1:(a ||| b).testBit 0=(a.testBit 0 || b.testBit 0):=hCk ..;have b2:(a&&&b).testBit 0=(a.testBit 0 && b.testBit 0):=hAv ..;rw[hB1,hB1,hB1]at b1 b2;rw[<-d1,<-d2]at ih;generalize a ||| b=X at b1 ih ⊢
  generalize a&&&b=Y at b2 ih ⊢;rcases hC3 a with p|p <;> rcases hC3 b with q|q <;> rw[p,q]at b1 b2 <;> simp at b1 b2 <;> omega
theorem qYe:∀(n f:Nat),f<n->f≠0->∃i,f.testBit i=true/\∀j,j<i->f.testBit j=false
 |0,_,h,_=>absurd h (hC5 _)
 |n+1,f,h,nz=>by
  rcases hC3 f with p|p
  ·obtain⟨i,h1,h2⟩:=qYe n (f / 2) (by omega) (by omega);refine⟨i+1,by rw[hCj];exact h1,λj hj=>?_⟩;cases j with
   |zero=>rw[hB1,p];rfl
   |succ j=>rw[hCj];exact h2 j (by omega)
  ·exact⟨0,by rw[hB1,p];rfl,λj hj=>absurd hj (hC5 _)⟩
noncomputable def lo(f:Nat):Nat:=Classical.epsilon λi=>f.testBit i=true/\∀j,j<i->f.testBit j=false
theorem qGo(h:f≠0):f.testBit (lo f)=true/\∀j,j<lo f->f.testBit j=false :=
 Classical.epsilon_spec (qYe (f+1) f (hCa _) h)
theorem qKe:∀(i f:Nat),f.testBit i=true->(∀j,j<i->f.testBit j=false)->∀j,(f-1).testBit j=(decide (j<i) || (decide (i<j) && f.testBit j))
 |0,f,h1,_,j=>by
  rw[hB1]at h1;have p:=hEl h1;cases j with
  |zero=>rw[hB1];simp;omega
  |succ j=>rw[hCj,hCj,show(f-1) / 2=f / 2 by omega];simp
 |i+1,f,h1,h2,j=>by
  have z:=h2 0 (by omega);rw[hB1]at z;have p:=hFk z;rw[hCj]at h1;have nz:f / 2≠0:=λw=>by rw[w]at h1;simp at h1
  cases j with
  |zero=>rw[hB1];simp;omega
  |succ j =>
   rw[hCj,hCj,show(f-1) / 2=f / 2-1 by omega,qKe i (f / 2) h1 (λk hk=>by have:=h2 (k+1) (by omega);rwa [hCj]at this) j];simp
theorem qPf(e:Nat){f:Nat}(nz:f≠0):Builtin.bitAnd (Builtin.bitAnd (e:Int) (f:Int)) (-(f:Int))≠0↔e.testBit (lo f)=true:=by
 obtain⟨h1,h2⟩:=qGo nz;rw[qCp];have ev:Builtin.bitAnd (((e&&&f:Nat)):Int) (-(f:Int))=((e&&&f:Nat):Int)-(((e&&&f)&&&(f-1):Nat):Int):=by
  unfold Builtin.bitAnd;rw[hEi (hD7 _),hEj (by omega:¬(0:Int)<=-(f:Int))];show((e&&&f:Nat):Int)-(((((e&&&f:Nat):Int).toNat)&&&(Builtin.bitNot (-(f:Int))).toNat:Nat):Int)=_;rw[show(Builtin.bitNot (-(f:Int))).toNat=f-1 by unfold Builtin.bitNot;omega,hB8]
 rw[ev];have pb:=qKe (lo f) f h1 h2;constructor
 ·intro ne;cases q:e.testBit (lo f) with
  |true=>rfl
  |false =>
   refine absurd ?_ ne;have:(e&&&f)&&&(f-1)=e&&&f:=by
    refine hAl λj=>?_
    rw[hAv,hAv,pb j];rcases Nat.lt_trichotomy j (lo f) with z|z|z
    ·rw[h2 j z];simp
    ·subst z;rw[q];simp
    ·simp[z];exact λ_ h=>.inr h
   rw[this];omega
 ·intro q ne;have this:(e&&&f)&&&(f-1)=e&&&f:=by omega
  have b:=congrArg (λx:Nat=>x.testBit (lo f)) this;simp only[hAv,pb,q,h1]at b;simp at b
theorem qNk{f:Nat}(nz:f≠0):Builtin.bitAnd (f:Int) (-(f:Int))=((2^lo f:Nat):Int):=by
 obtain⟨h1,h2⟩:=qGo nz;have ev:Builtin.bitAnd (f:Int) (-(f:Int))=(f:Int)-((f&&&(f-1):Nat):Int):=by
  unfold Builtin.bitAnd;rw[hEi (hD7 _),hEj (by omega:¬(0:Int)<=-(f:Int))];show(f:Int)-((((f:Int).toNat)&&&(Builtin.bitNot (-(f:Int))).toNat:Nat):Int)=_;rw[show(Builtin.bitNot (-(f:Int))).toNat=f-1 by unfold Builtin.bitNot;omega,hB8]
 rw[ev];have pb:=qKe (lo f) f h1 h2;have e:f=2^lo f+(f&&&(f-1)):=by
  rw[qN3 _ _ (by rw[hAv,pb];simp)];refine hAl λj=>?_
  rw[hAo,hB4,hAv,pb j];rcases Nat.lt_trichotomy j (lo f) with z|z|z
  ·have:¬lo f=j:=by omega
   rw[h2 j z];simp[this]
  ·subst z;rw[h1];simp
  ·have n1:¬lo f=j:=by omega
   simp[z,n1];exact λh=>.inr h
 omega
theorem qN2(x p:Nat):x&&&2^p≠0↔x.testBit p=true:=by
 constructor
 ·intro ne;cases q:x.testBit p with
  |true=>rfl
  |false =>
   refine absurd (hAl λj=>?_) ne;rw[hAv,hB4,hBl];by_cases e:p=j
   ·subst e;rw[q];rfl
   ·simp[e]
 ·intro q z;have:=congrArg (λx:Nat=>x.testBit p) z;simp[hAv,q]at this
noncomputable def rv(m x:Nat):Nat:=((((List.range m).filter λi=>x.testBit i).map λi=>m-1-i).map λl=>2^l).sum
theorem qCq(m x j:Nat):(rv m x).testBit j=(decide (j<m) && x.testBit (m-1-j)):=by
 have nd:(((List.range m).filter λi=>x.testBit i).map λi=>m-1-i).Nodup:=by
  have h:((List.range m).filter λi=>x.testBit i).Pairwise λa b=>m-1-a≠m-1-b:=by
   have:(List.range m).Pairwise λa b=>a≠b:=hEf
   refine hBp (λ{a b} ha hb ne=>?_) (this.sublist hCh);have a1:=hAy.mp (hAj.mp ha).1;have b1:=hAy.mp (hAj.mp hb).1;omega
  rw[List.Nodup,hBb];exact h
 unfold rv;rw[qJs _ nd];by_cases hj:j<m
 ·rw[hEi hj,hCv];cases q:x.testBit (m-1-j) with
  |true=>exact hEi (hAb.mpr ⟨m-1-j,hAj.mpr ⟨hAy.mpr (by omega),q⟩,by omega⟩)
  |false =>
   refine hEj λz=>?_
   obtain⟨i,hi,e⟩:=hAb.mp z;obtain⟨h1,h2⟩:=hAj.mp hi;have:=hAy.mp h1;rw[show m-1-j=i by omega,h2]at q;cases q
 ·rw[hEj hj,Bool.false_and];refine hEj λz=>?_
  obtain⟨i,hi,e⟩:=hAb.mp z;have:=hAy.mp (hAj.mp hi).1;omega
theorem qIw(m x:Nat):rv m x<2^m:=hBx _ λi hi=>by rw[qCq,hEj (by omega)];rfl
theorem qOq(m x y:Nat):rv m (x^^^y)=rv m x^^^rv m y:=hAl λj=>by
 rw[hAo,qCq,qCq,qCq,hAo];cases decide (j<m) <;> simp
theorem qIv(h:x<2^m):rv m (rv m x)=x:=hAl λj=>by
 rw[qCq,qCq];by_cases hj:j<m
 ·rw[hEi hj,hEi (by omega),show m-1-(m-1-j)=j by omega];rfl
 ·rw[hEj hj,qDs h (Nat.le_of_not_lt hj)];rfl
theorem qGf(m:Nat):rv m 0=0:=hAl λj=>by rw[qCq];simp
theorem qZo(h:x<2^m)(nz:x≠0):rv m x≠0:=λz=>nz (by rw[<-qIv h,z,qGf])
theorem zC4(h:x<2^m)(nz:x≠0):lo x<m:=by
 rcases Nat.lt_or_ge (lo x) m with z|z
 ·exact z
 ·have:=(qGo nz).1;rw[qDs h z]at this;cases this
theorem qZp(h:x<2^m)(nz:x≠0):(rv m x).log2=m-1-lo x:=by
 obtain⟨h1,h2⟩:=qGo nz;have l:=zC4 h nz;refine qTd ?_ (hBx _ λi hi=>?_)
 ·rw[qCq,hEi (by omega),show m-1-(m-1-lo x)=lo x by omega,h1];rfl
 ·rw[qCq];by_cases q:i<m
  ·rw[h2 (m-1-i) (by omega)];simp
  ·rw[hEj q];rfl
noncomputable def rdL(x s:Nat):Nat:=if x.testBit (lo s)=true then x^^^s else x
theorem qR9(hs:s<2^m)(nz:s≠0):rv m (rdL x s)=rd1 (rv m x) (rv m s):=by
 have l:=zC4 hs nz;unfold rdL rd1;have b:(rv m x).testBit (rv m s).log2=x.testBit (lo s):=by
  rw[qZp hs nz,qCq,hEi (by omega),show m-1-(m-1-lo s)=lo s by omega];rfl
 rw[b];split
 ·exact qOq m x s
 ·rfl
theorem qX1(hx:x<2^m)(hs:s<2^m):rdL x s<2^m:=by
 unfold rdL;split
 ·exact hCd hx hs
 ·exact hx
noncomputable def redL1(k:List Nat)(x:Nat):Nat:=k.foldl rdL x
def Gm(m:Nat)(k:List Nat):Prop:=∀s∈k,s<2^m/\s≠0
theorem qOz:∀ {k:List Nat} {x:Nat},Gm m k->x<2^m->redL1 k x<2^m/\rv m (redL1 k x)=red1 (k.map (rv m)) (rv m x)
 |[],x,_,hx=>⟨hx,rfl⟩
 |s :: k,x,h,hx=>by
  obtain⟨h1,h2⟩:=h s hA6;have ih:=qOz (x:=rdL x s) (λt ht=>h t (hA4 _ ht)) (qX1 hx h1);refine⟨ih.1,?_⟩;show rv m (redL1 k (rdL x s))=red1 (k.map (rv m)) (rd1 (rv m x) (rv m s));rw[ih.2,qR9 h1 h2]
noncomputable def qNc(k:List Nat)(x:Nat):List Nat:=if redL1 k x=0 then k else k.map (λs=>rdL s (redL1 k x))++[redL1 k x]
noncomputable def redL(xs:List Nat):List Nat:=xs.foldl qNc []
theorem qH5(xs:List Nat)(x:Nat):redL (xs++[x])=qNc (redL xs) x:=by unfold redL;rw[hBm];rfl
theorem qE2(xs:List Nat):(∀x∈xs,x<2^m)->Gm m (redL xs)/\(redL xs).map (rv m)=red (xs.map (rv m)):=by
 refine qFh (P:=λxs=>(∀x∈xs,x<2^m)->Gm m (redL xs)/\(redL xs).map (rv m)=red (xs.map (rv m))) (λ_=>⟨λs hs=>(by cases hs),rfl⟩) (λl t ih h=>?_) xs;obtain⟨g,e⟩:=ih λx hx=>h x (hAe _ hx)
 have ht:=h t (by simp);obtain⟨l1,l2⟩:=qOz g ht;have sp:∀s∈redL l,rv m s≠0:=λs hs=>qZo (g s hs).1 (g s hs).2
 rw[hA3,hD8,qEj,qH5,<-e];unfold qNc qQr;rw[<-l2];by_cases z:redL1 (redL l) t=0
 ·rw[hEn z,z,qGf,hEn rfl];exact⟨g,rfl⟩
 ·have z':=qZo l1 z;rw[hEm z,hEm z'];have rr:=qCi (l.map (rv m));rw[<-e]at rr;refine⟨λs hs=>?_,?_⟩
  ·rcases hAd.mp hs with w|w
   ·obtain⟨u,hu,rfl⟩:=hAb.mp w;refine⟨qX1 (g u hu).1 l1,λq=>?_⟩;have q2:=qR9 (x:=u) l1 z;rw[q,qGf]at q2;have ld:=qH6 (x:=rv m t) rr (rv m u) (hB3 hu);rw[<-l2]at ld;exact(qO1 (sp u hu) z' ld).2 q2.symm
   ·rw[hA9]at w;rw[w];exact⟨l1,z⟩
  ·rw[hA3,hD8,hB6,hB6];congr 1;refine hBs λs hs=>?_
   exact qR9 l1 z
noncomputable def bd(V:Nat->Nat):Nat->Nat->Nat
 |0,_=>0
 |m+1,y=>bd V m y^^^(if y.testBit m=true then V m else 0)
theorem qEg(V:Nat->Nat):∀(m x y:Nat),bd V m (x^^^y)=bd V m x^^^bd V m y
 |0,_,_=>by simp[bd]
 |m+1,x,y=>by
  show bd V m (x^^^y)^^^_=(bd V m x^^^_)^^^(bd V m y^^^_);rw[qEg V m x y,hAo];refine hAl λj=>?_
  simp only[hAo];cases x.testBit m <;> cases y.testBit m <;> simp[hAo] <;> cases(bd V m x).testBit j <;> cases(bd V m y).testBit j <;> cases(V m).testBit j <;> rfl
theorem qIr(V:Nat->Nat):∀m:Nat,bd V m 0=0
 |0=>rfl
 |m+1=>by show bd V m 0^^^_=0;rw[qIr V m];simp
theorem qYx(V:Nat->Nat)(q:Nat):∀m y:Nat,(bd V m y).testBit q=xsum m λi=>y.testBit i && (V i).testBit q
 |0,_=>by simp[bd,xsum]
 |m+1,y=>by
  show(bd V m y^^^_).testBit q=(xsum m _ ^^ (y.testBit m && (V m).testBit q));rw[hAo,qYx V q m y];cases y.testBit m <;> simp
theorem qQa(hp:p<m):bd V m (2^p)=V p:=by
 refine hAl λq=>?_
 rw[qYx,qHb (l:=p) λj _ ne=>by rw[hB4,hEj (λz=>ne z.symm)];rfl,hB4];simp[hp]
noncomputable def el1(v f:Nat×Nat):Nat×Nat:=if v.1.testBit (lo f.1)=true then (v.1^^^f.1,v.2^^^f.2) else v
noncomputable def el(k:List (Nat×Nat))(v:Nat×Nat):Nat×Nat:=k.foldl el1 v
abbrev Ech(k:List (Nat×Nat)):Prop:=k.Pairwise λa b=>b.1.testBit (lo a.1)=false
theorem qTt:∀ {k:List (Nat×Nat)} {v:Nat×Nat} {i:Nat},(∀f∈k,f.1.testBit i=false)->(el k v).1.testBit i=v.1.testBit i
 |[],_,_,_=>rfl
 |f :: k,v,i,h=>by
  show(el k (el1 v f)).1.testBit i=_;rw[qTt λg hg=>h g (hA4 _ hg)];unfold el1;split
  ·show(v.1^^^f.1).testBit i=_;rw[hAo,h f hA6];simp
  ·rfl
theorem qYn:∀ {k:List (Nat×Nat)} {v:Nat×Nat},Ech k->(∀f∈k,f.1≠0)->∀f∈k,(el k v).1.testBit (lo f.1)=false
 |[],_,_,_,_,h=>by cases h
 |g :: k,v,e,nz,f,hf=>by
  obtain⟨e1,e2⟩:=hAr.mp e;show(el k (el1 v g)).1.testBit (lo f.1)=false;rcases hAg.mp hf with rfl|z
  ·rw[qTt λh hh=>e1 h hh];unfold el1;cases q:v.1.testBit (lo f.1) with
   |true =>
    rw[hEn rfl];show(v.1^^^f.1).testBit _=false;rw[hAo,q,(qGo (nz f hA6)).1];rfl
   |false=>rw[hEm (by decide)];exact q
  ·exact qYn e2 (λh hh=>nz h (hA4 _ hh)) f z
theorem qYm(V:Nat->Nat)(m:Nat)(K:List (Nat×Nat)):∀ {k:List (Nat×Nat)} {v:Nat×Nat},(∀f∈k,f∈K/\f.1=bd V m f.2)->v.1=bd V m v.2->(el k v).1=bd V m (el k v).2/\Spn (K.map (·.2)) ((el k v).2^^^v.2)
 |[],v,_,hv=>⟨hv,by show Spn _ (v.2^^^v.2);rw[hC1];exact .zero⟩
 |f :: k,v,h,hv=>by
  have h1:(el1 v f).1=bd V m (el1 v f).2:=by
   unfold el1;split
   ·show v.1^^^f.1=bd V m (v.2^^^f.2);rw[qEg,<-hv,<-(h f hA6).2]
   ·exact hv
  have h2:Spn (K.map (·.2)) ((el1 v f).2^^^v.2):=by
   unfold el1;split
   ·show Spn _ ((v.2^^^f.2)^^^v.2);rw[hDf v.2 f.2,qA1];exact .mem (hB3 (h f hA6).1)
   ·rw[hC1];exact .zero
  obtain⟨a,b⟩:=qYm V m K (k:=k) (λg hg=>h g (hA4 _ hg)) h1;refine⟨a,?_⟩;have c:=b.xor h2;rw[<-hBu,qA1]at c;exact c
theorem qU7(h:Spn (a :: l) y):Spn l y\/Spn l (a^^^y):=by
 induction h with
 |zero=>exact .inl .zero
 |add m _ ih =>
  rename_i x y _;rcases hAg.mp m with rfl|z
  ·rcases ih with ih|ih
   ·refine .inr ?_;rw[<-hBu,hC1,hCg];exact ih
   ·exact .inl ih
  ·rcases ih with ih|ih
   ·exact .inl (.add z ih)
   ·refine .inr ?_;have:=Spn.add z ih;rw[<-hBu,hDf x a,hBu]at this;exact this
theorem qI3(h:Spn (l++l') y):∃a b,Spn l a/\Spn l' b/\y=a^^^b:=by
 induction h with
 |zero=>exact⟨0,0,.zero,.zero,rfl⟩
 |add m _ ih =>
  obtain⟨a,b,ha,hb,rfl⟩:=ih;rename_i x _;rcases hAd.mp m with z|z
  ·exact⟨x^^^a,b,.add z ha,hb,by rw[hBu]⟩
  ·exact⟨a,x^^^b,ha,.add z hb,by rw[<-hBu,<-hBu,hDf x a]⟩
theorem zB6(V:Nat->Nat)(m:Nat){k:List (Nat×Nat)}(h:∀f∈k,f.1=bd V m f.2){y:Nat}(hy:Spn (k.map (·.2)) y):Spn (k.map (·.1)) (bd V m y):=by
 induction hy with
 |zero=>rw[qIr];exact .zero
 |add hm _ ih =>
  obtain⟨f,hf,rfl⟩:=hAb.mp hm;rw[qEg,<-h f hf];exact .add (hB3 hf) ih
theorem qP0(V:Nat->Nat)(m:Nat):∀ {k:List (Nat×Nat)},Ech k->(∀f∈k,f.1≠0/\f.1=bd V m f.2)->∀ {y:Nat},Spn (k.map (·.2)) y->(∀f∈k,(bd V m y).testBit (lo f.1)=false)->y=0
 |[],_,_,y,hy,_=>by
  cases hy with
  |zero=>rfl
  |add m _=>cases m
 |f :: k,e,h,y,hy,hb=>by
  obtain⟨e1,e2⟩:=hAr.mp e;obtain⟨f1,f2⟩:=h f hA6;have hk:=λg hg=>h g (hA4 _ hg)
  rw[hBj]at hy;rcases qU7 hy with z|z
  ·exact qP0 V m e2 hk z λg hg=>hb g (hA4 _ hg)
  ·have b:=qJw (j:=lo f.1) (λx hx=>by
    obtain⟨g,hg,rfl⟩:=hAb.mp hx;exact e1 g hg) (zB6 V m (λg hg=>(hk g hg).2) z)
   rw[qEg,<-f2,hAo,(qGo f1).1,hb f hA6]at b;cases b
structure EIv(V:Nat->Nat)(m j:Nat)(K:List (Nat×Nat))(F:List Nat):Prop where
 k1:∀f∈K,f.1≠0/\f.1=bd V m f.2
 kl:∀f∈K,f.2<2^j
 k2:Ech K
 f1:∀y∈F,y<2^j/\bd V m y=0
 cov:∀y,y<2^j->Spn (F++K.map (·.2)) y
 len:F.length+K.length=j
 fsh:Fsh F
theorem EIv.start(V:Nat->Nat)(m:Nat):EIv V m 0 [] []:=⟨λf h=>(by cases h),λf h=>(by cases h),.nil,λy h=>(by cases h),λy hy=>by
 have:y=0:=by omega
 subst this;exact .zero,rfl,λi x h=>(by cases h)⟩
theorem EIv.run(h:EIv V m j K F)(hj:j<m) :
  (el K (V j,2^j)).1=bd V m (el K (V j,2^j)).2/\Spn (K.map (·.2)) ((el K (V j,2^j)).2^^^2^j)/\(el K (V j,2^j)).2<2^(j+1)/\(el K (V j,2^j)).2.testBit j=true/\∀f∈K,(el K (V j,2^j)).1.testBit (lo f.1)=false:=by
 obtain⟨a,b⟩:=qYm V m K (k:=K) (v:=(V j,2^j)) (λf hf=>⟨hf,(h.k1 f hf).2⟩) (by show V j=bd V m (2^j);rw[qQa hj]);have c:(el K (V j,2^j)).2^^^2^j<2^j:=Spn.lt (λx hx=>by
  obtain⟨f,hf,rfl⟩:=hAb.mp hx;exact h.kl f hf) b
 have d:((el K (V j,2^j)).2^^^2^j)^^^2^j=(el K (V j,2^j)).2:=qA1 _ _;have p:2^j<2^(j+1):=Nat.pow_lt_pow_right (by decide) (by omega);refine⟨a,b,?_,?_,qYn h.k2 (λf hf=>(h.k1 f hf).1)⟩
 ·rw[<-d];exact hCd (by omega) p
 ·rw[<-d,hAo,hDj c,hB4];simp
theorem Fsh.snoc(h:Fsh F)(hx:x.testBit j=true)(hF:∀y∈F,y<2^j):Fsh (F++[x]):=λi z hz=>by
 by_cases hi:i<F.length
 ·rw[hD1 hi]at hz;obtain⟨l,h1,h2⟩:=h i z hz;exact⟨l,h1,λy hy=>h2 y (by rwa [List.take_append_of_le_length (by omega)]at hy)⟩
 ·have hl:i<(F++[x]).length:=(hAm.mp hz).1;rw[hAc]at hl;have e:i=F.length:=by
   have:i<F.length+1:=hl;omega
  subst e;have ez:x=z:=by simpa using hz
  subst ez;refine⟨j,hx,λy hy=>?_⟩;rw[List.take_append_of_le_length (hAa _),hA5 (hAa _)]at hy;exact hDj (hF y hy)
theorem EIv.next(h:EIv V m j K F)(hj:j<m) :
  if (el K (V j,2^j)).1=0 then EIv V m (j+1) K (F++[(el K (V j,2^j)).2]) else EIv V m (j+1) (K++[el K (V j,2^j)]) F:=by
 obtain⟨a,b,c,d,e⟩:=h.run hj;have mono:∀ {x:Nat},x<2^j->x<2^(j+1):=λhx=>Nat.lt_trans hx (Nat.pow_lt_pow_right (by decide) (by omega))
 generalize el K (V j,2^j)=r at a b c d e;have big:∀ {l:List Nat},(∀x∈F++K.map (·.2),Spn l x)->Spn l r.2->∀y,y<2^(j+1)->Spn l y:=λ{l} hl hr y hy=>by
  by_cases q:y.testBit j=true
  ·have lt:y^^^r.2<2^j:=by
    refine hBx _ λi hi=>?_
    rw[hAo];by_cases e2:i=j
    ·subst e2;rw[q,d];rfl
    ·rw[qDs hy (by omega),qDs c (by omega)];rfl
   have:=((h.cov _ lt).mono hl).xor hr
   rwa [qA1]at this
  ·have lt:y<2^j:=by
    refine hBx _ λi hi=>?_
    by_cases e2:i=j
    ·subst e2;simpa using q
    ·exact qDs hy (by omega)
   exact(h.cov _ lt).mono hl
 split
 ·rename_i z;refine⟨h.k1,λf hf=>mono (h.kl f hf),h.k2,λy hy=>?_,big (λx hx=>?_) ?_,?_,h.fsh.snoc d λy hy=>(h.f1 y hy).1⟩
  ·rcases hAd.mp hy with w|w
   ·exact⟨mono (h.f1 y w).1,(h.f1 y w).2⟩
   ·rw[hA9]at w;rw[w];exact⟨c,by rw[<-a,z]⟩
  ·refine .mem ?_;rcases hAd.mp hx with w|w
   ·exact hAe _ (hAe _ w)
   ·exact hA8 _ w
  ·exact .mem (hAe _ (by simp))
  ·rw[hAc];have:=h.len;show F.length+1+K.length=j+1;omega
 ·rename_i z;refine⟨λf hf=>?_,λf hf=>?_,?_,λy hy=>⟨mono (h.f1 y hy).1,(h.f1 y hy).2⟩,big (λx hx=>?_) ?_,?_,h.fsh⟩
  ·rcases hAd.mp hf with w|w
   ·exact h.k1 f w
   ·rw[hA9]at w;rw[w];exact⟨z,a⟩
  ·rcases hAd.mp hf with w|w
   ·exact mono (h.kl f w)
   ·rw[hA9]at w;rw[w];exact c
  ·rw[Ech,hBc];refine⟨h.k2,hBw _ _,λx hx y hy=>?_⟩;rw[hA9]at hy;rw[hy];exact e x hx
  ·refine .mem ?_;rw[hA3];rcases hAd.mp hx with w|w
   ·exact hAe _ w
   ·exact hA8 _ (hAe _ w)
  ·refine .mem (hA8 _ ?_);rw[hA3];simp
  ·rw[hAc];have:=h.len;show F.length+(K.length+1)=j+1;omega
theorem EIv.none(h:EIv V m j K F)(hj:j<m)(hy:y<2^j)(e:bd V m y=V j):(el K (V j,2^j)).1=0:=by
 obtain⟨a,b,_,_,d⟩:=h.run hj;have bF:∀ {a},Spn F a->bd V m a=0:=λ{a} ha=>by
  induction ha with
  |zero=>exact qIr V m
  |add hm _ ih=>rw[qEg,(h.f1 _ hm).2,ih];rfl
 have c:(el K (V j,2^j)).2^^^2^j<2^j:=Spn.lt (λx hx=>by
  obtain⟨f,hf,rfl⟩:=hAb.mp hx;exact h.kl f hf) b
 have z:bd V m (((el K (V j,2^j)).2^^^2^j)^^^y)=(el K (V j,2^j)).1:=by
  rw[qEg,qEg,qQa hj,e,<-a,qA1]
 obtain⟨u,v,hu,hv,ez⟩:=qI3 (h.cov _ (hCd c hy));rw[ez,qEg,bF hu,hCg]at z;have:v=0:=qP0 V m h.k2 h.k1 hv λf hf=>by rw[z];exact d f hf
 rw[<-z,this,qIr]
end My
namespace L2
open PySem PySem.Spec PyProof.Rows
section
variable{X:Cx}
theorem qTi:∀ {us:List Value},qBn (ns.map V.int) us->∃xs:List (Int×Tok),us=xs.map (λp=>Value.int p.1 p.2)/\xs.map (·.1)=ns:=by
 induction ns with
 |nil=>intro us r;cases r;exact⟨[],rfl,rfl⟩
 |cons a l ih =>
  intro us r;cases r with
  |cons r rr =>
   obtain⟨t,rfl⟩:=r;obtain⟨xs,rfl,rfl⟩:=ih rr;exact⟨(a,t) :: xs,rfl,rfl⟩
theorem qC6(hc:X.calm=true):qB2 X (.builtin "sum") (λxs H Q=>∃(p:Addr) (ns:List Int),xs=[.ref p]/\SqL X.K H p (ns.map V.int)/\Q (.int ns.sum) H):=by
 intro aB s σ H xs us Q I r h;obtain⟨p,ns,rfl,hq,q⟩:=h;obtain⟨u,rfl,rx⟩:=qCy r;cases rx;obtain⟨its,rv,pl,hz⟩:=I.list hq;obtain⟨ys,rfl,rfl⟩:=qTi rv;have e:(ys.map (λp=>Value.int p.1 p.2)).toArray=intItems ys.toArray:=by unfold intItems;simp
 have pl':=pl.isList;rw[e]at pl';refine sum_intListG (I.ok.hd hc) pl' λh' tk t' hk=>⟨.int _,H,I.kept (t':=tk) hk,⟨t',rfl⟩,?_⟩
 rw[preSum_eq,hA5 (by simp)];exact q
theorem qIl:∀ {us:List Value},qBn (ns.map V.int) us->IntsAre us ns:=by
 induction ns with
 |nil=>intro us r;cases r;exact .nil
 |cons a l ih =>
  intro us r;cases r with
  |cons r rr =>
   obtain⟨t,rfl⟩:=r;exact .cons a t (ih rr)
theorem qJh:∀ {us:List Value},IntsAre us ns->qBn (ns.map V.int) us:=by
 induction ns with
 |nil=>intro us r;cases r;exact .nil
 |cons a l ih =>
  intro us r;cases r with
  |cons _ _ r=>exact .cons ⟨_,rfl⟩ (ih r)
def qU4(K:PySem.W.Frag)(t:TA):TE:=λσ H Q=>t σ H λvs H1=>∃(p:Addr) (ns:List Int),vs=[.ref p]/\SqL K H1 p (ns.map V.int)/\ns.length<64/\∀(r:Addr) (ns':List Int),H1 r=none->ns'.Perm ns->Ordered true ns'->Q (.ref r) (upd H1 r (.lst (ns'.map V.int)))
theorem qGh(hg:Gl X "sorted")(hm:X.mg "sorted"=none)(ha:PA X [e] t)
  (he:backTo pos (starEach [e] X.env)=(false,eval e X.env) :: backTo pos (starEach [] X.env):=by rfl)
  (hplain:(backTo pos (starEach [e] X.env)).any (·.1)=false:=by rfl):PE X (.Call (.Name "sorted" p) [e] [⟨some "reverse",.Constant (.bool true) j cp,kp⟩] pos) (qU4 X.K t):=by
 intro aB s σ H Q I h;refine hEz (qEw I hg hm (by decide +kernel:bootBuiltins "sorted"=some (.builtin "sorted")) ?_ (by decide) (by decide));refine PyProof.Rows.callWith_kw (thn (ha pos aB s σ H _ I h) λus s1 ⟨vs,H1,I1,r1,q1⟩=>?_) he hplain;obtain⟨a,ns,rfl,hq,h64,q⟩:=q1;obtain⟨u,rfl,rx⟩:=qCy r1;cases rx;refine hDq (Constant_bool (hDt ?_));obtain⟨its,rv,pl,hz⟩:=I1.list hq;have hl:=rv.length;rw[hA1]at hl;refine sorted_ints_rev (b:=true) pl.isList (qIl rv) (by omega) λout ns' h1 h2 h3=>?_
 obtain⟨e,he⟩:=hFv s1.heap its out;have nz:H1 (s1.heap.objs.size+1)=none:=I1.hok.fresh (hBk _);refine⟨.ref (s1.heap.objs.size+1),_,I1.laid (t':=s1.toks) (a:=s1.heap.objs.size+1) (o:=.lst (ns'.map V.int)) (λb o eb=>hFq eb) (hBk _) ?_,rfl,q _ ns' nz h2 h3⟩;refine⟨?_,out.toList,e,qJh h1,by simpa using he⟩;rw[hA1,h2.length_eq];exact hB5 (qAf (by omega))
def qX2(K:PySem.W.Frag):V->List V->Hp->VK->Prop:=λx vs H Q=>∃(l:Addr) (ss:List Str) (z:Str) (j:Nat),x = .ref l/\vs=[.str z]/\H l=some (.lst (ss.map V.str))/\ss[j]?=some z/\(∀k,k<j->ss[k]?≠some z)/\j<1000/\Q (.int (j:Nat)) H
theorem qKk:MtR X "list.index" (qX2 X.K):=by
 intro aB s σ H x vs v us Q I rx rv h;obtain⟨l,ss,z,j,rfl,rfl,hH,hj,hno,hsm,q⟩:=h;cases rx;obtain⟨u,rfl,ru⟩:=rv.one;obtain⟨t,rfl⟩:=ru;obtain⟨zz,its,n,r,hl,e⟩:=I.lstM hH;have at_:∀k (hk:k<its.length),∃y t',ss[k]?=some y/\its[k]=Value.str y t':=λk hk=>by
  have hk':k<ss.length:=by rw[hA1]at hl;omega
  obtain⟨w,hw,rw'⟩:=r.get (i:=k) (x:=V.str ss[k]) (by rw[hAi,hA2 hk'];rfl);obtain⟨t',rfl⟩:=rw';rw[hA2 hk]at hw;exact⟨ss[k],t',hA2 hk',hAq hw⟩
 have jl:j<its.length:=by
  have:=(hAm.mp hj).1;rw[hA1]at hl;omega
 refine hFc F.slot_list_index ⟨_,e,rfl⟩ F.entry_list_index (F.args_list_index_2 _ _)
  (MeetsSeq.list_index l its.toArray n (.str z t) (λy=>match y with | .str y _=>y == z|_=>false) (λy hy=>?_) j (by rw[hAf];exact jl) (by omega) ?_ (λm hm hmj=>?_)) ⟨e,⟨.int _,H,I.tok _,⟨_,rfl⟩,q⟩⟩
 ·have hy':y∈its:=by simpa using hy
  obtain⟨k,hk,rfl⟩:=List.getElem_of_mem hy';obtain⟨y,t',_,e2⟩:=at_ k hk;rw[e2];exact eqGives_str y z t' t
 ·obtain⟨y,t',h1,e2⟩:=at_ j jl;have:its.toArray[j]=Value.str y t':=by simpa using e2
  rw[this];rw[hj]at h1;cases h1;exact hF9 _
 ·have hm':m<its.length:=by simpa using hm
  obtain⟨y,t',h1,e2⟩:=at_ m hm';have:its.toArray[m]=Value.str y t':=by simpa using e2
  rw[this];show(y == z)=false;rw[beq_eq_false_iff_ne];intro w;exact hno m hmj (by rw[h1,w])
end
section
variable{X:Cx}
def zEy(K:PySem.W.Frag)(ta:TA):TI:=λσ H R=>ta σ H λvs H1=>∃(a:Addr) (xs:List V),vs=[.ref a]/\SqL K H1 a xs/\R (Itp xs.length (λH=>SqL K H a xs) (λi=>[.int (i:Nat),xs.getD i .non])) H1
theorem qUl:bootBuiltins "enumerate"=some (.type "enumerate"):=by decide +kernel
theorem qE4(hg:Gl X "enumerate")(hm:X.mg "enumerate"=none)(ha:PA X [a] ta)(hs:starEach [a] X.env=[(false,eval a X.env)]:=by rfl) :
  PI X (.Tuple elts ct tpos) (.Call (.Name "enumerate" p) [a] [] pos) (zEy X.K ta):=by
 intro aB s σ H R I h;refine Call_ (qEw I hg hm qUl (hCt (thn (ha pos aB s σ H _ I h) λus s1 ⟨vs,H1,I1,r1,q1⟩=>?_) (by rw[hs];rfl) (by rfl)));obtain⟨l,xs,e,hx,q⟩:=q1;subst e;obtain⟨u,rfl,rx⟩:=qCy r1;cases rx;obtain⟨it1,rv1,pl1,hz1⟩:=I1.list hx;have b1:l<s1.heap.objs.size:=by obtain⟨o,n,e,_⟩:=pl1;exact Heap.lt_size e
 refine call_enumerate_list pl1.isList λh1 z1 z2 z3 z7=>?_
 refine wpAny_pyIter_enum z1 ?_;have hfp:∀b∈[s1.heap.objs.size+1,s1.heap.objs.size],s1.heap.objs.size<=b:=λb hb=>by
  simp only[hAg,hCw,hFi]at hb;rcases hb with rfl|rfl
  ·exact hE2 _ _
  ·exact hAa _
 refine⟨s1.heap.objs.size+1,[s1.heap.objs.size+1,s1.heap.objs.size],
  λi h=>(∃old,IsEnum h (s1.heap.objs.size+1) s1.heap.objs.size i old)/\h.IsListIter s1.heap.objs.size l i,
  _,H1,rfl,I1.kept (t':=s1.toks) z7,
  qI1 (s1.heap.objs.size+1) _ [s1.heap.objs.size+1,s1.heap.objs.size,l] [s1.heap.objs.size+1,s1.heap.objs.size] _ _ _ _ (by simp) (λb hb=>hb) (λi h st b hb=>?_) (λi h h' st k=>?_) (λi=>by show 2<=sizeLine;decide) ?_ (λA i s' Q E st hQ=>by
   obtain⟨⟨old,he⟩,_⟩:=st;exact wpAny_pyIter_enum he hQ),
  ⟨⟨_,z1⟩,z2⟩,λb hb=>I1.fpOk (hfp b hb) (I1.hok.fresh (hfp b hb)),q⟩
 ·obtain⟨⟨old,a1⟩,⟨o4,a4,c4,d4⟩⟩:=st;simp only[hAg,hCw,hFi]at hb;rcases hb with rfl|rfl
  ·exact⟨_,a1,λv z=>by cases z⟩
  ·exact⟨_,a4,λv z=>by rw[d4]at z;cases z⟩
 ·obtain⟨⟨old,a1⟩,a4⟩:=st;exact⟨⟨old,k _ (by simp) _ a1⟩,a4.at λo e=>k _ (by simp) o e⟩
 ·intro X' hP hw hK hc pins' s' σ' H' I' hL;rw[<-hK]at hL;obtain⟨jt1,sv1,ql1,_⟩:=I'.list hL;have m1:=sv1.length;have ne1:l≠s1.heap.objs.size:=hAu b1;have Wz:=WalksT.enumerateD (A:=X'.A) (Draws.list (prog:=X.prog) (w:=X.w) (A:=X'.A.in1) (I'.ok.hd hc) s1.heap.objs.size l ne1 jt1.toArray) (s1.heap.objs.size+1) (Nat.succ_ne_self _) (λz=>by
   simp only[hAg,hCw,hFi]at z;rcases z with z|z
   ·exact Nat.succ_ne_self _ z
   ·exact absurd b1 (by rw[<-z];exact Nat.not_lt_of_le (hBk _))) (by simp)
  rw[show jt1.toArray.size=xs.length by show jt1.length=_;rw[m1]]at Wz;refine⟨_,_,_,Wz,λi st=>?_,λi h st=>?_,λi vals pv=>?_⟩
  ·exact⟨st.1,st.2,ql1.isList⟩
  ·exact⟨st.1,st.2.1⟩
  ·obtain⟨t,x,e1,rfl⟩:=pv;have e1:jt1[i]?=some x:=by simpa using e1
   have c1:i<xs.length:=by rw[m1];exact(hAm.mp e1).1
   obtain⟨u,d1,d2⟩:=sv1.get (hA2 c1);rw[e1]at d1;cases d1;show qBn [.int (i:Nat),xs.getD i .non] [.int i t,x];rw[hA7,hA2 c1];exact .cons ⟨t,rfl⟩ (.cons d2 .nil)
end
end L2
namespace My
open PySem L2
noncomputable abbrev iV(n:Nat):V:=.int (n:Int)
def LsN(H:Hp)(a:Addr)(ms:List Nat):Prop:=H a=some (.lst (ms.map iV))
theorem qF8:bootBuiltins "min"=some (.builtin "min"):=by decide +kernel
theorem qC8:bootBuiltins "sum"=some (.builtin "sum"):=by decide +kernel
theorem qRj{as:List Str}{i:Nat}{x:V}(e:(as.map V.str)[i]?=some x):∃a,x = .str a/\as[i]?=some a:=by
 rw[hAi]at e;cases ha:as[i]? with
 |none=>rw[ha]at e;cases e
 |some a=>rw[ha]at e;exact⟨a,(hAq e).symm,rfl⟩
theorem qA5{as:List Addr}{i:Nat}{x:V}(e:(as.map V.ref)[i]?=some x):∃a,x = .ref a/\as[i]?=some a:=by
 rw[hAi]at e;cases ha:as[i]? with
 |none=>rw[ha]at e;cases e
 |some a=>rw[ha]at e;exact⟨a,(hAq e).symm,rfl⟩
theorem qCj{ms:List Nat}{i:Nat}{x:V}(e:(ms.map iV)[i]?=some x):∃n,x=iV n/\ms[i]?=some n:=by
 rw[hAi]at e;cases ha:ms[i]? with
 |none=>rw[ha]at e;cases e
 |some a=>rw[ha]at e;exact⟨a,(hAq e).symm,rfl⟩
theorem qCg(ms:List Nat):ms.map iV=(ms.map λn:Nat=>(n:Int)).map V.int:=by rw[hB6];rfl
noncomputable def qB6(aA row:List Str):Nat:=aA.foldl (λm n=>2*m+(if n∈row then 1 else 0)) 0
theorem qGm(aA row:List Str)(n:Str):qB6 (aA++[n]) row=2*qB6 aA row+(if n∈row then 1 else 0):=by unfold qB6;rw[hBm];rfl
theorem qIf(row:List Str)(aA:List Str):∀j,(qB6 aA row).testBit j=(decide (j<aA.length) && decide (∃n,aA[aA.length-1-j]?=some n/\n∈row)):=by
 refine qFg (P:=λaA=>∀j,(qB6 aA row).testBit j=(decide (j<aA.length) && decide (∃n,aA[aA.length-1-j]?=some n/\n∈row))) (λj=>by simp[qB6]) (λl n ih j=>?_) aA;rw[qGm,hAc];show _=(decide (j<l.length+1) && decide (∃m,(l++[n])[l.length+1-1-j]?=some m/\m∈row));cases j with
 |zero =>
  rw[hB1,hEi (by omega:0<l.length+1),hCv];refine decide_eq_decide.mpr ?_;rw[show l.length+1-1-0=l.length by omega,hDk (hAa _)];simp;by_cases h:n∈row
  ·simp[h]
  ·simp[h]
 |succ j =>
  rw[hCj,show(2*qB6 l row+(if n∈row then 1 else 0)) / 2=qB6 l row by split <;> omega,ih j];by_cases hj:j<l.length
  ·rw[hEi hj,hEi (by omega:j+1<l.length+1),show l.length+1-1-(j+1)=l.length-1-j by omega,hD1 (by omega)]
  ·rw[hEj hj,hEj (by omega:¬j+1<l.length+1)];rfl
theorem qWn(aA row:List Str):qB6 aA row<2^aA.length:=hBx _ λi hi=>by rw[qIf,hEj (by omega)];rfl
def qXh:Sp:=λvs H Q _=>∃(pn pr:Addr) (aA row:List Str),vs=[.ref pn,.ref pr]/\LsS H pn aA/\LsS H pr row/\Q (iV (qB6 aA row)) H
noncomputable def rowM(aA:List Str)(x:Nat):List Str:=(List.range aA.length).filterMap λi=>if x.testBit (aA.length-1-i)=true then aA[i]? else none
def qRn:Sp:=λvs H Q _=>∃(pn:Addr) (aA:List Str) (x:Nat),vs=[.ref pn,iV x]/\LsS H pn aA/\aA.length<=12/\∀r H',Ext H H'->H r=none->LsS H' r (rowM aA x)->Q (.ref r) H'
theorem qGd(x k:Nat):Builtin.bitAnd ((x:Int) / 2^k) 1=if x.testBit k=true then 1 else 0:=by
 have e:(x:Int) / 2^k=((x / 2^k:Nat):Int):=by rw[Int.natCast_ediv,Int.natCast_pow];rfl
 have e1:(1:Int)=((1:Nat):Int):=rfl;rw[e];show Builtin.bitAnd _ ((1:Nat):Int)=_;rw[qCp,Nat.and_one_is_mod,hCy];rcases hC3 (x / 2^k) with h|h <;> rw[h] <;> rfl
def qOd:Sp:=λvs H Q _=>∃(x:Nat) (p:Addr) (k:List Nat),vs=[iV x,.ref p]/\LsN H p k/\(∀s∈k,s≠0)/\Q (iV (red1 k x)) H
theorem qS8(x:Nat){s:Nat}(hs:s≠0):(if Builtin.bitXor (x:Int) (s:Int)<(x:Int) then Builtin.bitXor (x:Int) (s:Int) else (x:Int))=((rd1 x s:Nat):Int):=by
 rw[qCh,<-zAy x hs];by_cases h:x^^^s<x
 ·rw[hEn h,hEn (by omega)]
 ·rw[hEm h,hEm (by omega)]
def qRo:Sp:=λvs H Q _=>∃(p:Addr) (ms:List Nat),vs=[.ref p]/\LsN H p ms/\ms.length<=24/\∀(r:Addr) (M:List Nat) (H':Hp),Ext H H'->H r=none->LsN H' r M->M.Perm (red ms)->M.Pairwise (λa b=>b<=a)->Q (.ref r) H'
theorem qV0(k:List Nat)(x:Nat):(qQr k x).length<=k.length+1:=by
 unfold qQr;split
 ·omega
 ·rw[hAc,hA1];exact hAa _
theorem qSi(xs:List Nat):(red xs).length<=xs.length:=by
 refine qFh (P:=λxs=>(red xs).length<=xs.length) (hAa _) (λl t ih=>?_) xs;rw[qEj,hAc];have:=qV0 (red l) t;show _<=l.length+1;omega
section
variable{P:Program}{w:World}{K:PySem.W.Frag}{mg:Str->Option Value}{base:Heap}{f f1 f2:Addr}{fd fd1 fd2:FuncData}
noncomputable abbrev maN:List Str:=["names","row","mask","name"]
theorem qGw:FnScope maN ["names","row"] (qAc qVk):=fsk
theorem zAa(F:Fun K "mask_of" "mask_of" qVk f fd):v8 1 f fd ["names","row"] qXh:=by
 refine F.okA qGw λcdv A outer s H vs Q E hr h=>?_
 obtain⟨pn,pr,aA,row,rfl,hn,hw,q⟩:=h;refine⟨_,qAa (v4 2 qGw qAb)
  (qAa (qBf PassesOwn.never rfl (qAp (pv 0)) (v5 3 qGw)
   (qAd (v4 2 qGw (qAg qA8 (qAg qEv qAb (pv 2)) (qEl (qAn qFr (pv 3) (pv 1) (by with_unfolding_all rfl)) qAb qAb)))))
  (qAd (qAt (pv 2)))),?_⟩
 refine⟨_,rfl,pn,rfl,⟨_,SqL.of hn⟩,?_⟩;refine qBm (xs:=aA.map V.str) (λi σ H'=>H'=H/\∃x3:Option V,σ=[some (.ref pn),some (.ref pr),some (iV (qB6 (aA.take i) row)),x3]) ⟨rfl,none,rfl⟩ (λi σ H' _ h=>by rw[h.1];exact SqL.of hn) ?_ ?_
 ·rintro i x σ H' hx ⟨rfl,x3,rfl⟩;obtain⟨y,rfl,hy⟩:=qRj hx;refine⟨_,rfl,_,_,rfl,rfl,.inl ⟨by decide,by decide⟩,_,rfl,_,rfl,pr,_,rfl,.inl (SqL.of hw),rfl,qL2 _,_,rfl,?_⟩;rw[hEm (by decide),qNp];refine qBy (λc=>?_) (λc=>?_)
  ·have c':y∈row:=by simpa using c
   refine⟨_,_,rfl,rfl,rfl,some (.str y),?_⟩;rw[show iV (qB6 (aA.take (i+1)) row)=V.int (2*((qB6 (aA.take i) row:Nat):Int)+1) by rw[qAl hy,qGm,hEn c'];rfl];rfl
  ·have c':¬y∈row:=by simpa using c
   refine⟨_,_,rfl,rfl,rfl,some (.str y),?_⟩;rw[show iV (qB6 (aA.take (i+1)) row)=V.int (2*((qB6 (aA.take i) row:Nat):Int)+0) by rw[qAl hy,qGm,hEm c'];rfl];rfl
 ·rintro σ H' ⟨rfl,x3,rfl⟩;rw[hA1,hA5 (hAa _)];exact⟨_,rfl,q⟩
theorem qJ5:FnScope ["names","mask","last"] ["names","mask"] (qAc qI8):=fsk
noncomputable abbrev roN:List Str:=["at","name","mask","last"]
theorem qV9(F:Fun K "row_of" "row_of" qI8 f fd)(ml:mg "len"=none)(me:mg "enumerate"=none):v8 1 f fd ["names","mask"] qRn:=by
 refine F.okA qJ5 λcdv A outer s H vs Q E hr h=>?_
 obtain⟨pn,aA,x,rfl,hn,ln,q⟩:=h;refine⟨_,qAa (v6 2 qJ5 (qAg qCr (qAh qAi rfl ml hAt (pa1 (pv 0))) qAb))
  (qAd (qAt (qG7 (N:=["names","mask","last"]) (sc:=qAc qI8) (N':=roN) (sub:=[none,none,some 1,some 2]) rfl rfl (CmpOk.of (by decide +kernel)) rfl (qE4 rfl me (pa1 (pv 0)))
   (λC s H fp=>⟨(show PG _ _ (zBe K 2 _) from qB0 rfl (qAs (qAm (i:=0) (by show roN.Nodup;decide) rfl (Or.inl rfl)) (qAs (qAm (i:=1) (by show roN.Nodup;decide) rfl (Or.inl rfl)) qBc))),
    qBb (qAn qB4 (qAg qBu (qAg qG1 (pv 2) (qAg qCr (pv 3) (pv 0))) qAb) qAb (nomark _)),pv 1⟩)))),?_⟩
 refine⟨_,rfl,pn,_,rfl,.inl (SqL.of hn),_,_,rfl,rfl,?_⟩;refine⟨_,rfl,pn,_,rfl,SqL.of hn,?_⟩;rw[hA1];refine qD4 (λi ys H'=>Ext H H'/\ys=((List.range i).filterMap λi=>if x.testBit (aA.length-1-i)=true then aA[i]? else none).map V.str) ⟨Ext.refl _,rfl⟩ (λi ys H' _ p=>SqL.of (p.1 _ _ hn)) ?_ ?_
 ·rintro i ys H' T hi ⟨e,rfl⟩ hT;have gd:(aA.map V.str).getD i .non = .str aA[i]:=by rw[hA7,hAi,hA2 hi];rfl
  have e2:=e.trans (Ext.new hT (.tup [V.int (i:Nat),(aA.map V.str).getD i .non]));refine⟨T,_,rfl,SqT.of upd_same,rfl,_,_,rfl,_,_,rfl,rfl,?_⟩;refine⟨Sle.set _ (sls) (λu z=>by cases z),?_⟩;have k:(((aA.length:Nat):Int)-1-(i:Nat))=((aA.length-1-i:Nat):Int):=by omega
  refine⟨_,rfl,_,rfl,_,rfl,_,_,rfl,rfl,_,_,rfl,rfl,(by show(0:Int)<=_;omega),_,_,rfl,rfl,rfl,_,rfl,?_⟩;have fm:((List.range (i+1)).filterMap λi=>if x.testBit (aA.length-1-i)=true then aA[i]? else none)=((List.range i).filterMap λi=>if x.testBit (aA.length-1-i)=true then aA[i]? else none)++(if x.testBit (aA.length-1-i)=true then [aA[i]] else []):=by
   rw[hCf,hD5];congr 1;by_cases b:x.testBit (aA.length-1-i)=true
   ·simp[b,hA2 hi]
   ·simp[b]
  have sz:=hC0 (λi=>if x.testBit (aA.length-1-i)=true then aA[i]? else none) (List.range i);rw[hB0]at sz;have key:(decide (V.int (Builtin.bitAnd ((x:Int) / 2^(((aA.length:Nat):Int)-1-(i:Nat)).toNat) 1)=V.int 1)=true)↔x.testBit (aA.length-1-i)=true:=by
   rw[hEp,V.int.injEq,k,hB8,qGd];by_cases b:x.testBit (aA.length-1-i)=true
   ·simp[b]
   ·simp[b]
  refine qBy (λc=>?_) (λc=>?_)
  ·have b:=key.mp c;refine⟨_,rfl,by rw[hA1];exact qAf (by omega),nxt hi ⟨e2,?_⟩⟩;rw[fm,hEn b,hA3,gd];rfl
  ·have b:¬x.testBit (aA.length-1-i)=true:=λz=>c (key.mpr z)
   refine nxt hi ⟨e2,?_⟩;rw[fm,hEm b,hC8]
 ·rintro ys H' ⟨e,rfl⟩ r hr';exact q r _ (e.trans (Ext.new hr' _)) (e.none hr') upd_same
theorem qR3:FnScope ["mask","kept","step"] ["mask","kept"] (qAc qZj):=fsk
theorem zAn(F:Fun K "lessened" "lessened" qZj f fd)(mmi:mg "min"=none):v8 1 f fd ["mask","kept"] qOd:=by
 refine F.okA qR3 λcdv A outer s H vs Q E hr h=>?_
 obtain⟨x,p,k,rfl,hk,nz,q⟩:=h;refine⟨_,qAa (qBf PassesOwn.never rfl (qAp (pv 1)) (v5 2 qR3)
   (qAd (v4 0 qR3 (qAh (qF5 rfl) rfl mmi qF8 (qAe (pv 0) (pa1 (qAg qDn (pv 0) (pv 2))))))))
  (qAd (qAt (pv 0))),?_⟩
 refine⟨_,rfl,p,rfl,⟨_,SqL.of hk⟩,?_⟩;refine qBm (xs:=k.map iV) (λi σ H'=>H'=H/\∃x2:Option V,σ=[some (iV (red1 (k.take i) x)),some (.ref p),x2]) ⟨rfl,none,rfl⟩ (λi σ H' _ h=>by rw[h.1];exact SqL.of hk) ?_ ?_
 ·rintro i v σ H' hx ⟨rfl,x2,rfl⟩;obtain⟨s,rfl,hs⟩:=qCj hx;refine⟨_,rfl,_,rfl,_,rfl,_,_,rfl,rfl,_,_,rfl,rfl,some (iV s),?_⟩;rw[qS8 _ (nz s (hAh hs)),show red1 (k.take (i+1)) x=rd1 (red1 (k.take i) x) s by rw[qAl hs];unfold red1;rw[hBm];rfl];rfl
 ·rintro σ H' ⟨rfl,x2,rfl⟩;rw[hA1,hA5 (hAa _)];exact⟨_,rfl,q⟩
theorem qK5:FnScope ["masks","kept","mask","fresh"] ["masks"] (qAc qVj):=fsk
theorem qZ9(F:Fun K "reduced" "reduced" qVj f fd)(G:v9 1 f1 fd1 ["mask","kept"] qOd "lessened")(mmi:mg "min"=none)(mso:mg "sorted"=none):v8 2 f fd ["masks"] qRo:=by
 refine F.okA qK5 λcdv A outer s H vs Q E hr h=>?_
 obtain⟨p,ms,rfl,hp,lm,q⟩:=h;refine⟨_,qAa (v4 1 qK5 (qA2 qAz))
  (qAa (qBf PassesOwn.never rfl (qAp (pv 0)) (v5 2 qK5)
   (qAa (v6 3 qK5 (qAv G hr rfl .nil pass0 (qAe (pv 2) (pa1 (pv 1)))))
   (qAd (qBj (qAn qFp (pv 3) qAb (nomark _))
    (qAd (v4 1 qK5 (qAg qB9 (qG7 (N:=["masks","kept","mask","fresh"]) (sc:=qAc qVj) (N':=["step","fresh"]) (sub:=[none,some 3]) rfl rfl (CmpOk.of (by decide +kernel)) rfl (qAp (pv 1))
     (λC s H fp=>⟨qAm (i:=0) (by show(["step","fresh"]:List Str).Nodup;decide) rfl (Or.inl rfl),qAw,qAh (qF5 rfl) rfl mmi qF8 (qAe (pv 0) (pa1 (qAg qDn (pv 0) (pv 1))))⟩)) (qA2 (pa1 (pv 3))))))
    qAx))))
  (qAd (qAt (qGh rfl mso (pa1 (pv 1)))))),?_⟩
 refine⟨hAp _,λke ke0=>?_⟩;have X0:=Ext.new ke0 (.lst []);refine⟨_,rfl,p,rfl,⟨_,SqL.of (X0 _ _ hp)⟩,?_⟩;refine qBm (xs:=ms.map iV) (λi σ H'=>∃(ke:Addr) (x2 x3:Option V),σ=[some (.ref p),some (.ref ke),x2,x3]/\Ext H H'/\LsN H' ke (red (ms.take i))) ⟨ke,none,none,rfl,X0,upd_same⟩ (λi σ H' _ h=>by obtain⟨_,_,_,_,e,_⟩:=h;exact SqL.of (e _ _ hp)) ?_ ?_
 ·rintro i v σ H' hx ⟨ke,x2,x3,rfl,e,hk⟩;obtain⟨m,rfl,hm⟩:=qCj hx;have hi:i<ms.length:=qAu hm;have rr:=qCi (ms.take i);have lr:=qSi (ms.take i);rw[hAk]at lr;refine⟨_,rfl,_,rfl,m,ke,_,rfl,hk,rr.nz,?_⟩;have sn:red (ms.take (i+1))=qQr (red (ms.take i)) m:=by rw[qAl hm,qEj]
  refine⟨_,rfl,rfl,_,rfl,?_⟩;refine qBy (λc=>?_) (λc=>?_)
  ·have c':red1 (red (ms.take i)) m≠0:=λz=>by rw[z]at c;simp at c
   refine⟨_,rfl,ke,rfl,⟨_,SqL.of hk⟩,?_⟩;refine qAq (xs:=(red (ms.take i)).map iV) (λj ys H2=>H2=H'/\ys=(((red (ms.take i)).take j).map λs=>rd1 s (red1 (red (ms.take i)) m)).map iV) ⟨rfl,rfl⟩ (λj ys H2 _ h=>by rw[h.1];exact SqL.of hk) ?_ ?_
   ·rintro j x ys H2 hx2 ⟨rfl,rfl⟩;obtain⟨s,rfl,hs⟩:=qCj hx2;have hj:=qAu hs;refine⟨sls,iteT (B:=False) ⟨_,rfl,_,rfl,_,rfl,_,_,rfl,rfl,_,_,rfl,?_,nxt (qAu hx2) ⟨rfl,?_⟩⟩⟩
    ·rw[hA1,hA1,hAk];exact qAf (by omega)
    ·rw[qS8 _ c',qAl hs,hA3,hA3];rfl
   ·rintro ys H2 ⟨rfl,rfl⟩ l hl;rw[hA1,hA5 (hAa _)];have n1:=Ext.new hl (.lst (((red (ms.take i)).map λs=>rd1 s (red1 (red (ms.take i)) m)).map iV));refine⟨_,rfl,(by show 1<=sizeLine;decide),λl2 hl2=>?_⟩;have n2:=Ext.new hl2 (.lst [iV (red1 (red (ms.take i)) m)]);refine⟨l,l2,_,_,rfl,rfl,n2 _ _ upd_same,upd_same,?_,λl3 hl3=>?_⟩
    ·rw[hA1,hA1];show _+1<=sizeLine;exact hB5 (qAf (by omega))
    ·refine⟨l3,_,_,rfl,((e.trans n1).trans n2).trans (Ext.new hl3 _),?_⟩;rw[sn];unfold qQr LsN;rw[hEm c',upd_same,hA3];rfl
  ·have c':red1 (red (ms.take i)) m=0:=by
    have:(red1 (red (ms.take i)) m:Int)=0:=by simpa using c
    omega
   refine⟨ke,_,_,rfl,e,?_⟩;rw[sn];unfold qQr;rw[hEn c'];exact hk
 ·rintro σ H' ⟨ke,x2,x3,rfl,e,hk⟩;rw[hA1,hA5 (hAa _)]at hk;have lr:=qSi ms;refine⟨_,rfl,ke,(red ms).map (λn:Nat=>(n:Int)),rfl,by rw[<-qCg];exact SqL.of hk,by rw[hA1];omega,λr ns hr' pm od=>?_⟩;have od':ns.Pairwise λa b=>a >= b:=od
  obtain⟨M,rfl⟩:∃M:List Nat,ns=M.map (λn:Nat=>(n:Int)):=by
   refine⟨ns.map Int.toNat,?_⟩;rw[hB6];refine(List.map_id _).symm.trans (hBs λa ha=>?_);obtain⟨n,_,rfl⟩:=hAb.mp (pm.mem_iff.mp ha);simp
  have pm':M.Perm (red ms):=by
   have:=pm.map Int.toNat;rw[hB6,hB6]at this;have idn:(Int.toNat∘λn:Nat=>(n:Int))=id:=by funext n;simp
   rw[idn,List.map_id,List.map_id]at this;exact this
  refine q r M _ (e.trans (Ext.new hr' _)) (e.none hr') (by unfold LsN;rw[upd_same,qCg]) pm' ?_;rw[hBb]at od';exact hEb (λ{a b} h=>by omega) od'
end
theorem RR.perm(h:RR a)(p:b.Perm a):RR b:=⟨λs hs=>h.nz s (p.mem_iff.mp hs),(p.pairwise_iff (λ{x y} z=>⟨z.2,z.1⟩)).mpr h.ap⟩
theorem qDb:∀l:List Nat,(l.map λn:Nat=>(n:Int)).sum=((l.sum:Nat):Int)
 |[]=>rfl
 |a :: l=>by rw[hBj,hDd,hDd,qDb l];omega
theorem qBr(p:Nat):(1:Int)*2^((p:Int)).toNat=((2^p:Nat):Int):=by
 rw[hB8,Int.one_mul,Int.natCast_pow];rfl
def qIt(H:Hp)(T:Addr)(aA:List Str)(rows:List (List Str)):Prop:=∃a b,H T=some (.tup [.ref a,.ref b])/\LsS H a aA/\qJo H b rows
theorem qIt.ext(h:qIt H T aA rows)(e:Ext H H'):qIt H' T aA rows:=by
 obtain⟨a,b,h1,h2,h3⟩:=h;exact⟨a,b,e _ _ h1,e _ _ h2,h3.ext e⟩
def qRl:Sp:=λvs H Q _=>∃(T:Addr) (aA:List Str) (rows:List (List Str)),vs=[.ref T]/\qIt H T aA rows/\rows.length<=24/\∀(r:Addr) (M:List Nat) (H':Hp),Ext H H'->H r=none->LsN H' r M->M.Perm (red (rows.map (qB6 aA)))->M.Pairwise (λa b=>b<=a)->Q (.ref r) H'
noncomputable def zFd(net:List Tr)(x:Str):List Str:=(net.filter λt=>decide (t.2.1=x) != decide (t.2.2=x)).map (·.1)
section
variable{P:Program}{w:World}{K:PySem.W.Frag}{mg:Str->Option Value}{base:Heap}{f f1 f2 f3 f4:Addr}{fd fd1 fd2 fd3 fd4:FuncData}
theorem qM2:FnScope ["table","names","rows"] ["table"] (qAc qOn):=fsk
theorem qV7(F:Fun K "step_masks" "step_masks" qOn f fd)(G1:v9 1 f1 fd1 ["names","row"] qXh "mask_of")
  (G2:v9 2 f2 fd2 ["masks"] qRo "reduced"):v8 3 f fd ["table"] qRl:=by
 refine F.okA qM2 λcdv A outer s H vs Q E hr h=>?_
 obtain⟨T,aA,rows,rfl,⟨a,b,hT,ha,⟨as,hb,pr⟩⟩,lr,q⟩:=h;have hr1:=hr.mono (j:=1) (by decide);refine⟨_,qAa (qGz (pv 0) (qB0 rfl (qAs (v7 1 qM2) (qAs (v5 2 qM2) qBc))))
  (qAd (qAt (qAv G2 hr rfl .nil pass0 (pa1 (qG7 (N:=["table","names","rows"]) (sc:=qAc qOn) (N':=["row","names"]) (sub:=[none,some 1]) rfl rfl (CmpOk.of (by decide +kernel)) rfl (qAp (pv 2))
   (λC s H fp=>⟨qAm (i:=0) (by show(["row","names"]:List Str).Nodup;decide) rfl (Or.inl rfl),qAw,qAv G1 hr1 rfl .nil pass0 (qAe (pv 1) (pa1 (pv 0)))⟩)))))),?_⟩
 have la:as.length=rows.length:=pr.length;refine⟨_,rfl,T,_,rfl,SqT.of hT,rfl,_,_,rfl,_,_,rfl,rfl,?_⟩;refine⟨_,rfl,b,rfl,⟨_,SqL.of hb⟩,?_⟩;refine qAq (xs:=as.map V.ref) (λj ys H2=>H2=H/\ys=((rows.take j).map (qB6 aA)).map iV) ⟨rfl,rfl⟩ (λj ys H2 _ h=>by rw[h.1];exact SqL.of hb) ?_ ?_
 ·rintro j v ys H2 hx ⟨rfl,rfl⟩;obtain⟨c,rfl,hc⟩:=qA5 hx;obtain⟨rw1,hrw,hc1⟩:=qAr pr hc;have hj:=qAu hrw;refine⟨sls,iteT (B:=False) ⟨_,rfl,_,rfl,a,c,aA,rw1,rfl,ha,hc1,?_,nxt (qAu hx) ⟨rfl,?_⟩⟩⟩
  ·rw[hA1,hA1,hAk];exact qAf (by omega)
  ·rw[qAl hrw,hA3,hA3];rfl
 ·rintro ys H2 ⟨rfl,rfl⟩ l hl;rw[hA1,la,hA5 (hAa _)];have n1:=Ext.new hl (.lst ((rows.map (qB6 aA)).map iV));refine⟨l,_,rfl,upd_same,by rw[hA1];exact lr,λr M H1 e1 r0 hM pM dM=>?_⟩;exact q r M H1 (n1.trans e1) (n1.none r0) hM pM dM
end
theorem qQy(net:List Tr):∀S:Str->Prop,(∀t∈net,S t.2.1↔S t.2.2)->∀x y,qB3 net x=qB3 net y->(S x↔S y):=by
 refine qFg (P:=λnet=>∀S:Str->Prop,(∀t∈net,S t.2.1↔S t.2.2)->∀x y,qB3 net x=qB3 net y->(S x↔S y)) (λS _ x y e=>?_) (λl t ih S hS x y e=>?_) net
 ·have:x=y:=e;rw[this]
 have ih':=ih S λu hu=>hS u (hAe _ hu)
 have hT:=hS t (by simp);rw[qEc]at e;have e':(if qB3 l x=qB3 l t.2.2 then qB3 l t.2.1 else qB3 l x)=(if qB3 l y=qB3 l t.2.2 then qB3 l t.2.1 else qB3 l y):=e;by_cases a:qB3 l x=qB3 l t.2.2
 ·by_cases b:qB3 l y=qB3 l t.2.2
  ·exact ih' x y (a.trans b.symm)
  ·rw[hEn a,hEm b]at e';exact(ih' x t.2.2 a).trans (hT.symm.trans (ih' t.2.1 y e'))
 ·by_cases b:qB3 l y=qB3 l t.2.2
  ·rw[hEm a,hEn b]at e';exact(ih' x t.2.1 e').trans (hT.trans (ih' t.2.2 y b.symm))
  ·rw[hEm a,hEm b]at e';exact ih' x y e'
noncomputable def ixF(ps:List Str)(x:Str):Nat:=ps.findIdx λy=>decide (y=x)
theorem qEx(h:x∈ps):ps[ixF ps x]?=some x/\(∀k,k<ixF ps x->ps[k]?≠some x)/\ixF ps x<ps.length:=by
 have lt:ixF ps x<ps.length:=List.findIdx_lt_length_of_exists ⟨x,h,by simp⟩;have at_:ps[ixF ps x]=x:=by
  have:=List.findIdx_getElem (w:=lt);exact hEl this
 refine⟨by rw[hA2 lt,at_],λk hk e=>?_,lt⟩;have:=List.not_of_lt_findIdx hk;have kl:k<ps.length:=Nat.lt_trans hk lt;rw[hA2 kl]at e;have e':=hAq e;simp[e']at this
noncomputable def vT(ps:List Str)(t:Tr):Nat:=2^ixF ps t.2.1^^^2^ixF ps t.2.2
noncomputable def vF(net:List Tr)(ps:List Str)(i:Nat):Nat:=match net[i]? with|some t=>vT ps t|none=>0
theorem qQ8(h:net[i]?=some t):vF net ps i=vT ps t:=by unfold vF;rw[h]
noncomputable def phi(M:Nat)(Z:Nat->Bool)(z:Nat):Bool:=xsum M λq=>z.testBit q && Z q
theorem qKg(M:Nat)(Z:Nat->Bool)(x y:Nat):phi M Z (x^^^y)=(phi M Z x ^^ phi M Z y):=by
 unfold phi;rw[<-qHa];refine qB8 λj _=>?_
 rw[hAo];cases x.testBit j <;> cases y.testBit j <;> cases Z j <;> rfl
theorem qKf(M:Nat)(Z:Nat->Bool):phi M Z 0=false:=by
 unfold phi;rw[qB8 (g:=λ_=>false) λj _=>by simp,qDi]
theorem qZ4(h:p<M):phi M Z (2^p)=Z p:=by
 unfold phi;rw[qHb (l:=p) λj _ ne=>by rw[hB4,hEj (λz=>ne z.symm)];rfl,hB4];simp[h]
theorem qX5(M:Nat)(Z:Nat->Bool)(V:Nat->Nat):∀m y:Nat,phi M Z (bd V m y)=xsum m λj=>y.testBit j && phi M Z (V j)
 |0,y=>by show phi M Z 0=false;exact qKf M Z
 |m+1,y=>by
  show phi M Z (bd V m y^^^_)=(xsum m _ ^^ (y.testBit m && phi M Z (V m)));rw[qKg,qX5 M Z V m y];cases y.testBit m
  ·simp[qKf]
  ·simp
theorem qWz(hp:∀x,qUx net x->x∈ps)(h:EIv (vF net ps) m i K F)(hi:i<m)(ht:net[i]?=some t) :
  (el K (vF net ps i,2^i)).1=0↔qB3 (net.take i) t.2.1=qB3 (net.take i) t.2.2:=by
 have tm:=hAh ht;have pa:t.2.1∈ps:=hp _ ⟨t,tm,.inl rfl⟩;have pb:t.2.2∈ps:=hp _ ⟨t,tm,.inr rfl⟩;have il:i<net.length:=qAu ht;have got:∀j,j<i->∃u,net[j]?=some u/\u∈net.take i/\u∈net:=λj hj=>by
  have jl:j<net.length:=by omega
  refine⟨net[j],hA2 jl,?_,hC4 jl⟩;refine hAh (i:=j) ?_;rw[List.getElem?_take,hEn hj,hA2 jl]
 constructor
 ·intro r0;refine hD4 λne=>?_
  obtain⟨a,b,c,d,_⟩:=h.run hi;have c':(el K (vF net ps i,2^i)).2^^^2^i<2^i:=Spn.lt (λx hx=>by
   obtain⟨f,hf,rfl⟩:=hAb.mp hx;exact h.kl f hf) b
  have e:(el K (vF net ps i,2^i)).1=bd (vF net ps) m ((el K (vF net ps i,2^i)).2^^^2^i)^^^vF net ps i:=by
   rw[qEg,qQa hi,<-a,qA1]
  have Zix:∀ {x:Str},x∈ps->phi ps.length (λq=>decide (qB3 (net.take i) (ps.getD q "")=qB3 (net.take i) t.2.1)) (2^ixF ps x)=decide (qB3 (net.take i) x=qB3 (net.take i) t.2.1):=λ{x} hx=>by
   obtain⟨h1,_,h3⟩:=qEx hx;rw[qZ4 h3];show decide (qB3 (net.take i) (ps.getD (ixF ps x) "")=_)=_;rw[hA7,h1];rfl
  have p0:=congrArg (phi ps.length (λq=>decide (qB3 (net.take i) (ps.getD q "")=qB3 (net.take i) t.2.1))) e;rw[r0,qKf,qKg,qX5]at p0;have z1:(xsum m λj=>((el K (vF net ps i,2^i)).2^^^2^i).testBit j && phi ps.length (λq=>decide (qB3 (net.take i) (ps.getD q "")=qB3 (net.take i) t.2.1)) (vF net ps j))=false:=by
   rw[qB8 (g:=λ_=>false) λj _=>?_,qDi];by_cases hj:j<i
   ·obtain⟨u,hu,hu2,hu3⟩:=got j hj;rw[qQ8 hu];unfold vT;rw[qKg,Zix (hp _ ⟨u,hu3,.inl rfl⟩),Zix (hp _ ⟨u,hu3,.inr rfl⟩),qWr (net.take i) u hu2];simp
   ·rw[qDs c' (by omega)];rfl
  rw[z1,qQ8 ht]at p0;unfold vT at p0;rw[qKg,Zix pa,Zix pb,hEi rfl,hEj (λz=>ne z.symm)]at p0;cases p0
 ·intro e;have S:=qQy (net.take i) (λz=>∃y,y<2^i/\bd (vF net ps) m y=2^ixF ps t.2.1^^^2^ixF ps z) (λu hu=>by
   obtain⟨j,hj,ej⟩:=List.getElem_of_mem hu;have ji:j<i:=by rw[hAk]at hj;omega
   have uj:net[j]?=some u:=by
    have:(net.take i)[j]?=some u:=by rw[hA2 hj,ej]
    rw[List.getElem?_take,hEn ji]at this;exact this
   have jm:j<m:=by omega
   have b:bd (vF net ps) m (2^j)=2^ixF ps u.2.1^^^2^ixF ps u.2.2:=by rw[qQa jm,qQ8 uj];rfl
   have pj:2^j<2^i:=Nat.pow_lt_pow_right (by decide) ji;constructor
   ·rintro⟨y,hy,ey⟩;refine⟨y^^^2^j,hCd hy pj,?_⟩;rw[qEg,ey,b,<-hBu,qA1]
   ·rintro⟨y,hy,ey⟩;refine⟨y^^^2^j,hCd hy pj,?_⟩;rw[qEg,ey,b,hDf (2^ixF ps u.2.1),<-hBu,qA1]) t.2.1 t.2.2 e
  obtain⟨y,hy,ey⟩:=S.mp ⟨0,Nat.pow_pos (by decide),by rw[qIr,hC1]⟩;exact h.none hi hy (by rw[ey,qQ8 ht];rfl)
theorem qTr(hp:∀x,qUx net x->x∈ps)(h:EIv (vF net ps) m i K F)(hi:i<m)(ht:net[i]?=some t)(hk:K.length=(qFf (net.take i)).length) :
  if (el K (vF net ps i,2^i)).1=0 then K.length=(qFf (net.take (i+1))).length else (K++[el K (vF net ps i,2^i)]).length=(qFf (net.take (i+1))).length:=by
 have e:=qWz hp h hi ht;rw[qAl ht,qGb];unfold qQ7;rw[qLz];split
 ·rename_i z;rw[hEn (e.mp z)];exact hk
 ·rename_i z;rw[hEm (λw=>z (e.mpr w)),hAc,hAc,hk];rfl
def qI4:Sp:=λvs H Q _=>∃(p:Addr) (ms:List Nat) (m:Nat),vs=[.ref p]/\LsN H p ms/\ms.length<=4999/\(∀x∈ms,x<2^m)/\∀r H',Ext H H'->H r=none->LsN H' r (redL ms)->Q (.ref r) H'
theorem qQs(k:List Nat)(s x:Nat):redL1 (k++[s]) x=rdL (redL1 k x) s:=by unfold redL1;rw[hBm];rfl
theorem qE3(xs:List Nat):(redL xs).length<=xs.length:=by
 refine qFh (P:=λxs=>(redL xs).length<=xs.length) (hAa _) (λl t ih=>?_) xs;rw[qH5,hAc];unfold qNc;split
 ·exact hAw ih (hE2 _ _)
 ·rw[hAc,hA1];exact Nat.add_le_add_right ih _
def qQd(H:Hp)(p:Addr)(K:List (Nat×Nat)):Prop:=∃as:List Addr,H p=some (.lst (as.map V.ref))/\Paired (λa f=>H a=some (.tup [iV f.1,iV f.2])) as K
def qMu:Sp:=λvs H Q _=>∃(p:Addr) (net:List Tr),vs=[.ref p]/\qFe H p net/\net.length<=12/\∀(r:Addr) (F:List Nat) (K:List (Nat×Nat)) (ps:List Str) (H':Hp),Ext H H'->H r=none->LsN H' r F->qQ0 net ps->EIv (vF net ps) net.length net.length K F->K.length=(qFf net).length->Q (.ref r) H'
noncomputable def rowL(aA:List Str)(x:Nat):List Str:=(List.range aA.length).filterMap λi=>if x.testBit i=true then aA[i]? else none
def qRt:Sp:=λvs H Q _=>∃(pn:Addr) (aA:List Str) (x:Nat),vs=[.ref pn,iV x]/\LsS H pn aA/\aA.length<=12/\∀r H',Ext H H'->H r=none->LsS H' r (rowL aA x)->Q (.ref r) H'
theorem zBi(k:List (Nat×Nat))(f v:Nat×Nat):el (k++[f]) v=el1 (el k v) f:=by unfold el;rw[hBm];rfl
section
variable{P:Program}{w:World}{K:PySem.W.Frag}{mg:Str->Option Value}{base:Heap}{f f1 f2 f3 f4:Addr}{fd fd1 fd2 fd3 fd4:FuncData}
noncomputable abbrev lrN:List Str:=["_law_numbers","_law_rows","_law_number","_law_row_here","_law_lead"]
noncomputable abbrev lrC:List Str:=["_law_row_here","_law_number","_law_lead"]
theorem qH0:FnScope lrN ["_law_numbers"] (qAc qVo):=fsk
theorem zAf(F:Fun K "_law_reduced" "_law_reduced" qVo f fd):v8 1 f fd ["_law_numbers"] qI4:=by
 refine F.okA qH0 λcdv A outer s H vs Q E hr h=>?_
 obtain⟨p,ms,m,rfl,hp,lm,lt,q⟩:=h;refine⟨_,qAa (v4 1 qH0 (qA2 qAz))
  (qAa (qBf PassesOwn.never rfl (qAp (pv 0)) (v7 2 qH0)
   (qAa (qBf PassesOwn.never rfl (qAp (pv 1)) (v5 3 qH0)
    (qAd (qBj (qAn qFp (qAg qBu (qAg qBu (pv 2) (pv 3)) (qLg qHq (pv 3))) qAb (nomark _)) (qAd (v6 2 qH0 (qAg qDn (pv 2) (pv 3)))) qAx)))
   (qAd (qBj (qAn qFp (pv 2) qAb (nomark _))
    (qAa (v6 4 qH0 (qAg qBu (pv 2) (qLg qHq (pv 2))))
    (qAd (v4 1 qH0 (qAg qB9 (qG7 (N:=lrN) (sc:=qAc qVo) (N':=lrC) (sub:=[none,some 2,some 4]) rfl rfl (CmpOk.of (by decide +kernel)) rfl (qAp (pv 1))
     (λC s H fp=>⟨qAm (i:=0) (by show lrC.Nodup;decide) rfl (Or.inl rfl),qAw,qEl (qAn qFp (qAg qBu (pv 0) (pv 2)) qAb (nomark _)) (qAg qDn (pv 0) (pv 1)) (pv 0)⟩)) (qA2 (pa1 (pv 2)))))))
    qAx))))
  (qAd (qAt (pv 1)))),?_⟩
 refine⟨hAp _,λro ro0=>?_⟩;have X0:=Ext.new ro0 (.lst []);refine⟨_,rfl,p,rfl,⟨_,SqL.of (X0 _ _ hp)⟩,?_⟩;refine qBm (xs:=ms.map iV) (λi σ H'=>∃(ro:Addr) (x2 x3 x4:Option V),σ=[some (.ref p),some (.ref ro),x2,x3,x4]/\Ext H H'/\H ro=none/\LsN H' ro (redL (ms.take i))) ⟨ro,none,none,none,rfl,X0,ro0,upd_same⟩ (λi σ H' _ h=>by obtain⟨_,_,_,_,_,e,_⟩:=h;exact SqL.of (e _ _ hp)) ?_ ?_
 ·rintro i v σ H' hx ⟨ro,x2,x3,x4,rfl,e,ro0,hk⟩;obtain⟨n,rfl,hn⟩:=qCj hx;have hi:i<ms.length:=qAu hn;have nl:=lt n (hAh hn);obtain⟨gm,_⟩:=qE2 (m:=m) (ms.take i) λx hx=>lt x (hDc hx)
  have lr:=qE3 (ms.take i);rw[hAk]at lr;have sn:redL (ms.take (i+1))=qNc (redL (ms.take i)) n:=by rw[qAl hn,qH5]
  refine⟨_,rfl,ro,rfl,⟨_,SqL.of hk⟩,?_⟩;refine qBm (xs:=(redL (ms.take i)).map iV) (λj σ H2=>H2=H'/\∃x3:Option V,σ=[some (.ref p),some (.ref ro),some (iV (redL1 ((redL (ms.take i)).take j) n)),x3,x4]) ⟨rfl,x3,rfl⟩ (λj σ H2 _ h=>by rw[h.1];exact SqL.of hk) ?_ ?_
  ·rintro j v σ H2 hx2 ⟨rfl,x3,rfl⟩;obtain⟨s,rfl,hs⟩:=qCj hx2;have snz:=(gm s (hAh hs)).2;have st:redL1 ((redL (ms.take i)).take (j+1)) n=rdL (redL1 ((redL (ms.take i)).take j) n) s:=by rw[qAl hs,qQs]
   refine⟨_,rfl,_,rfl,_,_,rfl,rfl,_,rfl,_,rfl,_,_,rfl,rfl,rfl,_,rfl,?_⟩;have lt2:=qPf (redL1 ((redL (ms.take i)).take j) n) snz;have key:((!decide (V.int (Builtin.bitAnd (Builtin.bitAnd ((redL1 ((redL (ms.take i)).take j) n:Nat):Int) (s:Int)) (-(s:Int)))=V.int 0))=true)↔(redL1 ((redL (ms.take i)).take j) n).testBit (lo s)=true:=by
    rw[<-lt2];simp
   refine qBy (λc=>?_) (λc=>?_)
   ·refine⟨_,rfl,_,rfl,_,_,rfl,rfl,rfl,some (iV s),?_⟩;rw[st,show rdL (redL1 ((redL (ms.take i)).take j) n) s=redL1 ((redL (ms.take i)).take j) n^^^s from hEn (key.mp c),show iV (redL1 ((redL (ms.take i)).take j) n^^^s)=V.int (Builtin.bitXor ((redL1 ((redL (ms.take i)).take j) n:Nat):Int) (s:Int)) by rw[qCh]];rfl
   ·refine⟨rfl,some (iV s),?_⟩;rw[st,show rdL (redL1 ((redL (ms.take i)).take j) n) s=redL1 ((redL (ms.take i)).take j) n from hEm λz=>c (key.mpr z)];rfl
  ·rintro σ H2 ⟨rfl,x3,rfl⟩;rw[hA1,hA5 (hAa _)];refine⟨_,rfl,rfl,_,rfl,?_⟩;refine qBy (λc=>?_) (λc=>?_)
   ·have nz:redL1 (redL (ms.take i)) n≠0:=λz=>by rw[z]at c;simp at c
    have lb:=qNk nz;refine⟨_,rfl,_,rfl,_,rfl,_,_,rfl,rfl,?_⟩;refine⟨_,rfl,ro,rfl,⟨_,SqL.of hk⟩,?_⟩;refine qAq (xs:=(redL (ms.take i)).map iV) (λj ys H3=>H3=H2/\ys=(((redL (ms.take i)).take j).map λs=>rdL s (redL1 (redL (ms.take i)) n)).map iV) ⟨rfl,rfl⟩ (λj ys H3 _ h=>by rw[h.1];exact SqL.of hk) ?_ ?_
    ·rintro j v ys H3 hx3 ⟨rfl,rfl⟩;obtain⟨s,rfl,hs⟩:=qCj hx3;have hj:=qAu hs;have sz:((((redL (ms.take i)).take j).map λs=>rdL s (redL1 (redL (ms.take i)) n)).map iV).length<sizeLine:=by
      rw[hA1,hA1,hAk];exact qDl (by omega)
     have ap:=qN2 s (lo (redL1 (redL (ms.take i)) n));have key:((!decide (V.int (Builtin.bitAnd (s:Int) (Builtin.bitAnd ((redL1 (redL (ms.take i)) n:Nat):Int) (-((redL1 (redL (ms.take i)) n:Nat):Int))))=V.int 0))=true)↔s.testBit (lo (redL1 (redL (ms.take i)) n))=true:=by
      rw[lb,qCp,<-ap];simp
     refine⟨sls,iteT (B:=False) ?_⟩;refine⟨_,rfl,_,rfl,_,_,rfl,rfl,rfl,_,rfl,?_⟩;refine qBy (λc3=>?_) (λc3=>?_)
     ·refine⟨_,rfl,_,rfl,_,_,rfl,rfl,sz,nxt (qAu hx3) ⟨rfl,?_⟩⟩;rw[qAl hs,hA3,hA3,hD8,hD8,show rdL s (redL1 (redL (ms.take i)) n)=s^^^redL1 (redL (ms.take i)) n from hEn (key.mp c3),show iV (s^^^redL1 (redL (ms.take i)) n)=V.int (Builtin.bitXor (s:Int) ((redL1 (redL (ms.take i)) n:Nat):Int)) by rw[qCh]]
     ·refine⟨_,rfl,sz,nxt (qAu hx3) ⟨rfl,?_⟩⟩;rw[qAl hs,hA3,hA3,hD8,hD8,show rdL s (redL1 (redL (ms.take i)) n)=s from hEm λz=>c3 (key.mpr z)]
    ·rintro ys H3 ⟨rfl,rfl⟩ l1 hl1;rw[hA1,hA5 (hAa _)];have n1:=Ext.new hl1 (.lst (((redL (ms.take i)).map λs=>rdL s (redL1 (redL (ms.take i)) n)).map iV));refine⟨_,rfl,(by show 1<=sizeLine;decide),λl2 hl2=>?_⟩;have n2:=Ext.new hl2 (.lst [iV (redL1 (redL (ms.take i)) n)]);refine⟨l1,l2,_,_,rfl,rfl,n2 _ _ upd_same,upd_same,?_,λl3 hl3=>?_⟩
     ·rw[hA1,hA1];show _+1<=sizeLine;exact hB5 (qDl (by omega))
     ·refine⟨l3,_,_,_,rfl,((e.trans n1).trans n2).trans (Ext.new hl3 _),((e.trans n1).trans n2).none hl3,?_⟩;rw[sn];unfold qNc LsN;rw[hEm nz,upd_same,hA3];rfl
   ·have z:redL1 (redL (ms.take i)) n=0:=by
     have:(redL1 (redL (ms.take i)) n:Int)=0:=by simpa using c
     omega
    refine⟨ro,_,_,_,rfl,e,ro0,?_⟩;rw[sn];unfold qNc;rw[hEn z];exact hk
 ·rintro σ H' ⟨ro,x2,x3,x4,rfl,e,ro0,hk⟩;rw[hA1,hA5 (hAa _)]at hk;exact⟨_,rfl,q ro _ e ro0 hk⟩
theorem zCd:FnScope ["_law_names_here","_law_number"] ["_law_names_here","_law_number"] (qAc qVn):=fsk
noncomputable abbrev lwN:List Str:=["_law_k","_law_name","_law_number"]
theorem zAe(F:Fun K "_law_row" "_law_row" qVn f fd)(me:mg "enumerate"=none):v8 1 f fd ["_law_names_here","_law_number"] qRt:=by
 refine F.okA zCd λcdv A outer s H vs Q E hr h=>?_
 obtain⟨pn,aA,x,rfl,hn,ln,q⟩:=h;refine⟨_,qAd (qAt (qG7 (N:=["_law_names_here","_law_number"]) (sc:=qAc qVn) (N':=lwN) (sub:=[none,none,some 1]) rfl rfl (CmpOk.of (by decide +kernel)) rfl (qE4 rfl me (pa1 (pv 0)))
   (λC s H fp=>⟨(show PG _ _ (zBe K 2 _) from qB0 rfl (qAs (qAm (i:=0) (by show lwN.Nodup;decide) rfl (Or.inl rfl)) (qAs (qAm (i:=1) (by show lwN.Nodup;decide) rfl (Or.inl rfl)) qBc))),
    qBb (qAn qB4 (qAg qBu (qAg qG1 (pv 2) (pv 0)) qAb) qAb (nomark _)),pv 1⟩))),?_⟩
 refine⟨_,rfl,pn,_,rfl,SqL.of hn,?_⟩;rw[hA1];refine qD4 (λi ys H'=>Ext H H'/\ys=((List.range i).filterMap λi=>if x.testBit i=true then aA[i]? else none).map V.str) ⟨Ext.refl _,rfl⟩ (λi ys H' _ p=>SqL.of (p.1 _ _ hn)) ?_ ?_
 ·rintro i ys H' T hi ⟨e,rfl⟩ hT;have gd:(aA.map V.str).getD i .non = .str aA[i]:=by rw[hA7,hAi,hA2 hi];rfl
  have e2:=e.trans (Ext.new hT (.tup [V.int (i:Nat),(aA.map V.str).getD i .non]));refine⟨T,_,rfl,SqT.of upd_same,rfl,_,_,rfl,_,_,rfl,rfl,?_⟩;refine⟨Sle.set _ (sls) (λu z=>by cases z),?_⟩;refine⟨_,rfl,_,rfl,_,_,rfl,rfl,(by show(0:Int)<=_;omega),_,_,rfl,rfl,rfl,_,rfl,?_⟩;have fm:((List.range (i+1)).filterMap λi=>if x.testBit i=true then aA[i]? else none)=((List.range i).filterMap λi=>if x.testBit i=true then aA[i]? else none)++(if x.testBit i=true then [aA[i]] else []):=by
   rw[hCf,hD5];congr 1;by_cases b:x.testBit i=true
   ·simp[b,hA2 hi]
   ·simp[b]
  have sz:=hC0 (λi=>if x.testBit i=true then aA[i]? else none) (List.range i);rw[hB0]at sz;have key:(decide (V.int (Builtin.bitAnd ((x:Int) / 2^(((i:Nat):Int)).toNat) 1)=V.int 1)=true)↔x.testBit i=true:=by
   rw[hEp,V.int.injEq,hB8,qGd];by_cases b:x.testBit i=true
   ·simp[b]
   ·simp[b]
  refine qBy (λc=>?_) (λc=>?_)
  ·have b:=key.mp c;refine⟨_,rfl,by rw[hA1];exact qAf (by omega),nxt hi ⟨e2,?_⟩⟩;rw[fm,hEn b,hA3,gd];rfl
  ·have b:¬x.testBit i=true:=λz=>c (key.mpr z)
   refine nxt hi ⟨e2,?_⟩;rw[fm,hEm b,hC8]
 ·rintro ys H' ⟨e,rfl⟩ r hr';exact q r _ (e.trans (Ext.new hr' _)) (e.none hr') upd_same
end
theorem qQd.ext(h:qQd H p K)(e:Ext H H'):qQd H' p K:=by
 obtain⟨as,h1,h2⟩:=h;exact⟨as,e _ _ h1,Paired.mapP h2 λa t z=>e _ _ z⟩
section
variable{P:Program}{w:World}{K:PySem.W.Frag}{mg:Str->Option Value}{base:Heap}{f f1 f2 f3 f4:Addr}{fd fd1 fd2 fd3 fd4:FuncData}
noncomputable abbrev leN:List Str:=["_law_net_here","_law_knots","_law_kept","_law_found","_law_place","_law_tie","_law_ends_here","_law_mine","_law_far","_law_more"]
theorem qCt:FnScope leN ["_law_net_here"] (qAc qLa):=fsk
theorem qWg(F:Fun K "_law_even" "_law_even" qLa f fd)(mso:mg "sorted"=none)(mst:mg "set"=none)(me:mg "enumerate"=none):v8 1 f fd ["_law_net_here"] qMu:=by
 refine F.okA qCt λcdv A outer s H vs Q E hr h=>?_
 obtain⟨p,net,rfl,⟨as,hp,pr⟩,hl,q⟩:=h;refine⟨_,qAa (qJc (λσ H1=>∃(kn:Addr) (ps:List Str),σ=[some (.ref p),some (.ref kn),none,none,none,none,none,none,none,none]/\Ext H H1/\LsS H1 kn ps/\qQ0 net ps/\ps.length<=24) (v4 1 qCt (qAh (qIy rfl) rfl mso qA3 (pa1 (qBp (qUd rfl) rfl mst qUj (pa1 (qAg qB9
  (qA7 (N:=leN) (sc:=qAc qLa) (N':=["_law_tie"]) (sub:=[none]) (qAp (pv 0)) (λC s H fp=>⟨qAw,qBh (show IxR _ (qO2 K) from qBq) (pv 0) qAb (λ_ _=>rfl)⟩))
  (qA7 (N:=leN) (sc:=qAc qLa) (N':=["_law_tie"]) (sub:=[none]) (qAp (pv 0)) (λC s H fp=>⟨qAw,qBh (show IxR _ (qO2 K) from qBq) (pv 0) qAb (λ_ _=>rfl)⟩)))))))))
  (qAa (v4 2 qCt (qA2 qAz))
  (qAa (v4 3 qCt (qA2 qAz))
  (qAa (qBf PassesOwn.never rfl (qE4 rfl me (pa1 (pv 0))) (qB0 rfl (qAs (v5 4 qCt) (qAs (v5 5 qCt) qBc)))
   (qAa (v4 6 qCt (qAg qDn (qAg qCe qAb (qDu hAx hDx hDy qKk (pv 1) (pa1 (qBh qBq (pv 5) qAb (λ_ _=>rfl))))) (qAg qCe qAb (qDu hAx hDx hDy qKk (pv 1) (pa1 (qBh qBq (pv 5) qAb (λ_ _=>rfl)))))))
   (qAa (v4 7 qCt (qAg qCe qAb (pv 4)))
   (qAa (qBf PassesOwn.never rfl (qAp (pv 2)) (qB0 rfl (qAs (v5 8 qCt) (qAs (v5 9 qCt) qBc)))
    (qAd (qBj (qAn qFp (qAg qBu (qAg qBu (pv 6) (pv 8)) (qLg qHq (pv 8))) qAb (nomark _))
     (qAa (v4 6 qCt (qAg qDn (pv 6) (pv 8)))
     (qAd (v4 7 qCt (qAg qDn (pv 7) (pv 9))))) qAx)))
   (qAd (qBj (qAn qB4 (pv 6) qAb (nomark _))
    (qAd (qCd (qDu hAx hBn hBo qBw (pv 3) (pa1 (pv 7)))))
    (qAd (qCd (qDu hAx hBn hBo qBw (pv 2) (pa1 (qA6 (qAe (pv 6) (pa1 (pv 7))))))))))))))
  (qAd (qAt (pv 3)))))),?_⟩
 refine⟨?_,?_⟩
 ·refine⟨_,rfl,p,rfl,⟨_,SqL.of hp⟩,?_⟩;refine qHr (λt=>t.2.1) hp pr hl (λa t ha C B c=>⟨sls,?_⟩) ?_
  ·exact iteT (B:=B H) ⟨_,rfl,a,_,_,_,rfl,rfl,SqT.of ha,(by exact qAy (j:=1) rfl),c⟩
  intro l1 hl1;have n1:=Ext.new hl1 (.lst ((net.map λt=>t.2.1).map V.str));refine⟨_,rfl,p,rfl,⟨_,SqL.of (n1 _ _ hp)⟩,?_⟩;refine qHr (λt=>t.2.2) (n1 _ _ hp) (Paired.mapP pr λa t z=>n1 _ _ z) hl (λa t ha C B c=>⟨sls,?_⟩) ?_
  ·exact iteT (B:=B (upd H l1 (.lst ((net.map λt=>t.2.1).map V.str)))) ⟨_,rfl,a,_,_,_,rfl,rfl,SqT.of ha,(by exact qAy (j:=2) rfl),c⟩
  intro l2 hl2;have n2:=n1.trans (Ext.new hl2 (.lst ((net.map λt=>t.2.2).map V.str)));refine⟨l1,l2,_,_,rfl,rfl,(Ext.new hl2 _) _ _ upd_same,upd_same,?_,λl3 hl3=>?_⟩
  ·simp only[hA1];exact hB5 (qAf (by omega))
  have n3:=n2.trans (Ext.new hl3 (.lst ((net.map λt=>t.2.1).map V.str++(net.map λt=>t.2.2).map V.str)));refine⟨l3,(net.map λt=>t.2.1)++(net.map λt=>t.2.2),rfl,SqL.of (by rw[upd_same,hA3]),?_,λr1 ss hr1 nd ln mem=>?_⟩
  ·simp only[hAc,hA1];omega
  simp only[hAc,hA1]at ln;refine⟨r1,ss,rfl,upd_same,by omega,λkn ps hkn pm srt=>?_⟩;have E1:=(n3.trans (Ext.new hr1 _)).trans (Ext.new hkn (.lst (ps.map V.str)));have pok:qQ0 net ps:=⟨pm.nodup_iff.mpr nd,λx=>by
   rw[pm.mem_iff,mem,hAd,hAb,hAb];unfold qUx;constructor
   ·rintro(⟨t,ht,rfl⟩|⟨t,ht,rfl⟩)
    ·exact⟨t,ht,.inl rfl⟩
    ·exact⟨t,ht,.inr rfl⟩
   ·rintro⟨t,ht,rfl|rfl⟩
    ·exact .inl ⟨t,ht,rfl⟩
    ·exact .inr ⟨t,ht,rfl⟩⟩
  have lps:ps.length<=24:=by rw[pm.length_eq];omega
  exact⟨kn,ps,rfl,E1,upd_same,pok,lps⟩
 rintro σ H1 ⟨kn,ps,rfl,E1,hk1,pok,lps⟩;refine⟨hAp _,λke ke1=>?_⟩;have Xk:=Ext.new ke1 (.lst []);refine⟨hAp _,λfo fo1=>?_⟩;have Xf:=Xk.trans (Ext.new fo1 (.lst []));have ke0:=E1.none ke1;have fo0:=E1.none (Xk.none fo1);have kefo:ke≠fo:=qAo (upd_same:upd H1 ke (.lst []) ke=_) fo1;have lA:as.length=net.length:=pr.length;have hpx:∀x,qUx net x->x∈ps:=λx hx=>(pok.2 x).mpr hx
 refine⟨_,rfl,p,_,rfl,SqL.of (Xf _ _ (E1 _ _ hp)),?_⟩;rw[hA1,lA];refine qIn (λi σ H2=>∃(Kp:List (Nat×Nat)) (Fd:List Nat) (x4 x5 x6 x7 x8 x9:Option V),σ=[some (.ref p),some (.ref kn),some (.ref ke),some (.ref fo),x4,x5,x6,x7,x8,x9]/\Ext H1 H2/\qQd H2 ke Kp/\LsN H2 fo Fd/\EIv (vF net ps) net.length i Kp Fd/\Kp.length=(qFf (net.take i)).length)
  ⟨[],[],none,none,none,none,none,none,rfl,Xf,⟨[],(Ext.new fo1 _) _ _ upd_same,.nil⟩,upd_same,EIv.start _ _,rfl⟩ ?_ ?_ ?_
 ·rintro i σ H2 _ ⟨Kp,Fd,x4,x5,x6,x7,x8,x9,_,e2,_⟩;exact SqL.of ((E1.trans e2) _ _ hp)
 ·rintro i σ H2 T hi ⟨Kp,Fd,x4,x5,x6,x7,x8,x9,rfl,e2,kp,fd,ei,kw⟩ hT;have hia:i<as.length:=by omega
  have g2:(as.map V.ref).getD i .non = .ref as[i]:=by rw[hA7,hAi,hA2 hia];rfl
  obtain⟨t,ht,hta⟩:=qAr pr (hA2 hia);dsimp only;rw[g2];have Y1:=Ext.new hT (.tup [V.int (i:Nat),V.ref as[i]]);have E2:=(E1.trans e2).trans Y1;obtain⟨a1,a2,a3⟩:=qEx (hpx t.2.1 ⟨t,hAh ht,.inl rfl⟩);obtain⟨b1,b2,b3⟩:=qEx (hpx t.2.2 ⟨t,hAh ht,.inr rfl⟩);have hk2:=(e2.trans Y1) _ _ hk1;refine⟨T,_,rfl,SqT.of upd_same,rfl,_,_,rfl,_,_,rfl,rfl,?_⟩;refine⟨_,rfl,.inl ⟨rfl,_,SqL.of hk2⟩,_,rfl,as[i],_,_,_,rfl,rfl,SqT.of (E2 _ _ hta),(by exact qAy (j:=1) rfl),kn,ps,t.2.1,ixF ps t.2.1,rfl,rfl,hk2,a1,a2,by omega,_,_,rfl,rfl,⟨by omega,by omega,by decide⟩,?_⟩;refine⟨_,rfl,.inl ⟨rfl,_,SqL.of hk2⟩,_,rfl,as[i],_,_,_,rfl,rfl,SqT.of (E2 _ _ hta),(by exact qAy (j:=2) rfl),kn,ps,t.2.2,ixF ps t.2.2,rfl,rfl,hk2,b1,b2,by omega,_,_,rfl,rfl,⟨by omega,by omega,by decide⟩,_,_,rfl,rfl,?_⟩;have vv:(λi j:Int=>V.int (Builtin.bitXor i j)) (1*2^(((ixF ps t.2.1:Nat):Int)).toNat) (1*2^(((ixF ps t.2.2:Nat):Int)).toNat)=iV (vF net ps i):=by
   show V.int (Builtin.bitXor _ _)=_;rw[qBr,qBr,qCh,qQ8 ht];rfl
  rw[vv];refine⟨_,rfl,_,_,rfl,rfl,⟨by omega,by omega,by decide⟩,?_⟩;have wv:(λi j:Int=>V.int (i*2^j.toNat)) 1 ((i:Nat):Int)=iV (2^i):=by
   show V.int (1*2^_)=_;rw[qBr]
  rw[wv];obtain⟨ks,hks,pks⟩:=kp.ext Y1;have lk:ks.length=Kp.length:=pks.length;have lKp:Kp.length<=12:=by have:=ei.len;omega
  refine⟨_,rfl,ke,rfl,⟨_,SqL.of hks⟩,?_⟩;refine qBm (xs:=ks.map V.ref) (λj σ H3=>H3=upd H2 T (.tup [V.int (i:Nat),V.ref as[i]])/\∃(x8 x9:Option V),σ=[some (.ref p),some (.ref kn),some (.ref ke),some (.ref fo),some (.int (i:Nat)),some (.ref as[i]),some (iV (el (Kp.take j) (vF net ps i,2^i)).1),some (iV (el (Kp.take j) (vF net ps i,2^i)).2),x8,x9])
   ⟨rfl,x8,x9,rfl⟩ (λj σ H3 _ h=>by rw[h.1];exact SqL.of hks) ?_ ?_
  ·rintro j v σ H3 hx3 ⟨rfl,x8,x9,rfl⟩;obtain⟨c,rfl,hc⟩:=qA5 hx3;obtain⟨g,hg,hcg⟩:=qAr pks hc;have gnz:=(ei.k1 g (hAh hg)).1;have st:el (Kp.take (j+1)) (vF net ps i,2^i)=el1 (el (Kp.take j) (vF net ps i,2^i)) g:=by rw[qAl hg,zBi]
   refine⟨c,_,rfl,SqT.of hcg,rfl,_,_,rfl,_,_,rfl,rfl,?_⟩;refine⟨_,rfl,_,rfl,_,_,rfl,rfl,_,rfl,_,rfl,_,_,rfl,rfl,rfl,_,rfl,?_⟩;rw[st];generalize el (Kp.take j) (vF net ps i,2^i)=ev;have lt2:=qPf ev.1 gnz;have key:((!decide (V.int (Builtin.bitAnd (Builtin.bitAnd ((ev.1:Nat):Int) ((g.1:Nat):Int)) (-((g.1:Nat):Int)))=V.int 0))=true)↔ev.1.testBit (lo g.1)=true:=by
    rw[<-lt2];simp
   refine qBy (λc2=>?_) (λc2=>?_)
   ·refine⟨_,rfl,_,rfl,_,_,rfl,rfl,_,rfl,_,rfl,_,_,rfl,rfl,rfl,some (iV g.1),some (iV g.2),?_⟩;rw[show el1 ev g=(ev.1^^^g.1,ev.2^^^g.2) from hEn (key.mp c2),show iV (ev.1^^^g.1,ev.2^^^g.2).1=V.int (Builtin.bitXor ((ev.1:Nat):Int) ((g.1:Nat):Int)) by rw[qCh],show iV (ev.1^^^g.1,ev.2^^^g.2).2=V.int (Builtin.bitXor ((ev.2:Nat):Int) ((g.2:Nat):Int)) by rw[qCh]];rfl
   ·refine⟨rfl,some (iV g.1),some (iV g.2),?_⟩;rw[show el1 ev g=ev from hEm λz=>c2 (key.mpr z)];rfl
  ·rintro σ H3 ⟨rfl,x8,x9,rfl⟩;rw[hA1,lk,hA5 (hAa _)];have nx:=ei.next hi;have wd:=qTr hpx ei hi ht kw;have fd3:=Y1 _ _ fd;have lF:Fd.length<=12:=by have:=ei.len;omega
   revert nx wd;generalize el Kp (vF net ps i,2^i)=ev;intro nx wd;refine⟨_,rfl,rfl,_,rfl,?_⟩;refine qBy (λc2=>?_) (λc2=>?_)
   ·have z:ev.1=0:=by
     have:((ev.1:Nat):Int)=0:=by simpa using c2
     omega
    rw[hEn z]at nx wd;refine⟨_,rfl,.inl ⟨rfl,_,SqL.of fd3⟩,_,rfl,fo,_,_,rfl,rfl,fd3,by rw[hA1];exact qAf (by omega),?_⟩;refine⟨Kp,Fd++[ev.2],_,_,_,_,_,_,rfl,(e2.trans Y1).over (Xk.none fo1) _,⟨ks,by rw[qAk kefo];exact hks,Paired.mapP pks λa u z=>?_⟩,?_,nx,wd⟩
    ·have ne:a≠fo:=λw=>by
      rw[w]at z;have f3:upd H2 T (.tup [V.int (i:Nat),V.ref as[i]]) fo=some (.lst (Fd.map iV)):=fd3;rw[f3]at z;cases z
     rw[qAk ne];exact z
    ·unfold LsN;rw[upd_same,hA3];rfl
   ·have z:¬ev.1=0:=λw=>c2 (by rw[w];rfl)
    rw[hEm z]at nx wd;refine⟨_,rfl,.inl ⟨rfl,_,SqL.of hks⟩,_,rfl,_,rfl,(by show 2<=sizeLine;decide),λT2 hT2=>?_⟩;have Y2:=Ext.new hT2 (.tup [iV ev.1,iV ev.2]);refine⟨ke,_,_,rfl,rfl,Y2 _ _ hks,by rw[hA1];exact qAf (by omega),?_⟩;refine⟨Kp++[ev],Fd,_,_,_,_,_,_,rfl,((e2.trans Y1).trans Y2).over ke1 _,⟨ks++[T2],by rw[upd_same,hA3];rfl,Paired.snoc (Paired.mapP pks λa u z=>?_) ?_⟩,?_,nx,wd⟩
    ·have z':=Y2 _ _ z;have ne:a≠ke:=λw=>by rw[w,Y2 _ _ hks]at z';cases z'
     rw[qAk ne];exact z'
    ·have ne:T2≠ke:=λw=>by rw[w,hks]at hT2;cases hT2
     rw[qAk ne,upd_same]
    ·unfold LsN;rw[qAk (Ne.symm kefo)];exact Y2 _ _ fd3
 ·rintro σ H2 ⟨Kp,Fd,x4,x5,x6,x7,x8,x9,rfl,e2,kp,fd,ei,kw⟩;rw[hA5 (hAa _)]at kw;exact⟨_,rfl,q fo Fd Kp ps _ (E1.trans e2) fo0 fd pok ei kw⟩
end
noncomputable abbrev nmS(net:List Tr):List Str:=net.map λt=>t.1
theorem qPu:∀ {l:List α},(∀i∈l,f i=g i)->l.filterMap f=l.filterMap g
 |[],_=>rfl
 |a :: l,h=>by rw[hBr,hBr,h a hA6,qPu λi hi=>h i (hA4 _ hi)]
theorem zB5(hF:∀x∈F,x<2^m)(z:Nat):Spn (F.map (rv m)) z↔z<2^m/\Spn F (rv m z):=by
 constructor
 ·intro h;refine⟨Spn.lt (λx hx=>?_) h,?_⟩
  ·obtain⟨y,_,rfl⟩:=hAb.mp hx;exact qIw m y
  ·induction h with
   |zero=>rw[qGf];exact .zero
   |add hm _ ih =>
    obtain⟨y,hy,rfl⟩:=hAb.mp hm;rw[qOq,qIv (hF y hy)];exact .add hy ih
 ·rintro⟨hz,h⟩;rw[<-qIv hz];generalize rv m z=y at h
  induction h with
  |zero=>rw[qGf];exact .zero
  |add hm _ ih=>rw[qOq];exact .add (hB3 hm) ih
theorem qSd(x:Nat):rowM aA (rv aA.length x)=rowL aA x:=by
 unfold rowM rowL;have:∀i∈List.range aA.length,(if (rv aA.length x).testBit (aA.length-1-i)=true then aA[i]? else none)=(if x.testBit i=true then aA[i]? else none):=λi hi=>by
  have hi':=hAy.mp hi;rw[qCq,hEi (by omega),hCv,show aA.length-1-(aA.length-1-i)=i by omega]
 exact qPu this
theorem qH3(nz:z≠0)(lt:z<2^aA.length):∃n rest,rowM aA z=n :: rest/\aA[aA.length-1-z.log2]?=some n:=by
 have l:z.log2<aA.length:=(hEg nz).mpr lt;have hi:aA.length-1-z.log2<aA.length:=by omega
 have sp:List.range aA.length=List.range (aA.length-1-z.log2)++((aA.length-1-z.log2) :: (List.range z.log2).map λk=>aA.length-1-z.log2+1+k):=by
  have e:aA.length=(aA.length-1-z.log2)+(1+z.log2):=by omega
  conv=>lhs;rw[e]
  rw[List.range_add];congr 1;rw[Nat.add_comm 1 z.log2,hE5,hBj,hB6];congr 1;refine hBs λk _=>?_
  show _+(k+1)=_;omega
 refine⟨aA[aA.length-1-z.log2],((List.range z.log2).map λk=>aA.length-1-z.log2+1+k).filterMap λi=>if z.testBit (aA.length-1-i)=true then aA[i]? else none,?_,hA2 hi⟩;unfold rowM;rw[sp,hD5,hBr];have z1:(List.range (aA.length-1-z.log2)).filterMap (λi=>if z.testBit (aA.length-1-i)=true then aA[i]? else none)=[]:=by
  rw[List.filterMap_eq_nil_iff];intro i hi';have:=hAy.mp hi';rw[qU3 (by omega)];rfl
 rw[z1,show aA.length-1-(aA.length-1-z.log2)=z.log2 by omega,hBt nz,hEn rfl,hA2 hi];rfl
theorem qOu{l:List Str}(h:qEp l){i j:Nat}{a b:Str}(hij:i<j)(ha:l[i]?=some a)(hb:l[j]?=some b):qQn a b=true:=by
 obtain⟨hi,rfl⟩:=hAm.mp ha;obtain⟨hj,rfl⟩:=hAm.mp hb;exact(hD3.mp h) i j hi hj hij
theorem qVv{aA:List Str}(rn:qEp aA){M:List Nat}(rr:RR M)(lt:∀z∈M,z<2^aA.length)(d:M.Pairwise λa b=>b<=a):Srt (M.map (rowM aA)):=by
 rw[Srt,hBb];have nd:=rr.nd;refine hBp (λ{a b} ha hb r=>?_) (List.Pairwise.and d nd);obtain⟨le,ne⟩:=r;obtain⟨n1,r1,e1,g1⟩:=qH3 (rr.nz a ha) (lt a ha);obtain⟨n2,r2,e2,g2⟩:=qH3 (rr.nz b hb) (lt b hb);have ll:b.log2<a.log2:=by
  have l1:b.log2<=a.log2:=by
   rcases Nat.lt_or_ge a.log2 b.log2 with q|q
   ·have h1:a<2^b.log2:=hAn hDl (hBf (by decide) q);have h2:=Nat.log2_self_le (rr.nz b hb);omega
   ·exact q
  rcases Nat.lt_or_ge b.log2 a.log2 with q|q
  ·exact q
  ·have e:a.log2=b.log2:=by omega
   have h1:=rr.ne ha hb ne;rw[<-e,rr.self ha]at h1;cases h1
 have la:a.log2<aA.length:=(hEg (rr.nz a ha)).mpr (lt a ha);have s:=qOu rn (by omega) g1 g2;rw[e1,e2];unfold ltL;have n12:¬n2=n1:=λz=>by rw[z,qCc]at s;cases s
 rw[hEm n12];cases q:qQn n2 n1 with
 |false=>rfl
 |true=>have:=qC2 s q;rw[qCc]at this;cases this
structure Made(net:List Tr)(ps ps':List Str)(S M:List Nat)(K:List (Nat×Nat))(F:List Nat):Prop where
 rs:qEp (nmS net)
 pk:qQ0 net ps
 pk':qQ0 net ps'
 pS:S.Perm (red (ps.map λx=>qB6 (nmS net) (zFd net x)))
 pM:M.Perm (red (zDs S net.length))
 dM:M.Pairwise λa b=>b<=a
 ei:EIv (vF net ps') net.length net.length K F
 kw:K.length=(qFf net).length
theorem qC5(h:qEp l):l.Nodup:=hEb (λ{a b} z e=>by rw[e,qCc]at z;cases z) h
theorem zDk{α:Type}{p:α->Bool}{l:List α}{i:Nat}{t:α}(h:l[i]?=some t)(c:p t=true):(l.take (i+1)).filter p=(l.take i).filter p++[t]:=by rw[qAl h,hCe];simp[c]
theorem zDl{α:Type}{p:α->Bool}{l:List α}{i:Nat}{t:α}(h:l[i]?=some t)(c:p t=false):(l.take (i+1)).filter p=(l.take i).filter p:=by rw[qAl h,hCe];simp[c]
theorem qL5:∀a b:List (List Str),PyData.eqvAll (a.map qE0) (b.map qE0)=decide (a=b)
 |[],[]=>rfl
 |[],_ :: _=>rfl
 |_ :: _,[]=>rfl
 |x :: a,y :: b=>by
  show(PyData.eqv (qE0 x) (qE0 y) && PyData.eqvAll (a.map qE0) (b.map qE0))=_;rw[qL5 a b,qFa];by_cases e:x=y
  ·subst e;simp
  ·simp[e]
theorem qHo(a b:List (List Str)):PyData.eqv (qCu a) (qCu b)=decide (a=b):=qL5 a b
theorem qFx:∀ {F:List (List Str)},(∀r∈F,SOk r)->PyData.canLayAll0 (F.map qE0)=true/\PyData.depthAll (F.map qE0)<=1
 |[],_=>⟨rfl,by decide⟩
 |x :: r,h=>by
  obtain⟨h1,h2⟩:=qFx (F:=r) λy hy=>h y (hA4 _ hy)
  obtain⟨h3,h4⟩:=qFw (h x hA6);refine⟨?_,?_⟩
  ·show(PyData.canLayAll0 (x.map .str) && PyData.canLayAll0 (r.map qE0))=true;rw[h1,h3];rfl
  ·show max (PyData.depthAll (x.map .str)+1) (PyData.depthAll (r.map qE0))<=1;rw[h4];omega
theorem qHy(h:∀r∈F,SOk r):SeqAt.shaped (qCu F)=true:=by
 obtain⟨h3,h4⟩:=qFx h;show(PyData.canLayAll0 (F.map qE0) && decide (PyData.depthAll (F.map qE0)+1<=64))=true;rw[h3,hEi (by omega)];rfl
theorem qP3:∀ {as:List Addr} {F:List (List Str)},Paired (LsS H) as F->DRs K H (as.map V.ref) (F.map qE0)
 |_,_,.nil=>.nil
 |_,_,.cons h t=>.cons (qD1 h) (qP3 t)
theorem qFb(h:qJo H p F):DR K H (.ref p) (qCu F):=by
 obtain⟨as,h1,h2⟩:=h;exact .lst (SqL.of h1) (qP3 h2)
noncomputable def zDy(aA:List Str)(rows:List (List Str)):PyData:=.tuple [qE0 aA,qCu rows]
theorem qTs(aA:List Str)(rows:List (List Str)):PyData.eqv (zDy aA rows) (zDy aA rows)=true:=by
 show(PyData.eqv (qE0 aA) (qE0 aA) && (PyData.eqv (qCu rows) (qCu rows) && true))=true;rw[qFa,qHo,hEi rfl,hEi rfl];rfl
theorem qQm(h1:SOk aA)(h2:∀r∈rows,SOk r):SeqAt.shaped (zDy aA rows)=true:=by
 obtain⟨a1,a2⟩:=qFw h1;obtain⟨b1,b2⟩:=qFx h2;show((PyData.canLayAll0 (aA.map .str) && (PyData.canLayAll0 (rows.map qE0) && true)) && decide (max (PyData.depthAll (aA.map .str)+1) (max (PyData.depthAll (rows.map qE0)+1) 0)+1<=64))=true;rw[a1,b1,a2,hEi (by omega)];rfl
theorem qP2(h:qIt H T aA rows):DR K H (.ref T) (zDy aA rows):=by
 obtain⟨a,b,h1,h2,h3⟩:=h;exact .tup (SqT.of h1) (.cons (qD1 h2) (.cons (qFb h3) .nil))
theorem qCf:n∈rowM aA z↔∃i,i<aA.length/\aA[i]?=some n/\z.testBit (aA.length-1-i)=true:=by
 unfold rowM;rw[hD6];constructor
 ·rintro⟨i,hi,e⟩;split at e
  ·rename_i b;exact⟨i,hAy.mp hi,e,b⟩
  ·cases e
 ·rintro⟨i,hi,e,b⟩;exact⟨i,hAy.mpr hi,by rw[hEn b];exact e⟩
theorem qHd(h:n∈rowM aA z):n∈aA:=by
 obtain⟨i,_,e,_⟩:=qCf.mp h;exact hAh e
theorem qKp{aA:List Str}(nd:aA.Nodup){i j:Nat}{n:Str}(hi:aA[i]?=some n)(hj:aA[j]?=some n):i=j :=
 (List.getElem?_inj (hAm.mp hi).1 nd).mp (hi.trans hj.symm)
noncomputable abbrev chi(aA:List Str)(z:Nat):Str->Bool:=λn=>decide (n∈rowM aA z)
theorem zDv{aA:List Str}(nd:aA.Nodup){z i:Nat}{n:Str}(hi:aA[i]?=some n):chi aA z n=z.testBit (aA.length-1-i):=by
 have il:=(hAm.mp hi).1;cases q:z.testBit (aA.length-1-i) with
 |true=>exact hEi (qCf.mpr ⟨i,il,hi,q⟩)
 |false =>
  refine hEj λm=>?_
  obtain⟨j,_,ej,bj⟩:=qCf.mp m;rw[qKp nd ej hi,q]at bj;cases bj
theorem qFt(nd:aA.Nodup)(hz:z<2^aA.length):qB6 aA (rowM aA z)=z:=by
 refine hAl λj=>?_
 rw[qIf];by_cases hj:j<aA.length
 ·rw[hEi hj,hCv];have hi:aA.length-1-j<aA.length:=by omega
  have e:=hA2 hi;have c:=zDv nd (z:=z) e;rw[show aA.length-1-(aA.length-1-j)=j by omega]at c;rw[<-c];refine decide_eq_decide.mpr ⟨λ⟨n,h1,h2⟩=>?_,λh=>⟨_,e,h⟩⟩;rw[e]at h1;cases h1;exact h2
 ·rw[hEj hj,qDs hz (by omega)];rfl
structure Tb(net:List Tr)(ps:List Str)(S M:List Nat):Prop where
 rs:qEp (nmS net)
 pk:qQ0 net ps
 pS:S.Perm (red (ps.map λx=>qB6 (nmS net) (zFd net x)))
 pM:M.Perm (red (zDs S net.length))
 dM:M.Pairwise λa b=>b<=a
theorem qL7:∀ {a b:List Nat},a.Pairwise (λx y=>y<=x)->b.Pairwise (λx y=>y<=x)->a.Perm b->a=b
 |[],b,_,_,p=>(List.nil_perm.mp p).symm▸rfl
 |x :: a,[],_,_,p=>by have:=p.length_eq;simp at this
 |x :: a,y :: b,ha,hb,p=>by
  obtain⟨a1,a2⟩:=hAr.mp ha;obtain⟨b1,b2⟩:=hAr.mp hb;have e:x=y:=by
   rcases hAg.mp (p.mem_iff.mp hA6) with z|z
   ·exact z
   ·rcases hAg.mp (p.mem_iff.mpr hA6) with w'|w'
    ·exact w'.symm
    ·have h1:=b1 x z;have h2:=a1 y w';omega
  subst e;rw[qL7 a2 b2 ((List.perm_cons _).mp p)]
section
variable{P:Program}{w:World}{K:PySem.W.Frag}{mg:Str->Option Value}{base:Heap}{f f1 f2 f3 f4 f5:Addr}{fd fd1 fd2 fd3 fd4 fd5:FuncData}
theorem qBd(pr:Nat->Bool)(h:Nat->Nat)(hp:LsN H1 p ms)(ln:ms.length<=5000)
  (hs:∀z∈ms,∀(C:V->Hp->Prop) (B:Hp->Prop),(pr z=true->C (iV (h z)) H1)->(pr z=false->B H1)->g (iV z) σ0 H1 λσ2 H2=>Sle σ0 σ2/\tt σ2 H2 λb H3=>if b=true then te σ2 H3 C else B H3)
  (hd:Q (((ms.filter pr).map h).map iV) H1):qEf (Itl K p) σ0 g tt te Q H1:=by
 refine qAq (xs:=ms.map iV) (λj ys H2=>H2=H1/\ys=(((ms.take j).filter pr).map h).map iV) ⟨rfl,rfl⟩ (λj ys H2 _ h=>by rw[h.1];exact SqL.of hp) ?_ ?_
 ·rintro j x ys H2 hx ⟨rfl,rfl⟩;obtain⟨z,rfl,hz⟩:=qCj hx;have hj:=qAu hz;have sz:=hAs pr (ms.take j);rw[hAk]at sz;refine hs z (hAh hz) _ _ (λb=>⟨?_,nxt (qAu hx) ⟨rfl,?_⟩⟩) (λb=>nxt (qAu hx) ⟨rfl,?_⟩)
  ·rw[hA1,hA1];exact qDl (by omega)
  ·rw[qAl hz,hCe,hA3,hA3];simp[b]
  ·rw[qAl hz,hCe];simp[b]
 ·rintro ys H2 ⟨rfl,rfl⟩;rw[hA1,hA5 (hAa _)];exact hd
end
end My
namespace L2
open PySem PySem.Spec PyProof.Rows
section
variable{σ0:St}{g:TG}{tt:TT}{te:TE}{Q:List V->Hp->Prop}{H1:Hp}
theorem qMp{K:PySem.W.Frag}{a:Addr}{xs:List V}(Pv:Nat->List V->Hp->Prop)(h0:Pv 0 [] H1)(hl:∀i ys H,i<=xs.length->Pv i ys H->SqT K H a xs)
  (hs:∀i x ys H,xs[i]?=some x->Pv i ys H->g x σ0 H λσ2 H2=>Sle σ0 σ2/\tt σ2 H2 λb H3=>if b=true then te σ2 H3 (λv H4=>ys.length<sizeLine/\Nxt xs.length i Pv (ys++[v]) H4) else Nxt xs.length i Pv ys H3)
  (hd:∀ys H,Pv xs.length ys H->Q ys H):qEf (Itt K a) σ0 g tt te Q H1:=by
 refine⟨λi m ys H=>m=xs.length-i/\i<=xs.length/\Pv i ys H,⟨xs.length,by simp,hAp _,h0⟩,?_⟩;rintro i m ys H ⟨rfl,hi,p⟩;have q:=hl i ys H hi p;by_cases hlt:i<xs.length
 ·refine .inr ⟨⟨xs,xs[i],q,by simp[hlt]⟩,λx H' y=>?_⟩;obtain⟨e,y⟩:=y;subst e;exact hs i x ys _ (y xs q) p
 ·have e:i=xs.length:=by omega
  subst e;exact .inl ⟨⟨xs,q,hAa _⟩,hd ys H p⟩
end
end L2
namespace My
open PySem L2
theorem qNz(ms:List Nat):∃m,∀x∈ms,x<2^m:=by
 induction ms with
 |nil=>exact⟨0,λx h=>(by cases h)⟩
 |cons a l ih =>
  obtain⟨m,h⟩:=ih;refine⟨m+a,λx hx=>?_⟩;rcases hAg.mp hx with z|z
  ·rw[z];exact hAn Nat.lt_two_pow_self (hBf (by decide) (by omega))
  ·exact hAn (h x z) (hBf (by decide) (by omega))
noncomputable def maskL(aA row:List Str):Nat:=(row.map λn=>2^ixF aA n).sum
theorem qYh(nd:aA.Nodup)(h:aA[i]?=some n):ixF aA n=i:=qKp nd (qEx (hAh h)).1 h
theorem qBz:n∈rowL aA z↔∃i,i<aA.length/\aA[i]?=some n/\z.testBit i=true:=by
 unfold rowL;rw[hD6];constructor
 ·rintro⟨i,hi,e⟩;split at e
  ·rename_i b;exact⟨i,hAy.mp hi,e,b⟩
  ·cases e
 ·rintro⟨i,hi,e,b⟩;exact⟨i,hAy.mpr hi,by rw[hEn b];exact e⟩
theorem qM9(nd:aA.Nodup)(x:Nat):(rowL aA x).Nodup:=by
 rw[<-qSd];have:(rowM aA (rv aA.length x)).Nodup:=by
  unfold rowM;have h:∀l:List Nat,l.Nodup->(l.filterMap λi=>if (rv aA.length x).testBit (aA.length-1-i)=true then aA[i]? else none).Nodup:=λl=>by
   induction l with
   |nil=>intro _;exact List.nodup_nil
   |cons a l ih =>
    intro hn;obtain⟨h1,h2⟩:=hBe.mp hn;rw[hBr];split
    ·exact ih h2
    ·rename_i b e;refine hBe.mpr ⟨λm=>?_,ih h2⟩;obtain⟨c,hc,ec⟩:=hD6.mp m;split at e
     ·split at ec
      ·have:=qKp nd e ec;subst this;exact h1 hc
      ·cases ec
     ·cases e
  exact h _ hEf
 exact this
theorem qIe(nd:aA.Nodup)(rn:row.Nodup)(sub:∀n∈row,n∈aA)(j:Nat):(maskL aA row).testBit j=decide (∃n∈row,ixF aA n=j):=by
 unfold maskL;have e:(row.map λn=>2^ixF aA n)=(row.map (ixF aA)).map λl=>2^l:=by rw[hB6];rfl
 have nd2:(row.map (ixF aA)).Nodup:=by
  rw[List.Nodup,hBb];refine hBp (λ{a b} ha hb ne q=>ne ?_) rn;have h1:=(qEx (sub a ha)).1;have h2:=(qEx (sub b hb)).1;rw[q,h2]at h1;exact(hAq h1).symm
 rw[e,qJs _ nd2];refine decide_eq_decide.mpr ?_;rw[hAb]
theorem qHh(nd:aA.Nodup)(rn:row.Nodup)(sub:∀n∈row,n∈aA):maskL aA row<2^aA.length/\rv aA.length (maskL aA row)=qB6 aA row:=by
 refine⟨hBx _ λi hi=>?_,hAl λj=>?_⟩
 ·rw[qIe nd rn sub];refine hEj ?_;rintro⟨n,hn,e⟩;have:=(qEx (sub n hn)).2.2;omega
 ·rw[qCq,qIf,qIe nd rn sub];by_cases hj:j<aA.length
  ·rw[hEi hj,hCv,hCv];refine decide_eq_decide.mpr ⟨λ⟨n,hn,e⟩=>⟨n,by rw[<-e];exact(qEx (sub n hn)).1,hn⟩,λ⟨n,h1,h2⟩=>⟨n,h2,qYh nd h1⟩⟩
  ·rw[hEj hj];rfl
theorem qDk(hF:∀x∈F,x<2^m)(hz:z<2^m):Spn (F.map (rv m)) (rv m z)↔Spn F z:=by
 rw[zB5 hF,qIv hz];exact⟨λh=>h.2,λh=>⟨qIw _ _,h⟩⟩
structure TabOk(aA:List Str)(rows:List (List Str)):Prop where
 rn:qEp aA
 ok:SOk aA
 ln:aA.length<=12
 lr:rows.length<=16
 rw:∀r∈rows,∃x,r=rowL aA x
section
variable{aA:List Str}{rows:List (List Str)}
theorem TabOk.masks(h:TabOk aA rows):(∀x∈rows.map (maskL aA),x<2^aA.length)/\(rows.map (maskL aA)).map (rv aA.length)=rows.map (qB6 aA):=by
 have nd:=qC5 h.rn;refine⟨λx hx=>?_,?_⟩
 ·obtain⟨r,hr,rfl⟩:=hAb.mp hx;obtain⟨x,rfl⟩:=h.rw r hr;exact(qHh nd (qM9 nd x) λn hn=>by obtain⟨i,_,e,_⟩:=qBz.mp hn;exact hAh e).1
 ·rw[hB6];refine hBs λr hr=>?_
  obtain⟨x,rfl⟩:=h.rw r hr;exact(qHh nd (qM9 nd x) λn hn=>by obtain⟨i,_,e,_⟩:=qBz.mp hn;exact hAh e).2
end
end My
namespace L2
open PySem PySem.Spec PyProof.Rows
end L2
namespace My
open PySem L2
theorem qUi(a b:Nat):Builtin.bitOr (a:Int) (b:Int)=((a ||| b:Nat):Int):=by
 have x:∀x:Int,Builtin.bitNot (Builtin.bitNot x)=x:=λx=>by unfold Builtin.bitNot;omega
 unfold Builtin.bitOr;have na:¬(0:Int)<=Builtin.bitNot (a:Int):=by unfold Builtin.bitNot;omega
 have nb:¬(0:Int)<=Builtin.bitNot (b:Int):=by unfold Builtin.bitNot;omega
 have o:Builtin.bitAnd (Builtin.bitNot (a:Int)) (Builtin.bitNot (b:Int))=Builtin.bitNot ((a ||| b:Nat):Int):=by
  unfold Builtin.bitAnd;rw[hEj na,hEj nb];show Builtin.bitNot _=_;rw[x,x];simp
 rw[o,x]
theorem qVd(z k:Nat):(z:Int)*2^((k:Int)).toNat=((z <<< k:Nat):Int):=by
 rw[hB8,Nat.shiftLeft_eq,Int.natCast_mul,Int.natCast_pow];rfl
theorem qX9(m:Nat):(0:Int)<1*2^((m:Int)).toNat:=by
 rw[qBr];have:0<2^m:=Nat.pow_pos (by decide);omega
theorem zCu(a:Int)(m:Nat):∃x:Nat,a % (1*2^((m:Int)).toNat)=(x:Int):=by
 have:=qX9 m;exact⟨(a % (1*2^((m:Int)).toNat)).toNat,(hDh (hBi _ (by omega))).symm⟩
theorem qT4(xs:List V)(p:Nat):qW2 xs none (some (p:Int))=xs.take p:=by
 unfold qW2;rw[HT.sIx_nat,HT.sIx_none,List.drop_zero,Nat.sub_zero];rcases Nat.le_total p xs.length with h|h
 ·rw[Nat.min_eq_left h]
 ·rw[Nat.min_eq_right h,hA5 (hAa _),hA5 h]
def qRu:Sp:=λvs H Q _=>∃(pn pr:Addr) (aA row:List Str),vs=[.ref pn,.ref pr]/\LsS H pn aA/\LsS H pr row/\(∀n∈row,n∈aA)/\aA.length<=12/\row.length<=12/\∀H',Ext H H'->Q (iV (maskL aA row)) H'
def qXo:Sp:=λvs H Q _=>∃(b:Int) (m:Nat),vs=[.int b,iV m]/\m<=12/\∀(r:Addr) (ns:List Nat) (H':Hp),Ext H H'->H r=none->LsN H' r ns->ns.length<=9->Q (.ref r) H'
def zFw(K:PySem.W.Frag):List V->Hp->VK->Prop:=λxs H Q=>∃p ys,xs=[.ref p]/\(SqL K H p ys\/SqT K H p ys)/\∀l,H l=none->Q (.ref l) (upd H l (.lst ys))
section
variable{P:Program}{w:World}{K:PySem.W.Frag}{mg:Str->Option Value}{base:Heap}{f f1 f2 f3 f4 f5:Addr}{fd fd1 fd2 fd3 fd4 fd5:FuncData}
theorem zCe:FnScope ["_law_names_here","_law_row_here"] ["_law_names_here","_law_row_here"] (qAc qVq):=fsk
theorem zAh(F:Fun K "_law_mask" "_law_mask" qVq f fd)(msu:mg "sum"=none):v8 1 f fd ["_law_names_here","_law_row_here"] qRu:=by
 refine F.okA zCe λcdv A outer s H vs Q E hr h=>?_
 obtain⟨pn,pr,aA,row,rfl,hn,hw,sub,ln,lw,q⟩:=h;refine⟨_,qAd (qAt (qAh (qC6 rfl) rfl msu qC8 (pa1 (qG7 (N:=["_law_names_here","_law_row_here"]) (sc:=qAc qVq) (N':=["_law_name","_law_names_here"]) (sub:=[none,some 0]) rfl rfl (CmpOk.of (by decide +kernel)) rfl (qAp (pv 1))
   (λC s H fp=>⟨qAm (i:=0) (by show(["_law_name","_law_names_here"]:List Str).Nodup;decide) rfl (Or.inl rfl),qAw,qAg qCe qAb (show PE _ _ (tBM K _ (qX2 K) _ _) from qDu hAx hDx hDy qKk (pv 1) (pa1 (pv 0)))⟩))))),?_⟩
 refine⟨_,rfl,pr,rfl,⟨_,SqL.of hw⟩,?_⟩;refine qAq (xs:=row.map V.str) (λj ys H2=>H2=H/\ys=((row.take j).map λn=>2^ixF aA n).map iV) ⟨rfl,rfl⟩ (λj ys H2 _ h=>by rw[h.1];exact SqL.of hw) ?_ ?_
 ·rintro j v ys H2 hx ⟨rfl,rfl⟩;obtain⟨n,rfl,hn'⟩:=qRj hx;have hj:=qAu hn';obtain⟨a1,a2,a3⟩:=qEx (sub n (hAh hn'));refine⟨sls,iteT (B:=False) ⟨_,rfl,.inl ⟨rfl,_,SqL.of hn⟩,_,rfl,pn,aA,n,ixF aA n,rfl,rfl,hn,a1,a2,by omega,_,_,rfl,rfl,⟨by omega,by omega,by decide⟩,?_⟩⟩;refine⟨by rw[hA1,hA1,hAk];exact qAf (by omega),nxt (qAu hx) ⟨rfl,?_⟩⟩;rw[qAl hn',hA3,hA3];show _++[V.int (1*2^(((ixF aA n:Nat):Int)).toNat)]=_;rw[qBr];rfl
 ·rintro ys H2 ⟨rfl,rfl⟩ l hl;rw[hA1,hA5 (hAa _)];refine⟨l,(row.map λn=>2^ixF aA n).map (λn:Nat=>(n:Int)),rfl,SqL.of (by rw[upd_same,qCg]),?_⟩;rw[qDb];exact q _ (Ext.new hl _)
noncomputable abbrev frN:List Str:=["_law_big_here","_law_many","_law_found","_law_k"]
theorem qOl:FnScope frN ["_law_big_here","_law_many"] (qAc qZk):=fsk
theorem zAl(F:Fun K "_law_free" "_law_free" qZk f fd)(mr:mg "range"=none):v8 1 f fd ["_law_big_here","_law_many"] qXo:=by
 refine F.okA qOl λcdv A outer s H vs Q E hr h=>?_
 obtain⟨b,m,rfl,m12,q⟩:=h;refine⟨_,qAa (v4 2 qOl (qA2 qAz))
  (qAa (qBf PassesOwn.never rfl (qBg rfl mr (pa1 (qAg qA9 (pv 0) qAb))) (v5 3 qOl)
   (qAa (qCd (qDu hAx hBn hBo qBw (pv 2) (pa1 (qAg qA9 (qAg qA4 (pv 0) qAb) (qAg qCe qAb (pv 1))))))
   (qAd (v4 0 qOl (qAg qG1 (qAg qA4 (pv 0) qAb) (pv 1))))))
  (qAd (qAt (pv 2)))),?_⟩
 refine⟨hAp _,λfo fo0=>?_⟩;have h1:=hBi b (show(10:Int)≠0 by decide);have h2:=hB9 b (show(0:Int)<10 by decide);refine⟨_,rfl,_,_,rfl,rfl,(by show(0:Int)<_;decide),b % 10,rfl,by omega,by omega,?_⟩;refine qB5 (lo:=0) (n:=(b % 10).toNat) (λi σ H'=>∃(b':Int) (x3:Option V) (ns:List Nat),σ=[some (.int b'),some (iV m),some (.ref fo),x3]/\Ext H H'/\LsN H' fo ns/\ns.length<=i) ⟨b,none,[],rfl,Ext.new fo0 _,upd_same,hAa _⟩ ?_ ?_
 ·rintro i σ H' hi ⟨b',x3,ns,rfl,e,hf,ln⟩;obtain⟨x,hx⟩:=zCu (b' / 10) m;refine⟨_,rfl,.inl ⟨rfl,_,SqL.of hf⟩,_,rfl,_,_,rfl,rfl,⟨by decide,by decide⟩,_,rfl,_,_,rfl,rfl,⟨by omega,by omega,by decide⟩,_,_,rfl,rfl,qX9 m,fo,_,_,rfl,rfl,hf,by rw[hA1];exact qAf (by omega),?_⟩;refine⟨_,rfl,_,_,rfl,rfl,⟨by decide,by decide⟩,_,rfl,_,_,rfl,rfl,(by show(0:Int)<=_;omega),?_⟩;refine⟨_,_,ns++[x],rfl,e.over fo0 _,?_,by rw[hAc];exact hC9 ln⟩;unfold LsN;rw[upd_same,hA3];show some (HO.lst (_++[V.int (b' / 10 % (1*2^((m:Int)).toNat))]))=_;rw[hx];rfl
 ·rintro σ H' ⟨b',x3,ns,rfl,e,hf,ln⟩;exact⟨_,rfl,q fo ns _ e fo0 hf (by omega)⟩
end
def qXq:Sp:=λvs H Q _=>∃(p:Addr) (ms:List Nat) (m:Nat),vs=[.ref p,iV m]/\LsN H p ms/\ms.length<=24/\m<=12/\∀(r:Addr) (ns:List Nat) (H':Hp),Ext H H'->H r=none->LsN H' r ns->ns.length<=12->Q (.ref r) H'
def qXl:Sp:=λvs H Q _=>∃k:Int,vs=[.int k]/\0<=k/\k<4/\∀(T b:Addr) (m:Nat) (ns:List Nat) (H':Hp),Ext H H'->H' T=some (.tup [iV m,.ref b])->LsN H' b ns->ns.length<=12->0<m->m<=36->Q (.ref T) H'
def qXm:Sp:=λvs H Q _=>∃(p:Addr) (ms:List Nat) (m M:Nat) (b:Int),vs=[.ref p,iV m,.int b,iV M]/\LsN H p ms/\ms.length<=12/\0<m/\M<=12/\∀(r:Addr) (ns:List Nat) (H':Hp),Ext H H'->LsN H' r ns->ns.length<=24->Q (.ref r) H'
section
variable{P:Program}{w:World}{K:PySem.W.Frag}{mg:Str->Option Value}{base:Heap}{f f1 f2 f3 f4 f5:Addr}{fd fd1 fd2 fd3 fd4 fd5:FuncData}
noncomputable abbrev coN:List Str:=["_law_numbers","_law_many","_law_rows","_law_fronts","_law_found","_law_place"]
theorem qK7:FnScope coN ["_law_numbers","_law_many"] (qAc qR6):=fsk
theorem zAo(F:Fun K "_law_crossing" "_law_crossing" qR6 f fd)(G:v9 1 f1 fd1 ["_law_numbers"] qI4 "_law_reduced")(msu:mg "sum"=none)(mr:mg "range"=none):v8 2 f fd ["_law_numbers","_law_many"] qXq:=by
 refine F.okA qK7 λcdv A outer s H vs Q E hr h=>?_
 obtain⟨p,ms,m,rfl,hp,lm,m12,q⟩:=h;refine⟨_,qAa (v4 2 qK7 (qAv G hr rfl .nil pass0 (pa1 (pv 0))))
  (qAa (v4 3 qK7 (qAh (qC6 rfl) rfl msu qC8 (pa1 (qA7 (N:=coN) (sc:=qAc qR6) (N':=["_law_row_here"]) (sub:=[none]) (qAp (pv 2)) (λC s H fp=>⟨qAw,qAg qBu (pv 0) (qLg qHq (pv 0))⟩)))))
  (qAa (v4 4 qK7 (qA2 qAz))
  (qAa (qBf PassesOwn.never rfl (qBg rfl mr (pa1 (pv 1))) (v7 5 qK7)
   (qAd (qBj (qAn qB4 (qAg qBu (qAg qG1 (pv 3) (pv 5)) qAb) qAb (nomark _))
    (qAd (qCd (qDu hAx hBn hBo qBw (pv 4) (qAe
     (qAg qA8 (qAg qCe qAb (pv 5)) (qAh (qC6 rfl) rfl msu qC8 (pa1 (qA7 (N:=coN) (sc:=qAc qR6) (N':=["_law_row_here","_law_place"]) (sub:=[none,some 5]) (qAp (pv 2)) (λC s H fp=>⟨qBb (qAn qB4 (qAg qBu (qAg qG1 (pv 0) (pv 1)) qAb) qAb (nomark _)),qAg qBu (pv 0) (qLg qHq (pv 0))⟩))))) qAz))))
    qAx)))
  (qAd (qAt (pv 4)))))),?_⟩
 obtain⟨m0,lt0⟩:=qNz ms;refine⟨_,rfl,p,ms,m0,rfl,hp,by omega,lt0,λro H1 e1 ro0 hro=>?_⟩;obtain⟨gm,_⟩:=qE2 (m:=m0) ms lt0;have lR:=qE3 ms;refine⟨_,rfl,ro,rfl,⟨_,SqL.of hro⟩,?_⟩;refine qBd (λ_=>true) (λz=>2^lo z) hro (by omega) (λz hz C B c b=>⟨sls,?_⟩) ?_
 ·refine iteT (B:=B H1) ⟨_,rfl,_,rfl,_,rfl,_,_,rfl,rfl,?_⟩;have:=c rfl;rw[show iV (2^lo z)=V.int (Builtin.bitAnd (z:Int) (-(z:Int))) by rw[qNk (gm z hz).2]]at this;exact this
 intro l1 hl1;have n1:=e1.trans (Ext.new hl1 (.lst ((((redL ms).filter λ_=>true).map λz=>2^lo z).map iV)));refine⟨l1,(((redL ms).filter λ_=>true).map λz=>2^lo z).map (λn:Nat=>(n:Int)),rfl,SqL.of (by rw[upd_same,qCg]),?_⟩;rw[qDb];have hro1:=(Ext.new hl1 (.lst ((((redL ms).filter λ_=>true).map λz=>2^lo z).map iV))) _ _ hro;refine⟨hAp _,λfo fo1=>?_⟩;have fo0:=n1.none fo1;have n2:=n1.trans (Ext.new fo1 (.lst []));have hro2:=(Ext.new fo1 (.lst [])) _ _ hro1;revert n2 hro2;have hfo2:upd (upd H1 l1 (.lst ((((redL ms).filter λ_=>true).map λz=>2^lo z).map iV))) fo (.lst []) fo=some (.lst []):=upd_same;revert hfo2;generalize upd (upd H1 l1 (.lst ((((redL ms).filter λ_=>true).map λz=>2^lo z).map iV))) fo (.lst [])=H2;intro hfo2 n2 hro2;have rofo:ro≠fo:=qAo hro1 fo1;generalize (((redL ms).filter λ_=>true).map λz=>2^lo z).sum=fr;refine⟨_,rfl,(m:Int),rfl,by omega,by omega,?_⟩;refine qB5 (lo:=0) (n:=((m:Int)).toNat) (λi σ H'=>∃(x5:Option V) (ns:List Nat),σ=[some (.ref p),some (iV m),some (.ref ro),some (iV fr),some (.ref fo),x5]/\Ext H H'/\LsN H' ro (redL ms)/\LsN H' fo ns/\ns.length<=i) ⟨none,[],rfl,n2,hro2,hfo2,hAa _⟩ ?_ ?_
 ·rintro i σ H' hi ⟨x5,ns,rfl,e,hr',hf,ln⟩;have hi':i<m:=by omega
  refine⟨_,rfl,_,rfl,_,_,rfl,rfl,(by show(0:Int)<=_;omega),_,_,rfl,rfl,rfl,_,rfl,?_⟩;refine qBy (λc=>?_) (λc=>?_)
  ·refine⟨_,rfl,.inl ⟨rfl,_,SqL.of hf⟩,_,rfl,_,_,rfl,rfl,⟨by omega,by omega,by decide⟩,?_⟩;refine⟨_,rfl,ro,rfl,⟨_,SqL.of hr'⟩,?_⟩;refine qBd (λz=>z.testBit i) (λz=>2^lo z) hr' (by omega) (λz hz C B c2 b2=>⟨sls,?_⟩) ?_
   ·refine⟨_,rfl,_,rfl,_,_,rfl,rfl,(by show(0:Int)<=_;omega),_,_,rfl,rfl,rfl,_,rfl,?_⟩;have key:(decide (V.int (Builtin.bitAnd ((z:Int) / 2^(0+(i:Int)).toNat) 1)=V.int 1)=true)↔z.testBit i=true:=by
     rw[hEp,V.int.injEq,show(0+(i:Int))=((i:Nat):Int) by omega,hB8,qGd];by_cases b:z.testBit i=true
     ·simp[b]
     ·simp[b]
    refine qBy (λcc=>⟨_,rfl,_,rfl,_,rfl,_,_,rfl,rfl,?_⟩) (λcc=>b2 ?_)
    ·have:=c2 (key.mp cc);rw[show iV (2^lo z)=V.int (Builtin.bitAnd (z:Int) (-(z:Int))) by rw[qNk (gm z hz).2]]at this;exact this
    ·cases q2:z.testBit i with
     |false=>rfl
     |true=>exact absurd (key.mpr q2) cc
   ·intro l2 hl2;have n3:=Ext.new hl2 (.lst ((((redL ms).filter λz=>z.testBit i).map λz=>2^lo z).map iV));refine⟨l2,(((redL ms).filter λz=>z.testBit i).map λz=>2^lo z).map (λn:Nat=>(n:Int)),rfl,SqL.of (by rw[upd_same,qCg]),?_⟩;rw[qDb];refine⟨_,_,rfl,rfl,fo,_,_,rfl,rfl,n3 _ _ hf,by rw[hA1];exact qAf (by omega),?_⟩;have ev:(λi j:Int=>V.int (i+j)) (1*2^(0+(i:Int)).toNat) (((((redL ms).filter λz=>z.testBit i).map λz=>2^lo z).sum:Nat):Int)=iV (2^i+((((redL ms).filter λz=>z.testBit i).map λz=>2^lo z).sum)):=by
     show V.int (_+_)=V.int _;rw[show(0+(i:Int))=((i:Nat):Int) by omega,qBr,Int.natCast_add]
    rw[ev];refine⟨_,ns++[2^i+((((redL ms).filter λz=>z.testBit i).map λz=>2^lo z).sum)],rfl,(e.trans n3).over fo0 _,?_,?_,by rw[hAc];exact hC9 ln⟩
    ·unfold LsN;rw[qAk rofo];exact n3 _ _ hr'
    ·unfold LsN;rw[upd_same,hA3];rfl
  ·exact⟨_,ns,rfl,e,hr',hf,by omega⟩
 ·rintro σ H' ⟨x5,ns,rfl,e,hr',hf,ln⟩;exact⟨_,rfl,q fo ns _ e fo0 hf (by omega)⟩
noncomputable abbrev mrN:List Str:=["_law_base","_law_many","_law_big_here","_law_most","_law_way","_law_mate"]
theorem qGx:FnScope mrN ["_law_base","_law_many","_law_big_here","_law_most"] (qAc qVp):=fsk
noncomputable abbrev mrC:List Str:=["_law_step","_law_mate","_law_many"]
theorem zAg(F:Fun K "_law_with_more" "_law_with_more" qVp f fd)(ml:mg "len"=none):v8 1 f fd ["_law_base","_law_many","_law_big_here","_law_most"] qXm:=by
 refine F.okA qGx λcdv A outer s H vs Q E hr h=>?_
 obtain⟨p,ms,m,M,b,rfl,hp,lm,m0,M12,q⟩:=h;refine⟨_,qAa (qKd PassesOwn.never (qAn qFq (pv 1) (pv 3) (nomark _))
   (qAa (v4 4 qGx (qAg qA9 (pv 2) qAb))
   (qAa (v6 5 qGx (qAg qA9 (qAg qA4 (pv 2) qAb) (pv 1)))
   (qAa (v4 2 qGx (qAg qA4 (qAg qA4 (pv 2) qAb) (pv 1)))
   (qAa (qBj (PW.pt (qLd (qAn qB4 (pv 4) qAb (nomark _)) (qH7 (qAn qFq (qAh qAi rfl ml hAt (pa1 (pv 0))) qAb (nomark _)))))
     (qAd (v4 0 qGx (qAg qB9 (pv 0) (qA2 (pa1 (qAg qCe qAb (pv 1)))))))
     (qAd (qBj (PW.pt (qLd (qAn qB4 (pv 4) qAb (nomark _)) (qH7 (qAn qFq (qAh qAi rfl ml hAt (pa1 (pv 0))) qAb (nomark _)))))
      (qAd (v4 0 qGx (qAg qB9 (pv 0) (qA2 (pa1 (qAg zCv (qAg qCe qAb (pv 1)) (qAg qCe qAb (pv 5))))))))
      (qAd (qBj (qAn qB4 (pv 4) qAb (nomark _))
       (qAd (qV5 (i:=0) (N:=mrN) (sc:=qAc qVp) (N':=mrC) (sub:=[none,some 5,some 1]) rfl rfl (CmpOk.of (by decide +kernel)) rfl (qAp (pv 0))
        (λC s H fp=>⟨qAm (i:=0) (by show mrC.Nodup;decide) rfl (Or.inl rfl),qAw,qAg zCv (pv 0) (qAg qCe (qAg qBu (qAg qG1 (pv 0) (pv 1)) qAb) (pv 2))⟩) qGx.nd rfl (Or.inl rfl)))
       qAx)))))
   (qAd (qLe (i:=1) qGx.nd rfl (Or.inr rfl) qAb qPo)))))))
  (qAd (qAt (pv 0))),?_⟩
 refine⟨λk σ H'=>∃(p:Addr) (ms:List Nat) (m:Nat) (b:Int) (x4 x5:Option V),k=M-m/\σ=[some (.ref p),some (iV m),some (.int b),some (iV M),x4,x5]/\Ext H H'/\LsN H' p ms/\ms.length<=12/\0<m,⟨_,p,ms,m,b,none,none,rfl,rfl,Ext.refl _,hp,lm,m0⟩,?_⟩;clear hp lm m0;rintro k σ H' ⟨p,ms,m,b,x4,x5,rfl,rfl,e,hp,lm,m0⟩;refine⟨_,rfl,_,rfl,_,_,rfl,rfl,_,rfl,?_⟩;refine qBy (λc=>?_) (λc=>?_)
 ·have c':m<M:=by
   have:(m:Int)<(M:Int):=hEl c;omega
  refine⟨λσ' H'=>∃k',k'<M-m/\∃(p:Addr) (ms:List Nat) (m:Nat) (b:Int) (x4 x5:Option V),k'=M-m/\σ'=[some (.ref p),some (iV m),some (.int b),some (iV M),x4,x5]/\Ext H H'/\LsN H' p ms/\ms.length<=12/\0<m,λ_ _ h=>h,?_⟩;have mm0:(0:Int)<(m:Int):=by omega
  obtain⟨mt,hmt,mtl⟩:∃mt:Nat,b / 4 % (m:Int)=(mt:Int)/\mt<m:=by
   have h1:=hBi (b / 4) (show(m:Int)≠0 by omega);have h2:=hB9 (b / 4) mm0;exact⟨(b / 4 % (m:Int)).toNat,by omega,by omega⟩
  refine⟨_,rfl,_,_,rfl,rfl,(by show(0:Int)<_;decide),?_⟩;refine⟨_,rfl,_,_,rfl,rfl,⟨by decide,by decide⟩,_,rfl,_,_,rfl,rfl,mm0,?_⟩;refine⟨_,rfl,_,_,rfl,rfl,⟨by decide,by decide⟩,_,rfl,_,_,rfl,rfl,⟨mm0,by omega⟩,?_⟩;have mte:(λi j:Int=>V.int (i % j)) (b / 4) (m:Int)=iV mt:=by show V.int _=V.int _;rw[hmt]
  rw[mte];have fin:∀(p':Addr) (ns:List Nat) (b':Int) (x4' x5':Option V) (H2:Hp),Ext H H2->LsN H2 p' ns->ns.length<=12->∃k',k'<M-m/\∃(p:Addr) (ms:List Nat) (m2:Nat) (b:Int) (x4 x5:Option V),k'=M-m2/\[some (V.ref p'),some (V.int ((m:Int)+1)),some (.int b'),some (iV M),x4',x5']=[some (.ref p),some (iV m2),some (.int b),some (iV M),x4,x5]/\Ext H H2/\LsN H2 p ms/\ms.length<=12/\0<m2:=λp' ns b' x4' x5' H2 h1 h2 h3=>⟨M-(m+1),by omega,p',ns,m+1,b',x4',x5',rfl,rfl,h1,h2,h3,by omega⟩
  have nope:∀(k k':Int),k≠k'->decide (V.int (b % 4)=V.int k)=true->¬decide (V.int (b % 4)=V.int k')=true:=λk k' ne h1 h2=>by
   rw[hEp,V.int.injEq]at h1 h2;exact ne (h1.symm.trans h2)
  have bc:∀z:Nat,Builtin.bitAnd ((z:Int) / 2^((mt:Int)).toNat) 1=(((if z.testBit mt=true then 1 else 0:Nat):Nat):Int):=λz=>by
   rw[hB8,qGd];split <;> rfl
  refine⟨_,rfl,rfl,_,rfl,?_⟩;refine qBy (λc1=>?_) (λc1=>?_)
  ·refine⟨_,rfl,p,_,rfl,.inl (SqL.of hp),_,_,rfl,rfl,_,rfl,?_⟩;refine qBy (λc2=>?_) (λc2=>?_)
   ·have l8:ms.length<8:=by
     have:(((ms.map iV).length:Nat):Int)<8:=hEl c2;rw[hA1]at this;omega
    refine⟨_,rfl,_,rfl,_,_,rfl,rfl,⟨by omega,by omega,by decide⟩,(by show 1<=sizeLine;decide),λl hl=>?_⟩;have X1:=Ext.new hl (.lst [V.int (1*2^((m:Int)).toNat)]);refine⟨p,l,_,_,rfl,rfl,X1 _ _ hp,upd_same,?_,λl2 hl2=>?_⟩
    ·rw[hA1];show _+1<=sizeLine;exact hB5 (qAf (by omega))
    ·refine⟨_,rfl,_,_,rfl,rfl,fin l2 (ms++[2^m]) _ _ _ _ (e.trans (X1.trans (Ext.new hl2 _))) ?_ (by rw[hAc];show _+1<=12;omega)⟩;unfold LsN;rw[upd_same,hA3];show some (HO.lst (_++[V.int (1*2^((m:Int)).toNat)]))=_;rw[qBr];rfl
   ·refine⟨_,rfl,rfl,_,rfl,?_⟩;refine qBy (λc3=>absurd c3 (nope 0 1 (by decide) c1)) (λc3=>qFz ?_);refine⟨_,rfl,rfl,_,rfl,?_⟩;refine qBy (λc4=>absurd c4 (nope 0 2 (by decide) c1)) (λc4=>?_);exact⟨_,rfl,_,_,rfl,rfl,fin p ms _ _ _ _ e hp lm⟩
  ·refine qFz ⟨_,rfl,rfl,_,rfl,?_⟩;have thr:∀(h:¬False),True:=λ_=>trivial
   refine qBy (λc3=>?_) (λc3=>?_)
   ·refine⟨_,rfl,p,_,rfl,.inl (SqL.of hp),_,_,rfl,rfl,_,rfl,?_⟩;refine qBy (λc2=>?_) (λc2=>?_)
    ·have l8:ms.length<8:=by
      have:(((ms.map iV).length:Nat):Int)<8:=hEl c2;rw[hA1]at this;omega
     refine⟨_,rfl,_,rfl,_,_,rfl,rfl,⟨by omega,by omega,by decide⟩,_,rfl,_,_,rfl,rfl,⟨by omega,by omega,by decide⟩,_,_,rfl,rfl,(by show 1<=sizeLine;decide),λl hl=>?_⟩;have X1:=Ext.new hl (.lst [V.int (Builtin.bitOr (1*2^((m:Int)).toNat) (1*2^((mt:Int)).toNat))]);refine⟨p,l,_,_,rfl,rfl,X1 _ _ hp,upd_same,?_,λl2 hl2=>?_⟩
     ·rw[hA1];show _+1<=sizeLine;exact hB5 (qAf (by omega))
     ·refine⟨_,rfl,_,_,rfl,rfl,fin l2 (ms++[2^m ||| 2^mt]) _ _ _ _ (e.trans (X1.trans (Ext.new hl2 _))) ?_ (by rw[hAc];show _+1<=12;omega)⟩;unfold LsN;rw[upd_same,hA3];show some (HO.lst (_++[V.int (Builtin.bitOr (1*2^((m:Int)).toNat) (1*2^((mt:Int)).toNat))]))=_;rw[qBr,qBr,qUi];rfl
    ·refine⟨_,rfl,rfl,_,rfl,?_⟩;refine qBy (λc4=>absurd c4 (nope 1 2 (by decide) c3)) (λc4=>?_);exact⟨_,rfl,_,_,rfl,rfl,fin p ms _ _ _ _ e hp lm⟩
   ·refine qFz ⟨_,rfl,rfl,_,rfl,?_⟩;refine qBy (λc4=>?_) (λc4=>?_)
    ·refine⟨_,rfl,p,rfl,⟨_,SqL.of hp⟩,?_⟩;refine qBd (λ_=>true) (λz=>z ||| (if z.testBit mt=true then 1 else 0) <<< m) hp (by omega) (λz hz C B cc bb=>⟨sls,?_⟩) ?_
     ·refine iteT (B:=B H') ⟨_,rfl,_,rfl,_,rfl,_,_,rfl,rfl,(by show(0:Int)<=_;omega),_,_,rfl,rfl,_,rfl,_,_,rfl,rfl,⟨by omega,by omega,?_⟩,_,_,rfl,rfl,?_⟩
      ·rw[bc];split <;> decide
      ·have:=cc rfl;rw[show iV (z ||| (if z.testBit mt=true then 1 else 0) <<< m)=V.int (Builtin.bitOr (z:Int) (Builtin.bitAnd ((z:Int) / 2^((mt:Int)).toNat) 1*2^((m:Int)).toNat)) by rw[bc,qVd,qUi]]at this;exact this
     ·intro l hl;refine⟨_,rfl,_,_,rfl,rfl,fin l _ _ _ _ _ (e.trans (Ext.new hl _)) upd_same ?_⟩;rw[hA1];exact hAw (hAs _ _) lm
    ·exact⟨_,rfl,_,_,rfl,rfl,fin p ms _ _ _ _ e hp lm⟩
 ·exact⟨_,rfl,q p ms _ e hp (by omega)⟩
end
theorem qW8(z p:Nat):Builtin.bitAnd (z:Int) (1*2^((p:Int)).toNat-1)=((z&&&(2^p-1):Nat):Int):=by
 rw[qBr];have:0<2^p:=Nat.pow_pos (by decide);rw[show((2^p:Nat):Int)-1=((2^p-1:Nat):Int) by omega,qCp]
theorem qDq:∀ {as:List α} {bs:List β} {cs:List α} {ds:List β},Paired R as bs->Paired R cs ds->Paired R (as++cs) (bs++ds)
 |_,_,_,_,.nil,h=>h
 |_,_,_,_,.cons a r,h=>.cons a (qDq r h)
noncomputable def rwE(x:Nat)(n:Nat):List (Int×Int):=(List.range n).map λ(y:Nat)=>((0+(x:Int)),(0+(y:Int)))
noncomputable def prs:Nat->List (Int×Int)
 |0=>[]
 |i+1=>prs i++rwE i 6
noncomputable def pr2(t:Int×Int):Bool:=decide (t.1<t.2) && decide (t.2<5)
noncomputable def pr3(t:Int×Int):Bool:=decide (t.1<3) && decide (3<=t.2)
theorem qM8(x n:Nat):(rwE x n).length=n:=by unfold rwE;rw[hA1,hB0]
theorem qGg:∀i,(prs i).length=6*i
 |0=>rfl
 |i+1=>by
  show(prs i++rwE i 6).length=_;rw[hAc,qGg i,qM8];omega
theorem qZ2:0<((prs 6).filter pr2).length:=by decide +kernel
theorem qZ1:0<((prs 6).filter pr3).length:=by decide +kernel
theorem qI0(pr:Int×Int->Bool)(hp:H1 p=some (.lst (as.map V.ref)))(pe:Paired (λa t=>H1 a=some (.tup (enV t))) as es)(ln:es.length<=36)
  (hs:∀a t,H1 a=some (.tup (enV t))->∀(C:V->Hp->Prop) (B:Hp->Prop),(pr t=true->C (.ref a) H1)->(pr t=false->B H1)->g (.ref a) σ0 H1 λσ2 H2=>Sle σ0 σ2/\tt σ2 H2 λb H3=>if b=true then te σ2 H3 C else B H3)
  (hd:∀bs,Paired (λa t=>H1 a=some (.tup (enV t))) bs (es.filter pr)->Q (bs.map V.ref) H1):qEf (Itl K p) σ0 g tt te Q H1:=by
 have la:as.length=es.length:=pe.length;refine qAq (xs:=as.map V.ref) (λj ys H2=>H2=H1/\∃bs:List Addr,ys=bs.map V.ref/\Paired (λa t=>H1 a=some (.tup (enV t))) bs ((es.take j).filter pr)) ⟨rfl,[],rfl,.nil⟩ (λj ys H2 _ h=>by rw[h.1];exact SqL.of hp) ?_ ?_
 ·rintro j x ys H2 hx ⟨rfl,bs,rfl,pb⟩;obtain⟨a,rfl,ha⟩:=qA5 hx;obtain⟨t,ht,h1⟩:=qAr pe ha;have hj:=qAu ht;have lb:bs.length=_:=pb.length;have sz:=hAs pr (es.take j);rw[hAk]at sz;refine hs a t h1 _ _ (λb=>⟨by rw[hA1];exact qAf (by omega),nxt (qAu hx) ⟨rfl,bs++[a],by rw[hA3];rfl,?_⟩⟩) (λb=>nxt (qAu hx) ⟨rfl,bs,rfl,?_⟩)
  ·rw[zDk ht b];exact pb.snoc h1
  ·rw[zDl ht b];exact pb
 ·rintro ys H2 ⟨rfl,bs,rfl,pb⟩;rw[hA1,la,hA5 (hAa _)]at pb;exact hd bs pb
section
variable{P:Program}{w:World}{K:PySem.W.Frag}{mg:Str->Option Value}{base:Heap}{f f1 f2 f3 f4 f5:Addr}{fd fd1 fd2 fd3 fd4 fd5:FuncData}
noncomputable abbrev smN:List Str:=["_law_kind","_law_base","_law_pairs","_law_one","_law_lights","_law_point"]
theorem qFl:FnScope smN ["_law_kind"] (qAc qM6):=fsk
noncomputable abbrev smC:List Str:=["_law_k","_law_pair","_law_point"]
theorem zAd(F:Fun K "_law_small" "_law_small" qM6 f fd)(G1:v9 2 f1 fd1 ["_law_numbers","_law_many"] qXq "_law_crossing")
  (G2:v9 1 f2 fd2 ["_law_numbers"] qI4 "_law_reduced") (msu:mg "sum"=none) (mr:mg "range"=none) (me:mg "enumerate"=none) (ml:mg "len"=none):v8 3 f fd ["_law_kind"] qXl:=by
 refine F.okA qFl λcdv A outer s H vs Q E hr h=>?_
 obtain⟨k,rfl,k0,k4,q⟩:=h;have hr1:=hr.mono (j:=1) (by decide);refine⟨_,qAa (qBj (qAn qFq (pv 0) qAb (nomark _))
   (qAa (v4 1 qFl (qA2 (qAe qAb (qAe qAb (qAe qAb (pa1 qAb))))))
   (qAd (qAt (qA6 (qAe qAb (pa1 (qBh qBx (qA2 (qAe (pv 1) (pa1 (qAv G1 hr rfl .nil pass0 (qAe (pv 1) (pa1 qAb)))))) (pv 0) (λ_ _=>rfl))))))))
   qAx)
  (qAa (v4 2 qFl (qA2 qAz))
  (qAa (qBf PassesOwn.never rfl (qBg rfl mr (pa1 qAb)) (v7 3 qFl)
   (qAd (v4 2 qFl (qAg qB9 (pv 2) (qA7 (N:=smN) (sc:=qAc qM6) (N':=["_law_other","_law_one"]) (sub:=[none,some 3]) (qBg rfl mr (pa1 qAb)) (λC s H fp=>⟨qAw,qA6 (qAe (pv 1) (pa1 (pv 0)))⟩))))))
  (qAa (qJc (λσ H2=>∃(pa:Addr) (x3:Option V) (es:List (Int×Int)),σ=[some (.int k),none,some (.ref pa),x3,none,none]/\Ext H H2/\qBi H2 pa es/\0<es.length/\es.length<=36) (qBj (qAn qB4 (pv 0) qAb (nomark _))
   (qAd (qD0 (i:=2) (N:=smN) (sc:=qAc qM6) (N':=["_law_pair"]) (sub:=[none]) (qAp (pv 2)) (λC s H fp=>⟨qBb (qO3 qFq qFq (qBh (show IxR _ (qO2 K) from qBq) (pv 0) qAb (λ_ _=>rfl)) (qBh (show IxR _ (qO2 K) from qBq) (pv 0) qAb (λ_ _=>rfl)) qAb),pv 0⟩) qFl.nd rfl (Or.inl rfl)))
   (qAd (qD0 (i:=2) (N:=smN) (sc:=qAc qM6) (N':=["_law_pair"]) (sub:=[none]) (qAp (pv 2)) (λC s H fp=>⟨qBb (qO3 qFq zEs (qBh (show IxR _ (qO2 K) from qBq) (pv 0) qAb (λ_ _=>rfl)) qAb (qBh (show IxR _ (qO2 K) from qBq) (pv 0) qAb (λ_ _=>rfl))),pv 0⟩) qFl.nd rfl (Or.inl rfl)))))
  (qAa (v4 4 qFl (qA2 qAz))
  (qAa (qBf PassesOwn.never rfl (qBg rfl mr (pa1 qAb)) (v7 5 qFl)
   (qAd (qCd (qDu hAx hBn hBo qBw (pv 4) (pa1 (qAh (qC6 rfl) rfl msu qC8 (pa1 (qG7 (N:=smN) (sc:=qAc qM6) (N':=smC) (sub:=[none,none,some 5]) rfl rfl (CmpOk.of (by decide +kernel)) rfl (qE4 rfl me (pa1 (pv 2)))
    (λC s H fp=>⟨(show PG _ _ (zBe K 2 _) from qB0 rfl (qAs (qAm (i:=0) (by show smC.Nodup;decide) rfl (Or.inl rfl)) (qAs (qAm (i:=1) (by show smC.Nodup;decide) rfl (Or.inl rfl)) qBc))),
     qBb (qAn (show OpR _ (compareOp .In) (rIn K false) from qFr) (pv 2) (pv 1) (by with_unfolding_all rfl)),qAg qCe qAb (pv 0)⟩)))))))))
  (qAd (qAt (qA6 (qAe (qAh qAi rfl ml hAt (pa1 (pv 2))) (pa1 (qAv G2 hr1 rfl .nil pass0 (pa1 (pv 4))))))))))))),?_⟩
 refine⟨_,rfl,_,_,rfl,rfl,_,rfl,?_⟩;refine qBy (λc=>?_) (λc=>?_)
 ·have k2:k<2:=hEl c;refine⟨(by show 4<=sizeLine;decide),λl0 h0=>?_⟩;have X0:=Ext.new h0 (.lst ([7,25,42,75].map iV));have hl0:LsN (upd H l0 (.lst ([7,25,42,75].map iV))) l0 [7,25,42,75]:=upd_same;refine⟨_,rfl,_,rfl,l0,[7,25,42,75],7,rfl,hl0,by decide,by decide,λr ns H1 e1 r0 hr1' ln=>?_⟩;refine⟨(by show 2<=sizeLine;decide),λl1 hl1=>?_⟩;have X1:=Ext.new hl1 (.lst [V.ref l0,V.ref r]);obtain rfl|rfl:k=0\/k=1:=by omega
  ·refine⟨_,rfl,l1,_,_,_,rfl,rfl,SqL.of upd_same,(by exact qAy (j:=0) rfl),(by show 2<=sizeLine;decide),λT hT=>?_⟩;have XT:=X1.trans (Ext.new hT (.tup [iV 7,V.ref l0]));exact q T l0 7 [7,25,42,75] _ (X0.trans (e1.trans XT)) upd_same (XT _ _ (e1 _ _ hl0)) (by decide) (by decide) (by decide)
  ·refine⟨_,rfl,l1,_,_,_,rfl,rfl,SqL.of upd_same,(by exact qAy (j:=1) rfl),(by show 2<=sizeLine;decide),λT hT=>?_⟩;have XT:=X1.trans (Ext.new hT (.tup [iV 7,V.ref r]));exact q T r 7 ns _ (X0.trans (e1.trans XT)) upd_same (XT _ _ hr1') ln (by decide) (by decide)
 refine⟨hAp _,λp0 hp0=>?_⟩;refine⟨6,rfl,by decide,by decide,qB5 (lo:=0) (n:=6) (λi σ H'=>∃(pa:Addr) (x3:Option V),σ=[some (.int k),none,some (.ref pa),x3,none,none]/\Ext H H'/\qBi H' pa (prs i)) ⟨p0,none,rfl,Ext.new hp0 _,[],upd_same,.nil⟩ ?_ ?_⟩
 ·rintro i σ H' hi ⟨pa,x3,rfl,e,⟨as,hpa,pae⟩⟩;have la:as.length=6*i:=by rw[pae.length,qGg]
  refine⟨_,rfl,6,rfl,by decide,by decide,?_⟩;refine qDr (lo:=0) (n:=6) (λj ys H2=>Ext H' H2/\∃bs:List Addr,ys=bs.map V.ref/\Paired (λa t=>H2 a=some (.tup (enV t))) bs (rwE i j)) ⟨Ext.refl _,[],rfl,.nil⟩ ?_ ?_
  ·rintro j ys H2 hj ⟨e2,bs,rfl,pb⟩;have lb:bs.length=j:=by rw[pb.length,qM8]
   refine⟨sls,iteT (B:=False) ⟨_,rfl,_,rfl,(by show 2<=sizeLine;decide),λT hT=>⟨by rw[hA1];exact qAf (by omega),nxt hj ⟨e2.trans (Ext.new hT _),bs++[T],by rw[hA3];rfl,?_⟩⟩⟩⟩;have er:rwE i (j+1)=rwE i j++[((0+(i:Int)),(0+(j:Int)))]:=by
    unfold rwE;rw[hCf,hA3];rfl
   rw[er];exact Paired.snoc (Paired.mapP pb λa t z=>(Ext.new hT _) _ _ z) upd_same
  ·rintro ys H2 ⟨e2,bs,rfl,pb⟩ l hl;have lb:bs.length=6:=by rw[pb.length,qM8]
   have Xl:=e2.trans (Ext.new hl (.lst (bs.map V.ref)));refine⟨pa,l,_,_,rfl,rfl,Xl _ _ hpa,upd_same,by rw[hA1,hA1];exact hB5 (qAf (by omega)),λl3 hl3=>?_⟩;have X3:=Ext.new hl3 (.lst (as.map V.ref++bs.map V.ref));refine⟨l3,_,rfl,(e.trans Xl).trans X3,as++bs,by rw[upd_same,hA3],qDq (Paired.mapP pae λa t z=>(Xl.trans X3) _ _ z) (Paired.mapP pb λa t z=>((Ext.new hl _).trans X3) _ _ z)⟩
 rintro σ H' ⟨pa,x3,rfl,e,⟨as,hpa,pae⟩⟩;refine⟨?_,?_⟩
 ·refine⟨_,rfl,rfl,_,rfl,?_⟩;refine qBy (λck=>?_) (λck=>?_)
  ·refine⟨_,rfl,pa,rfl,⟨_,SqL.of hpa⟩,?_⟩;refine qI0 pr2 hpa pae (by rw[qGg];decide) (λa t ha C B c b=>⟨sls,?_⟩) ?_
   ·refine⟨_,rfl,a,_,_,_,rfl,rfl,SqT.of ha,(by exact qAy (j:=0) rfl),_,rfl,a,_,_,_,rfl,rfl,SqT.of ha,(by exact qAy (j:=1) rfl),_,_,rfl,rfl,_,rfl,?_⟩;refine qBy (λc1=>?_) (λc1=>?_)
    ·refine⟨_,_,rfl,rfl,_,rfl,?_⟩;refine qBy (λc2=>⟨_,rfl,c ?_⟩) (λc2=>b ?_)
     ·show(decide _ && decide _)=true;rw[c1,c2];rfl
     ·show(decide _ && decide _)=false;rw[c1,hCv];simpa using c2
    ·refine⟨_,rfl,qFz (b ?_)⟩;show(decide _ && decide _)=false;rw[show decide _=false by simpa using c1];rfl
   ·intro bs pb l hl;have Xl:=Ext.new hl (.lst (bs.map V.ref));exact⟨l,_,_,rfl,e.trans Xl,⟨bs,upd_same,Paired.mapP pb λa t z=>Xl _ _ z⟩,qZ2,hAw (hAs _ _) (by rw[qGg];decide)⟩
  ·refine⟨_,rfl,pa,rfl,⟨_,SqL.of hpa⟩,?_⟩;refine qI0 pr3 hpa pae (by rw[qGg];decide) (λa t ha C B c b=>⟨sls,?_⟩) ?_
   ·refine⟨_,rfl,a,_,_,_,rfl,rfl,SqT.of ha,(by exact qAy (j:=0) rfl),_,_,rfl,rfl,_,rfl,?_⟩;refine qBy (λc1=>?_) (λc1=>?_)
    ·refine⟨_,rfl,a,_,_,_,rfl,rfl,SqT.of ha,(by exact qAy (j:=1) rfl),_,_,rfl,rfl,_,rfl,?_⟩;refine qBy (λc2=>⟨_,rfl,c ?_⟩) (λc2=>b ?_)
     ·show(decide _ && decide _)=true;rw[c1,c2];rfl
     ·show(decide _ && decide _)=false;rw[c1,hCv];simpa using c2
    ·refine⟨_,rfl,qFz (b ?_)⟩;show(decide _ && decide _)=false;rw[show decide _=false by simpa using c1];rfl
   ·intro bs pb l hl;have Xl:=Ext.new hl (.lst (bs.map V.ref));exact⟨l,_,_,rfl,e.trans Xl,⟨bs,upd_same,Paired.mapP pb λa t z=>Xl _ _ z⟩,qZ1,hAw (hAs _ _) (by rw[qGg];decide)⟩
 ·rintro σ H2 ⟨pa,x3,es,rfl,e,en,pos,le36⟩;obtain⟨bs,hpa,pae⟩:=id en;have lb:bs.length=es.length:=pae.length;refine⟨hAp _,λli li0=>?_⟩;refine⟨6,rfl,by decide,by decide,qB5 (lo:=0) (n:=6) (λi σ H'=>∃(x5:Option V) (ns:List Nat),σ=[some (.int k),none,some (.ref pa),x3,some (.ref li),x5]/\Ext H2 H'/\LsN H' li ns/\ns.length<=i) ⟨none,[],rfl,Ext.new li0 _,upd_same,hAa _⟩ ?_ ?_⟩
  ·rintro i σ H' hi ⟨x5,ns,rfl,e2,hli,ln⟩;refine⟨_,rfl,.inl ⟨rfl,_,SqL.of hli⟩,_,rfl,pa,_,rfl,SqL.of (e2 _ _ hpa),?_⟩;rw[hA1];refine qD4 (λj ys H3=>Ext H' H3/\∃ms:List Nat,ys=ms.map iV/\ms.length<=j) ⟨Ext.refl _,[],rfl,hAa _⟩ (λj ys H3 _ p=>SqL.of (p.1 _ _ (e2 _ _ hpa))) ?_ ?_
   ·rintro j ys H3 T hj ⟨e3,ms,rfl,lm⟩ hT;have gd:(bs.map V.ref).getD j .non = .ref bs[j]:=by rw[hA7,hAi,hA2 hj];rfl
    obtain⟨t,ht,h1⟩:=qAr pae (hA2 hj);have e4:=e3.trans (Ext.new hT (.tup [V.int (j:Nat),(bs.map V.ref).getD j .non]));refine⟨T,_,rfl,SqT.of upd_same,rfl,_,_,rfl,_,_,rfl,rfl,?_⟩;refine⟨Sle.set _ (sls) (λu z=>by cases z),?_⟩;refine⟨_,rfl,_,rfl,bs[j],_,gd,.inr (SqT.of ((e2.trans e4) _ _ h1)),rfl,rfl,_,rfl,?_⟩;refine qBy (λc3=>?_) (λc3=>?_)
    ·refine⟨_,rfl,_,_,rfl,rfl,⟨by omega,by omega,by decide⟩,by rw[hA1];exact qAf (by omega),nxt hj ⟨e4,ms++[2^j],?_,by rw[hAc];exact hC9 lm⟩⟩;rw[hA3];show _++[V.int (1*2^(((j:Nat):Int)).toNat)]=_;rw[qBr];rfl
    ·exact nxt hj ⟨e4,ms,rfl,hEa lm⟩
   ·rintro ys H3 ⟨e3,ms,rfl,lm⟩ l hl;have e4:=e3.trans (Ext.new hl (.lst (ms.map iV)));refine⟨l,ms.map (λn:Nat=>(n:Int)),rfl,SqL.of (by rw[upd_same,qCg]),?_⟩;rw[qDb];refine⟨li,_,_,rfl,rfl,e4 _ _ hli,by rw[hA1];exact qAf (by omega),?_⟩;refine⟨_,ns++[ms.sum],rfl,(e2.trans e4).over li0 _,?_,by rw[hAc];exact hC9 ln⟩;unfold LsN;rw[upd_same,hA3];rfl
  ·rintro σ H' ⟨x5,ns,rfl,e2,hli,ln⟩;obtain⟨m0,lt0⟩:=qNz ns;refine⟨_,rfl,pa,_,rfl,.inl (SqL.of (e2 _ _ hpa)),_,rfl,li,ns,m0,rfl,hli,by omega,lt0,λr H5 e5 r0 hr5=>⟨(by show 2<=sizeLine;decide),λT hT=>?_⟩⟩;have lR:=qE3 ns;have XT:=Ext.new hT (.tup [V.int (((bs.map V.ref).length:Nat):Int),V.ref r]);refine q T r es.length (redL ns) _ ((e.trans e2).trans (e5.trans XT)) ?_ (XT _ _ hr5) (by omega) pos le36;rw[upd_same,hA1,lb]
end
def Lrr(k:List Nat):Prop:=∃m,Gm m k/\RR (k.map (rv m))
theorem qHf(xs:List Nat):Lrr (redL xs):=by
 obtain⟨m,h⟩:=qNz xs;obtain⟨g,e⟩:=qE2 xs h;exact⟨m,g,by rw[e];exact qCi _⟩
theorem Lrr.take(h:Lrr k)(n:Nat):Lrr (k.take n):=by
 obtain⟨m,g,r⟩:=h;refine⟨m,λs hs=>g s (hDc hs),⟨λs hs=>?_,?_⟩⟩
 ·obtain⟨t,ht,rfl⟩:=hAb.mp hs;exact r.nz _ (hB3 (hDc ht))
 ·rw[List.map_take];exact r.ap.sublist (List.take_sublist _ _)
theorem qN4:∀(n a b:Nat),a<=n->a&&&b=0->a+b=a ||| b
 |0,a,b,ha,_=>by
  have:a=0:=by omega
  subst this;simp
 |n+1,a,b,ha,h=>by
  by_cases z:a=0
  ·subst z;simp
  have h2:a / 2&&&b / 2=0:=by rw[<-Nat.and_div_two,h]
  have ih:=qN4 n (a / 2) (b / 2) (by omega) h2;have h0:(a&&&b).testBit 0=false:=by rw[h];exact hBl 0
  rw[hAv,hB1,hB1]at h0;have e0:(a ||| b).testBit 0=(decide (a % 2=1) || decide (b % 2=1)):=by rw[hCk,hB1,hB1]
  rw[hB1]at e0;have e1:(a ||| b) / 2=a / 2+b / 2:=by rw[Nat.or_div_two,ih]
  rw[show a+b=a ||| b↔a ||| b=a+b from eq_comm];generalize (a ||| b)=q at e0 e1 ⊢;have ma:a % 2=0\/a % 2=1:=by omega
  have mb:b % 2=0\/b % 2=1:=by omega
  rcases ma with ma|ma <;> rcases mb with mb|mb <;> rw[ma,mb]at h0 e0 <;> simp at h0 e0 <;> omega
theorem zBs(h:a&&&b=0)(i:Nat):(a+b).testBit i=(a.testBit i || b.testBit i):=by
 rw[qN4 a a b (hAa _) h,hCk]
abbrev Dis(hs:List Nat):Prop:=hs.Pairwise λa b=>a&&&b=0
theorem qB1:∀ {hs:List Nat},Dis hs->∀i,hs.sum.testBit i=true↔∃h∈hs,h.testBit i=true
 |[],_,i=>by
  rw[List.sum_nil,hBl];exact⟨λh=>(by cases h),λ⟨_,h,_⟩=>(by cases h)⟩
 |a :: l,d,i=>by
  obtain⟨d1,d2⟩:=hAr.mp d;have ih:=qB1 d2;have z:a&&&l.sum=0:=hAl λj=>by
   rw[hAv,hBl];by_cases w:l.sum.testBit j=true
   ·obtain⟨h,hh,hb⟩:=(ih j).mp w;have:=congrArg (λx=>Nat.testBit x j) (d1 h hh);simp only[hAv,hBl,hb,Bool.and_true]at this;rw[this];rfl
   ·rw[hDb]at w;rw[w,hE3]
  rw[hDd,zBs z,hE7,ih i];constructor
  ·rintro(h|⟨u,hu,h⟩)
   ·exact⟨a,hA6,h⟩
   ·exact⟨u,hA4 _ hu,h⟩
  ·rintro⟨u,hu,h⟩;rcases hAg.mp hu with rfl|hu
   ·exact .inl h
   ·exact .inr ⟨u,hu,h⟩
noncomputable def blS(hs:List Nat)(n:Nat):List Nat:=(hs.filter λh=>decide (h&&&n=0))++[(hs.filter λh=>!decide (h&&&n=0)).sum]
noncomputable def blF(base:List Nat)(m:Nat):List Nat:=(base.filter λz=>!decide (z=0)).foldl blS ((List.range m).map λk=>2^k)
structure BlI(m:Nat)(hs:List Nat):Prop where
 dis:Dis hs
 lt:∀h∈hs,∀i,h.testBit i=true->i<m
theorem qGq(h:∀i,a.testBit i=true->b.testBit i=true->False):a&&&b=0:=hAl λi=>by
 rw[hAv,hBl];cases ha:a.testBit i with
 |false=>rfl
 |true =>
  cases hb:b.testBit i with
  |false=>rfl
  |true=>exact(h i ha hb).elim
theorem qBl(h:a&&&b=0)(ha:a.testBit i=true)(hb:b.testBit i=true):False:=by
 have:=congrArg (λx=>Nat.testBit x i) h;simp only[hAv,ha,hb,hBl]at this;cases this
theorem qF0:∀ {hs:List Nat},Dis hs->∀ {a c:Nat},a∈hs->c∈hs->a≠c->a&&&c=0
 |h :: hs,d,a,c,ha,hc,ne=>by
  obtain⟨d1,d2⟩:=hAr.mp d;rcases hAg.mp ha with z1|z1
  ·rcases hAg.mp hc with z2|z2
   ·exact(ne (z1.trans z2.symm)).elim
   ·rw[z1];exact d1 c z2
  ·rcases hAg.mp hc with z2|z2
   ·rw[Nat.and_comm,z2];exact d1 a z1
   ·exact qF0 d2 z1 z2 ne
theorem BlI.step(I:BlI m hs)(n:Nat):BlI m (blS hs n):=by
 have df:Dis (hs.filter λh=>!decide (h&&&n=0)):=I.dis.sublist hCh;have sb:=qB1 df;refine⟨hBc.mpr ⟨I.dis.sublist hCh,hBw _ _,λa ha b hb=>?_⟩,λh hh i hi=>?_⟩
 ·rw[hA9]at hb;subst hb;obtain⟨a1,a2⟩:=hAj.mp ha;refine qGq λi h1 h2=>?_
  obtain⟨c,hc,hi⟩:=(sb i).mp h2;obtain⟨c1,c2⟩:=hAj.mp hc;have ne:a≠c:=λz=>by
   subst z;rw[a2]at c2;cases c2
  have:=qF0 I.dis a1 c1 ne;exact qBl this h1 hi
 ·rcases hAd.mp hh with z|z
  ·exact I.lt h (hAj.mp z).1 i hi
  ·rw[hA9]at z;subst z;obtain⟨c,hc,hci⟩:=(sb i).mp hi;exact I.lt c (hAj.mp hc).1 i hci
theorem BlI.first(m:Nat):BlI m ((List.range m).map λk=>2^k):=by
 refine⟨?_,λh hh i hi=>?_⟩
 ·refine hBb.mpr ((hEf (n:=m)).imp λ{a b} ne=>qGq λi h1 h2=>?_);rw[hB4,hEp]at h1 h2;exact ne (h1.trans h2.symm)
 ·obtain⟨k,hk,rfl⟩:=hAb.mp hh;rw[hB4,hEp]at hi;rw[hAy]at hk;omega
theorem BlI.all:∀ {L hs:List Nat},BlI m hs->BlI m (L.foldl blS hs)
 |[],_,I=>I
 |t :: L,hs,I=>BlI.all (L:=L) (hs:=blS hs t) (I.step t)
theorem qYv(hh:h∈blF base m):∀i,h.testBit i=true->i<m:=(BlI.all (BlI.first m)).lt h hh
theorem qEb(j:Nat):2^j&&&(2^j-1)=0:=qGq λi h1 h2=>by
 rw[hB4,hEp]at h1;subst h1;rw[hBz]at h2;simp at h2
def qXk(K:PySem.W.Frag):Sp:=λvs H Q _=>∃(a:Addr) (ns:List Int),vs=[.ref a,.int 1]/\SqL K H a (ns.map V.int)/\∀(T b:Addr) (m:Nat) (ms:List Nat) (H':Hp),Ext H H'->H' T=some (.tup [iV m,.ref b])->LsN H' b ms->m<=12->ms.length<=8->Lrr ms->Q (.ref T) H'
section
variable{P:Program}{w:World}{K:PySem.W.Frag}{mg:Str->Option Value}{base:Heap}{f f1 f2 f3 f4 f5 f6 f7:Addr}{fd fd1 fd2 fd3 fd4 fd5 fd6 fd7:FuncData}
noncomputable abbrev stN:List Str:=["_law_script","_law_at","_law_big_here","_law_net_here","_law_many","_law_base","_law_most"]
theorem qCx:FnScope stN ["_law_script","_law_at"] (qAc qVm):=fsk
theorem zAc(F:Fun K "_law_steps_of" "_law_steps_of" qVm f fd)
  (G1:v9 2 f1 fd1 ["_law_script","_law_k"] (qQk K) "_law_big")
  (G2:v9 3 f2 fd2 ["_law_script","_law_at"] (zB7 K) "_law_net")
  (G3:v9 1 f3 fd3 ["_law_net_here"] qMu "_law_even")
  (G4:v9 1 f4 fd4 ["_law_big_here","_law_many"] qXo "_law_free")
  (G5:v9 3 f5 fd5 ["_law_kind"] qXl "_law_small")
  (G6:v9 1 f6 fd6 ["_law_base","_law_many","_law_big_here","_law_most"] qXm "_law_with_more")
  (G7:v9 1 f7 fd7 ["_law_numbers"] qI4 "_law_reduced")
  (ml:mg "len"=none) (mmi:mg "min"=none):v8 4 f fd ["_law_script","_law_at"] (qXk K):=by
 refine F.okA qCx λcdv A outer s H vs Q E hr h=>?_
 obtain⟨a,ns,rfl,hS,q⟩:=h;have hr1:=hr.mono (j:=1) (by decide);have hr2:=hr.mono (j:=2) (by decide)
 let PB:Nat->St->Hp->Prop:=λbd σ H'=>∃(B:Int) (r:Addr) (m:Nat) (b:Addr) (ms:List Nat) (x6:Option V),σ=[some (.ref a),some (.int 1),some (.int B),some (.ref r),some (iV m),some (.ref b),x6]/\Ext H H'/\LsN H' b ms/\m<=12/\ms.length<=bd
 refine⟨_,qAa (v4 2 qCx (qAv G1 hr2 rfl .nil pass0 (qAe (pv 0) (pa1 (qAg qA8 (pv 1) qAb)))))
  (qAa (v4 3 qCx (qAv G2 hr rfl .nil pass0 (qAe (pv 0) (pa1 (pv 1)))))
  (qAa (qJc (PB 12) (qGz (qA6 (qAe (qAh qAi rfl ml hAt (pa1 (pv 3))) (pa1 (qAv G3 hr1 rfl .nil pass0 (pa1 (pv 3)))))) (qB0 rfl (qAs (v7 4 qCx) (qAs (v5 5 qCx) qBc)))))
  (qAa (qJc (PB 24) (qBj (qAn qFq (qAg qA9 (pv 2) qAb) qAb (nomark _))
   (qAd (v4 5 qCx (qAg qB9 (pv 5) (qFn qMx (qAv G4 hr1 rfl .nil pass0 (qAe (qAg qA4 (pv 2) qAb) (pa1 (pv 4)))) qH9 (qH8 (qAg qA8 qAb (qAg qA9 (pv 2) qAb)))))))
   qAx))
  (qAa (qJc (PB 24) (qBj (qAn qB4 (qAg qA9 (pv 2) qAb) qAb (nomark _))
   (qAa (v6 4 qCx (qAg qA8 qAb (qAg qA9 (qAg qA4 (pv 2) qAb) qAb)))
   (qAd (v4 5 qCx (qAv G4 hr1 rfl .nil pass0 (qAe (qAg qA4 (pv 2) qAb) (pa1 (pv 4)))))))
   qAx))
  (qAa (qJc (PB 24) (qBj (qAn qV6 (qAg qA9 (pv 2) qAb) qAb (nomark _))
   (qAa (qGz (qAv G5 hr rfl .nil pass0 (pa1 (qAg qA9 (qAg qA4 (pv 2) qAb) qAb))) (qB0 rfl (qAs (v7 4 qCx) (qAs (v5 5 qCx) qBc))))
   (qAa (v4 6 qCx (qAh (qF5 rfl) rfl mmi qF8 (qAe qAb (pa1 (qAg qA8 (pv 4) (qAg qA9 (qAg qA4 (pv 2) qAb) qAb))))))
   (qAa (v4 5 qCx (qAv G6 hr1 rfl .nil pass0 (qAe (pv 5) (qAe (pv 4) (qAe (qAg qA4 (pv 2) qAb) (pa1 (pv 6)))))))
   (qAd (v6 4 qCx (pv 6))))))
   qAx))
  (qAa (v4 5 qCx (qFn qMx (qAv G7 hr1 rfl .nil pass0 (pa1 (pv 5))) qH9 (qH8 qAb)))
  (qAa (qKd PassesOwn.never (qAn qV6 (qAg qCr (pv 4) (qAh qAi rfl ml hAt (pa1 (pv 5)))) qAb (nomark _))
   (qAa (qLe (i:=4) qCx.nd rfl (Or.inr rfl) qAb zDe)
   (qAd (v4 5 qCx (qAv G7 hr1 rfl .nil pass0 (pa1 (qA7 (N:=stN) (sc:=qAc qVm) (N':=["_law_step","_law_many"]) (sub:=[none,some 4]) (qAp (pv 5)) (λC s H fp=>⟨qAw,qAg qBu (pv 0) (qAg qCr (qAg qCe qAb (pv 1)) qAb)⟩))))))))
  (qAd (qAt (qA6 (qAe (pv 4) (pa1 (pv 5))))))))))))),?_⟩
 refine⟨_,rfl,_,rfl,_,_,rfl,rfl,a,ns,_,rfl,hS,by decide,by decide,λB=>?_⟩;refine⟨_,rfl,_,rfl,a,ns,rfl,hS,λr net H1 e1 r0 nt ln tx rs=>?_⟩;refine⟨?_,?_⟩
 ·obtain⟨as,hn1,pr⟩:=id nt;have lA:as.length=net.length:=pr.length;refine⟨_,rfl,r,_,rfl,.inl (SqL.of hn1),_,rfl,r,net,rfl,nt,ln,λev F Kp ps' H2 e2 ev0 hev pok' ei kw=>?_⟩;have lF:F.length<=12:=by have:=ei.len;omega
  refine⟨(by show 2<=sizeLine;decide),λT hT=>⟨T,_,rfl,SqT.of upd_same,rfl,_,_,rfl,_,_,rfl,rfl,?_⟩⟩;have XT:=Ext.new hT (.tup [V.int (((as.map V.ref).length:Nat):Int),V.ref ev]);exact⟨B,r,(as.map V.ref).length,ev,F,none,rfl,e1.trans (e2.trans XT),XT _ _ hev,by rw[hA1];omega,by omega⟩
 rintro σ H2 ⟨B,r,m,b,ms,x6,rfl,e,hb,m12,lm⟩;refine⟨?_,?_⟩
 ·refine⟨_,rfl,_,_,rfl,rfl,(by show(0:Int)<_;decide),_,_,rfl,rfl,_,rfl,?_⟩;refine qBy (λc=>?_) (λc=>?_)
  ·have c':B % 8<2:=hEl c;have b0:=hBi B (show(8:Int)≠0 by decide);obtain⟨t,ht⟩:∃t:Nat,1+B % 8=(t:Int):=⟨(1+B % 8).toNat,by omega⟩;refine⟨_,rfl,_,rfl,_,_,rfl,rfl,⟨by decide,by decide⟩,_,rfl,_,m,rfl,m12,λr2 ns2 H3 e3 r20 hr2' l2=>?_⟩;refine⟨_,rfl,_,_,rfl,rfl,(by show(0:Int)<_;decide),_,_,rfl,rfl,_,rfl,r2,_,rfl,SqL.of hr2',λl hl=>?_⟩;rw[show qW2 (ns2.map iV) none (some (1+B % 8))=(ns2.take t).map iV by rw[ht,qT4,List.map_take]];have Xl:=Ext.new hl (.lst ((ns2.take t).map iV));have lt:=List.length_take_le t ns2;have lt2:(ns2.take t).length<=ns2.length:=by rw[hAk];omega
   refine⟨b,l,_,_,rfl,rfl,(e3.trans Xl) _ _ hb,upd_same,by rw[hA1,hA1];exact hB5 (qAf (by omega)),λl3 hl3=>?_⟩;exact⟨B,r,m,l3,ms++ns2.take t,x6,rfl,((e.trans e3).trans Xl).trans (Ext.new hl3 _),by unfold LsN;rw[upd_same,hA3],m12,by rw[hAc];omega⟩
  ·exact⟨B,r,m,b,ms,x6,rfl,e,hb,m12,by omega⟩
 clear e hb m12 lm;rintro σ H2 ⟨B,r,m,b,ms,x6,rfl,e,hb,m12,lm⟩;refine⟨?_,?_⟩
 ·refine⟨_,rfl,_,_,rfl,rfl,(by show(0:Int)<_;decide),rfl,_,rfl,?_⟩;refine qBy (λc=>?_) (λc=>?_)
  ·have b0:=hBi (B / 8) (show(12:Int)≠0 by decide);have b1:=hB9 (B / 8) (show(0:Int)<12 by decide);obtain⟨m',hm'⟩:∃m':Nat,1+B / 8 % 12=(m':Int):=⟨(1+B / 8 % 12).toNat,by omega⟩;have ev:(λi j:Int=>V.int (i+j)) 1 (B / 8 % 12)=iV m':=congrArg V.int hm';refine⟨_,rfl,_,_,rfl,rfl,⟨by decide,by decide⟩,_,_,rfl,rfl,(by show(0:Int)<_;decide),_,_,rfl,rfl,?_⟩;rw[ev];exact⟨_,rfl,_,_,rfl,rfl,⟨by decide,by decide⟩,_,rfl,_,m',rfl,by omega,λr2 ns2 H3 e3 r20 hr2' l2=>⟨B,r,m',r2,ns2,x6,rfl,e.trans e3,hr2',by omega,by omega⟩⟩
  ·exact⟨B,r,m,b,ms,x6,rfl,e,hb,m12,lm⟩
 clear e hb m12 lm;rintro σ H2 ⟨B,r,m,b,ms,x6,rfl,e,hb,m12,lm⟩;refine⟨?_,?_⟩
 ·refine⟨_,rfl,_,_,rfl,rfl,(by show(0:Int)<_;decide),_,_,rfl,rfl,_,rfl,?_⟩;refine qBy (λc=>?_) (λc=>?_)
  ·have b0:=hBi (B / 8) (show(4:Int)≠0 by decide);have b1:=hB9 (B / 8) (show(0:Int)<4 by decide);have d0:=hBi (B / 32) (show(4:Int)≠0 by decide);have d1:=hB9 (B / 32) (show(0:Int)<4 by decide);refine⟨_,rfl,_,_,rfl,rfl,⟨by decide,by decide⟩,_,_,rfl,rfl,(by show(0:Int)<_;decide),B / 8 % 4,rfl,b0,b1,λT b2 m2 ns2 H3 e3 hT hb2 l2 mp m36=>?_⟩;refine⟨T,_,rfl,SqT.of hT,rfl,_,_,rfl,_,_,rfl,rfl,?_⟩;obtain⟨M,hM,M12⟩:∃M:Nat,(if (m2:Int)+B / 32 % 4<12 then (m2:Int)+B / 32 % 4 else 12)=(M:Int)/\M<=12:=by
    split
    ·exact⟨((m2:Int)+B / 32 % 4).toNat,by omega,by omega⟩
    ·exact⟨12,rfl,by decide⟩
   refine⟨_,rfl,_,rfl,_,_,rfl,rfl,⟨by decide,by decide⟩,_,_,rfl,rfl,(by show(0:Int)<_;decide),_,_,rfl,rfl,12,(m2:Int)+B / 32 % 4,rfl,?_⟩;rw[hM];refine⟨_,rfl,_,rfl,_,rfl,_,_,rfl,rfl,⟨by decide,by decide⟩,_,rfl,b2,ns2,m2,M,_,rfl,hb2,l2,mp,M12,λr3 ns3 H4 e4 hr3 l3=>?_⟩;exact⟨_,rfl,B,r,M,r3,ns3,_,rfl,e.trans (e3.trans e4),hr3,M12,l3⟩
  ·exact⟨B,r,m,b,ms,x6,rfl,e,hb,m12,lm⟩
 clear e hb m12 lm;rintro σ H2 ⟨B,r,m,b,ms,x6,rfl,e,hb,m12,lm⟩;obtain⟨m0,lt0⟩:=qNz ms;refine⟨_,rfl,b,ms,m0,rfl,hb,by omega,lt0,λr2 H3 e3 r20 hr2'=>⟨_,rfl,r2,_,rfl,SqL.of hr2',λl hl=>?_⟩⟩;rw[show qW2 ((redL ms).map iV) none (some 8)=((redL ms).take 8).map iV by rw[show(8:Int)=((8:Nat):Int) from rfl,qT4,List.map_take]];have Xl:=Ext.new hl (.lst (((redL ms).take 8).map iV));refine⟨λk σ H'=>∃(m:Nat) (b:Addr) (ms:List Nat),k=m/\σ=[some (.ref a),some (.int 1),some (.int B),some (.ref r),some (iV m),some (.ref b),x6]/\Ext H H'/\LsN H' b ms/\m<=12/\ms.length<=8/\Lrr ms,⟨_,m,l,_,rfl,rfl,(e.trans e3).trans Xl,upd_same,m12,(by rw[hAk];omega),(qHf _).take 8⟩,?_⟩;clear e hb m12 lm lt0 hr2' hl Xl;rintro k σ H' ⟨m,b,ms,rfl,rfl,e,hb,m12,lm,lrr⟩;refine⟨_,rfl,_,rfl,b,_,rfl,.inl (SqL.of hb),_,_,rfl,rfl,_,_,rfl,rfl,_,rfl,?_⟩;refine qBy (λc=>?_) (λc=>?_)
 ·have c':8<k:=by
   have:(8:Int)<(k:Int)-(((ms.map iV).length:Nat):Int):=hEl c;omega
  refine⟨λσ' H'=>∃k',k'<k/\∃(m:Nat) (b:Addr) (ms:List Nat),k'=m/\σ'=[some (.ref a),some (.int 1),some (.int B),some (.ref r),some (iV m),some (.ref b),x6]/\Ext H H'/\LsN H' b ms/\m<=12/\ms.length<=8/\Lrr ms,λ_ _ h=>h,?_⟩;refine⟨_,rfl,_,_,rfl,rfl,?_⟩;have ev:V.int ((k:Int)-1)=iV (k-1):=congrArg V.int (by omega);show(λz H2=>_) (V.int ((k:Int)-1)) H';rw[ev];refine⟨_,rfl,b,rfl,⟨_,SqL.of hb⟩,?_⟩;refine qBd (λ_=>true) (λz=>z&&&(2^(k-1)-1)) hb (by omega) (λz hz C B' cc bb=>⟨sls,?_⟩) ?_
  ·refine iteT (B:=B' H') ⟨_,rfl,_,rfl,_,_,rfl,rfl,⟨by omega,by omega,by decide⟩,_,_,rfl,rfl,_,_,rfl,rfl,?_⟩;have:=cc rfl;rw[show iV (z&&&(2^(k-1)-1))=V.int (Builtin.bitAnd (z:Int) (1*2^(((k-1:Nat):Int)).toNat-1)) by rw[qW8]]at this;exact this
  ·intro l2 hl2;have X2:=Ext.new hl2 (.lst (((ms.filter λ_=>true).map λz=>z&&&(2^(k-1)-1)).map iV));have l2l:((ms.filter λ_=>true).map λz=>z&&&(2^(k-1)-1)).length<=8:=by
    rw[hA1];exact hAw (hAs _ _) lm
   obtain⟨m1,lt1⟩:=qNz ((ms.filter λ_=>true).map λz=>z&&&(2^(k-1)-1));refine⟨l2,_,m1,rfl,upd_same,by omega,lt1,λr3 H4 e4 r30 hr3=>?_⟩;exact⟨k-1,by omega,k-1,r3,_,rfl,rfl,e.trans (X2.trans e4),hr3,by omega,hAw (qE3 _) l2l,qHf _⟩
 ·refine⟨_,rfl,_,rfl,(by show 2<=sizeLine;decide),λT hT=>?_⟩;have XT:=Ext.new hT (.tup [iV k,V.ref b]);exact q T b k ms _ (e.trans XT) upd_same (XT _ _ hb) m12 lm lrr
end
end My
namespace L2
open PySem PySem.Spec PyProof.Rows PySem.SeqAt PySem.MeetsSeq
end L2
namespace L2
open PySem PySem.Spec PyProof.Rows
section
variable{X:Cx}{k:Nat}{f:Addr}{fd:FuncData}{ps:List Str}{sp:Sp}{E:XK}
structure Aw(X:Cx)(aB:List (Addr×Obj))(a:Addr):Prop where
 loc:a≠X.env.locals
 ab:X.s₀.heap.objs.size<=a
 cel:∀x c,X.env.cells.lookup x=some c->c≠a
 pin:∀p∈X.pn++aB,p.1≠a
 fs:a∉X.fs
theorem Inv.aw(I:Inv X aB σ H s)(h:s.heap.objs.size<=a):Aw X aB a:=by
 refine⟨hCm (hAn I.lt h),hAw I.sz h,λx c e=>?_,λp hp=>?_,I.nofs h⟩
 ·obtain⟨v,o,ho,_⟩:=I.cell x c e;exact hAu (hAn (Heap.lt_size ho) h)
 ·exact hAu (hAn (Heap.lt_size (I.pin p hp).1) h)
theorem Inv.adoptL(I:Inv X aB σ H s)(w:Aw X aB a)(hn:H a=none)(hv:qBn ys its)(hz:ys.length<=sizeLine)
  (e:s.heap.get? a=some { cls:=.type "list",data:=.seq its.toArray n }):Inv X aB σ (upd H a (.lst ys)) s:=by
 refine⟨I.ok,I.os,I.bare,⟨I.base.keep,I.base.slot,λb o q n' hx=>?_,I.base.there,λb xs q=>?_,λb o u q=>?_,λb ps q=>?_⟩,I.loc,I.cell,?_,λx c q=>?_,λp hp=>?_,λb u q=>?_,I.len⟩
 ·rw[qAk (hAu (hAn (Heap.lt_size q) w.ab))];exact I.base.free b o q n' hx
 ·have:=I.base.tups b xs q;rw[qAk (qAo this hn)];exact this
 ·have:=I.base.frzs b o u q;rw[qAk (qAo this hn)];exact this
 ·obtain⟨m,this⟩:=I.base.tbls b ps q;exact⟨m,by rw[qAk (qAo this hn)];exact this⟩
 ·rw[qAk (Ne.symm w.loc)];exact I.free
 ·rw[qAk (w.cel x c q)];exact I.freeC x c q
 ·obtain⟨h1,h2,h3⟩:=I.pin p hp;exact⟨h1,by rw[qAk (w.pin p hp)];exact h2,h3⟩
 ·by_cases hb:b=a
  ·subst hb;rw[upd_same]at q;cases q;exact⟨hz,its,n,hv,e⟩
  ·rw[qAk hb]at q;exact(I.hok b u q).stay (λc v _ r=>r) (λc r=>by rw[qAk (qAo r hn)];exact r) λc xs r=>by rw[qAk (qAo r hn)];exact r
theorem Inv.repinL(f:Array Value->Array Value)(I:Inv X aB σ H s)(w:Aw X aB a)(hn:H a=none)(e:s.heap.get? a=some (seqObj "list" its n)) :
  ∃n',Inv X aB σ H { s with heap:=s.heap.update a (Obj.mapSeq f) }/\(s.heap.update a (Obj.mapSeq f)).get? a=some (seqObj "list" (f its) n'):=by
 obtain⟨c,hc⟩:∃c,(s.heap.update a (Obj.mapSeq f)).get? a=some (seqObj "list" (f its) c):=⟨_,get?_update_seq e f⟩;refine⟨c,?_,hc⟩;exact I.turned (t':=s.toks) (it:=a) (λb o hb q=>(Heap.get?_update_other s.heap _ (Ne.symm hb)).trans q) hn w.loc (.inr w.ab) w.cel w.pin
theorem Inv.pinL(I:Inv X aB σ H s)(w:Aw X aB a)(hn:H a=none)(e:s.heap.get? a=some (seqObj "list" its n)) :
  Inv X ((a,seqObj "list" its n) :: aB) σ H s:=I.pins_of λp hp=>by
 rcases hAg.mp hp with rfl|hp
 ·exact⟨e,hn,w.loc,w.fs,λv q=>by cases q⟩
 ·exact I.pin p (hA8 _ hp)
theorem Inv.unpin(I:Inv X (q :: aB) σ H s):Inv X aB σ H s:=I.pins_of λp hp=>I.pin p (hA8 _ (hA4 _ hp))
theorem Aw.cons{aB:List (Addr×Obj)}{a b:Addr}{o:Obj}(w:Aw X aB a)(h:b≠a):Aw X ((b,o) :: aB) a:=⟨w.loc,w.ab,w.cel,λp hp=>by
 rcases hAd.mp hp with q|q
 ·exact w.pin p (hAe _ q)
 ·rcases hAg.mp q with rfl|q
  ·exact h
  ·exact w.pin p (hA8 _ q),w.fs⟩
theorem zCa
  (I:Inv X ((kS,seqObj "list" keys.toArray en) :: (a,seqObj "list" #[] e1) :: aB) σ H s) (hk:kS≠a) (Hk:H kS=none) (Ha:H a=none) (wa:Aw X aB a) (wk:Aw X aB kS)
  (hz:IntsAre keys kz) (hv:IntsAre vs ns) (hg:kz=ns.map g) (h64:ns.length<64)
  (h:∀(s':Shared) (ns':List Int),ns'.Perm ns->ns'.Pairwise (λx y=>g x<=g y)->Inv X aB σ (upd H a (.lst (ns'.map V.int))) s'->P (.done (.ret .none)) s') :
  wpAny (model X.prog X.w) A (ksk_end a false vs.toArray e1 (.ref kS) keys.toArray) P E' s:=by
 have lv:=hv.length;have lk:=hz.length;have lg:kz.length=ns.length:=by rw[hg,hA1]
 have hsz:keys.toArray.size=vs.length:=by rw[hAf];omega
 have hzs:(keys.toArray.zip vs.toArray).size=vs.length:=by rw[Array.size_zip,hsz,hAf,Nat.min_self]
 have hz':IntsAre keys.toArray.toList kz:=by simpa using hz
 have ok:s.heap.get? kS=some (seqObj "list" keys.toArray en):=(I.pin (kS,_) (hA8 _ (.head _))).1;have fin:∀st:SortSt,(arrOf st).Perm (keys.toArray.zip vs.toArray)->SortedTo (arrOf st) (arrOf st).size->failedOf st=none->wpAny (model X.prog X.w) A (ksk_tail a false e1 (.ref kS) st) P E' s:=by
  intro st hp hs hf;have hsz2:(arrOf st).size=vs.length:=by rw[hp.size_eq,hzs]
  obtain⟨ps,h1,h2,h3⟩:=ksk_out (b:=false) hz' hp hs;obtain⟨n1,I1,_⟩:=Inv.repinL (λ_=>(#[]:Array Value)) I.unpin (wk.cons (Ne.symm hk)) Hk ok;have oa1:(s.heap.update kS (Obj.mapSeq λ_=>(#[]:Array Value))).get? a=some (seqObj "list" #[] e1):=(I1.pin (a,_) (hA8 _ (.head _))).1;obtain⟨n2,I2,oa2⟩:=Inv.repinL (s:={ s with heap:=s.heap.update kS (Obj.mapSeq λ_=>(#[]:Array Value)) }) (λ_=>(arrOf st).map (·.2)) I1.unpin wa Ha oa1;unfold ksk_tail;try dsimp only
  refine hEh (hEr ok rfl ?_ (by rw[hsz,hEq];omega) (hAp _));refine hEh (wpAny_letGo ?_);refine hEh (hF8 oa1 rfl ?_);refine hEh (hEr oa1 rfl ?_ (hAp _) (by simp only[hCc,hFh,Array.size_map];rw[hsz2,hEq];omega));rw[hf];simp only[hFd,hCc,hFh];have hrel:∀p,p∈kz.zip vs->p.1=g (numOf p.2)/\p.2∈vs:=by
   rw[hg,<-hv.nums,hB6,List.zip_map_left];intro p hp;obtain⟨⟨u,v⟩,hq,rfl⟩:=hAb.mp hp;have h1:u=v/\u∈vs:=mem_zip_self hq;refine⟨?_,?_⟩
   ·show g (numOf u)=g (numOf v);rw[h1.1]
   ·show v∈vs;rw[<-h1.1];exact h1.2
  have hI:IntsAre (ps.map Prod.snd) ((ps.map Prod.snd).map numOf):=intsAre_map _ λv hv'=>by
   obtain⟨p,hp',rfl⟩:=hAb.mp hv';exact hv.all _ (hrel p (h1.mem_iff.mp hp')).2
  have hP:((ps.map Prod.snd).map numOf).Perm ns:=by
   have h1':=(h1.map Prod.snd).map numOf;rw[hEe (by omega),hv.nums]at h1';exact h1'
  have hO:((ps.map Prod.snd).map numOf).Pairwise (λx y=>g x<=g y):=by
   rw[hBb,hBb];refine h3.imp_of_mem λ{p q} hp' hq' hr=>?_
   have hr':p.1<=q.1:=hr;rw[(hrel p (h1.mem_iff.mp hp')).1,(hrel q (h1.mem_iff.mp hq')).1]at hr';exact hr'
  rw[<-h2]at hI hP hO;simp only[hCc,hFh]at hI hP hO;refine hEk (h _ _ hP hO ?_);exact I2.adoptL (its:=((arrOf st).map (·.2)).toList) (n:=n2) wa Ha (qJh hI) (by rw[hA1,hP.length_eq,hEq];omega) (by rw[Array.toArray_toList];exact oa2)
 unfold ksk_end;try dsimp only
 simp only[hCc,hFh];by_cases h2:vs.toArray.size<2
 ·rw[hEn h2,hEn h2];refine hEh (hEk ?_);rw[StateT.run_pure];refine hEh (hEk ?_);try dsimp only
  refine fin (SortSt.mk' general' (keys.toArray.zip vs.toArray) #[] 7 none) (hDv _) ?_ rfl;intro i j hij hj;have hj2:j<(keys.toArray.zip vs.toArray).size:=hj;rw[hzs]at hj2;rw[hAf]at h2;have:i=j:=by omega
  subst this;exact Int.le_refl _
 ·rw[hEm h2,hEm h2];rw[hAf]at h2;rw[ksk_kind hz' (by rw[hsz];omega)];refine hEh (hEk ?_);refine hEh (hEu (wpS_sortRuns (a₀:=keys.toArray.zip vs.toArray) (st:=SortSt.mk' oneType' (keys.toArray.zip vs.toArray) #[] 7 none)
   (Q:=λ_ st'=>(arrOf st').Perm (keys.toArray.zip vs.toArray)/\failedOf st'=none/\SortedTo (arrOf st') (keys.toArray.zip vs.toArray).size)
   (ksk_intKeys hz') ⟨hDv _,rfl,rfl,rfl⟩ (by rw[hzs];omega) (by rw[hzs];omega) λst' a1 a2 a3=>⟨a1,a2,a3⟩) ?_ λ_ _ e=>e)
  rintro⟨⟨⟩,st'⟩ s' ⟨rfl,hp,hf,hs⟩;try dsimp only
  exact fin _ hp (by rw[hp.size_eq];exact hs) hf
end
theorem qSa{P:Program}{w:World}{K:PySem.W.Frag}{mg:Str->Option Value}{base:Heap}{A:Around}{outer:List Env}{s:Shared}{H:Hp}{Q:VK}{f c':Addr}{scope:Scope}{name qual:Str}{params:Arguments}{body:Expr}{x:Str}{pm ctv:Value}{v:V}{u:Value}{t:TE}{k:Nat}
  (hr:Room k A) (e0:Env0 P w K mg base A outer s H) (ho:s.heap.get? f=some (PySem.W.kla_obj name qual params body scope [] pm c' ctv)) (hcd:s.heap.CodeRec (.ref c') qual) (S:FnScope [x] [x] scope)
  (hb:bindArgs (PySem.W.kla_fn name qual params body scope [] pm (.ref c') ctv) ⟨[u],[]⟩=pure [(x,u)]) (r:qDa v u)
  (ht:PE (qP4 CX0 P w K mg base [x] qual scope f (.ref c') A outer s H E0) body t) (hq:t (start [x] [v]) H Q) :
  codeAny (model P w) A (.call (.ref f) ⟨[u],[]⟩) (CR CX0 outer P w H s Q E0) s:=by
 have lim:s.heap.NoLimit:=e0.mod.nolimit.keeps λb o e=>(e0.bs b o e).1
 refine PySem.W.kla_callFunE hr.depth ho rfl S.co S.gen rfl hcd ?_;rw[hb];have hkind:∀y∈[(x,u)],scope.names.lookup y.1=some .local\/(scope.names.lookup y.1=some .cell/\((cellsFrom (s.heap.objs.size+1) scope.names []).lookup y.1).isSome=true):=λy hy=>by
  rw[hA9]at hy;subst hy;rcases S.par x hA6 with q|q
  ·exact .inl q
  ·exact .inr ⟨q,hE4 _ _ _ (.inl q)⟩
 refine hEk (wpAny_newFunctionEnv_cells S.kind hkind λenv he s1 y=>?_);subst he;refine⟨lim.keeps y.toInCall.keep,PySem.W.kla_codeExpr ?_⟩;have I:Inv (qP4 CX0 P w K mg base [x] qual scope f (.ref c') A outer s H E0) [] (start [x] [v]) H s1:=qLx S hr.hd e0 rfl (.cons r .nil) y;refine hEu (ht [] s1 (start [x] [v]) H Q I hq) (λu' s' ⟨v',H',J,rv,q⟩=>⟨v',H',J.os,J.bare,J.base,J.hok,rv,q⟩) λe s' hs=>hs
section
variable{X:Cx}
theorem qK2{aB:List (Addr×Obj)}{σ:St}{H1:Hp}{s1:Shared}{l f:Addr}{ns:List Int}{g:Int->Int}{Q:VK}(I1:Inv X aB σ H1 s1)(hq:SqL X.K H1 l (ns.map V.int))(h64:ns.length<64)
  (hcall:∀n∈ns,∀(t:Tok) (pins':List (Addr×Obj)) (s':Shared),(∀p∈aB,p∈pins')->Inv X pins' σ H1 s'->wpAny (model X.prog X.w) X.A.in1.in1 (call (.ref f) [.int n t]) (EP X pins' σ (λv H=>v = .int (g n)/\H=H1)) (λ_ _=>False) s')
  (q:∀(r:Addr) (ns':List Int),H1 r=none->ns'.Perm ns->ns'.Pairwise (λx y=>g x<=g y)->Q (.ref r) (upd H1 r (.lst (ns'.map V.int)))) :
  wpAny (model X.prog X.w) X.A (call (.builtin "sorted") [.ref l] [(Str.ofString "key",.ref f)]) (EP X aB σ Q) X.xe s1:=by
 obtain⟨its,rv,pl,hz⟩:=I1.list hq;have hi:=qIl rv;have hl:=hi.length;refine call_function_entry_kw hFu hFo hFp (ksk_s1 _ _) ?_;unfold Builtin.«sorted»;refine hEh (m:=checkCount "sorted" 1 1 _) (hEk ?_);refine hEh (hFw pl.isList ?_ (by rw[hEq];omega));refine hEh (hEy ?_ (by rw[hEq];omega));have hsz:((s1.heap.push (seqObj "list" #[] 0)).update s1.heap.objs.size (Obj.mapSeq (·++its.toArray))).objs.size=s1.heap.objs.size+1:=by
  rw[Heap.size_update,hFn]
 have keep:∀b o,s1.heap.get? b=some o->((s1.heap.push (seqObj "list" #[] 0)).update s1.heap.objs.size (Obj.mapSeq (·++its.toArray))).get? b=some o:=λb o q=>by
  have hlt:b<s1.heap.objs.size:=Heap.lt_size q;rw[Heap.get?_update_ne _ _ _ _ (hAu hlt),Heap.get?_push_ne _ _ _ (hAu hlt)];exact q
 have hoL:(((s1.heap.push (seqObj "list" #[] 0)).update s1.heap.objs.size (Obj.mapSeq (·++its.toArray))).push (seqObj "list" its.toArray 0)).get? (s1.heap.objs.size+1)=some (seqObj "list" its.toArray 0):=by
  rw[<-hsz];exact Heap.get?_push_size _ rfl
 have I2:Inv X aB σ H1 { s1 with heap:=((s1.heap.push (seqObj "list" #[] 0)).update s1.heap.objs.size (Obj.mapSeq (·++its.toArray))).push (seqObj "list" its.toArray 0) } :=
  I1.kept (t':=s1.toks) λb o q=>Heap.get?_push_of_some _ (keep b o q)
 show wpAny _ _ _ _ _ { s1 with heap:=((s1.heap.push (seqObj "list" #[] 0)).update s1.heap.objs.size (Obj.mapSeq (·++its.toArray))).push (seqObj "list" its.toArray 0) };rw[hsz];have nA:H1 (s1.heap.objs.size+1)=none:=I1.hok.fresh (hBk _);have wA:Aw X aB (s1.heap.objs.size+1):=I1.aw (hBk _);generalize s1.heap.objs.size+1=a at hoL nA wA;generalize hS:({ s1 with heap:=((s1.heap.push (seqObj "list" #[] 0)).update s1.heap.objs.size (Obj.mapSeq (·++its.toArray))).push (seqObj "list" its.toArray 0) }:Shared)=s2 at I2;have ho2:s2.heap.get? a=some (seqObj "list" its.toArray 0):=by rw[<-hS];exact hoL
 clear hoL hS;refine hEh (hEt (wpAny_call_entry_kw slot_list_sort ⟨_,ho2,rfl⟩ entry_list_sort ?body (ksk_l1 _ _)));show wpAny (model X.prog X.w) X.A.in1.in1 (Builtin.«list.sort» ⟨[.ref a],[(Str.ofString "key",.ref f)]⟩) _ _ _;rw[ksk_t1];unfold ksk_tree;have hi0:its.length<64:=by omega
 refine hEh (hFg ho2 rfl ?_);refine hEh (hEr ho2 rfl ?_ (by rw[hAf,hEq];omega) (hAp _));obtain⟨e1,I3,ho3⟩:=I2.repinL (λ_=>#[]) wA nA ho2;refine hEh (hF8 ho3 rfl ?_);refine hEh (hFe ?_ (by show its.length<=_;rw[hEq];omega));refine hEh (hEy ?_ (hAp _));refine hEt ?_;have I4:Inv X aB σ H1 { s2 with heap:=(vA 0) }:=I3.kept (t':=s2.toks) λb o q=>Heap.get?_push_of_some _ q
 have nK:=I4.fresh;have wK:=I4.aw (hAa _);have ho4:(vA 0).get? a=some (seqObj "list" #[] e1):=Heap.get?_push_of_some _ ho3;have nka:(vA 0).objs.size≠a:=hCm (Heap.lt_size ho4);have I5:Inv X aB σ H1 { s2 with heap:=(vA 0).push (seqObj "list" #[] 0) }:=I4.kept (t':=s2.toks) λb o q=>Heap.get?_push_of_some _ q
 have ho5:((vA 0).push (seqObj "list" #[] 0)).get? a=some (seqObj "list" #[] e1):=Heap.get?_push_of_some _ ho4;have hk5:((vA 0).push (seqObj "list" #[] 0)).get? (vA 0).objs.size=some (seqObj "list" #[] 0):=Heap.get?_push_size _ rfl;show wpAny _ _ (ksk_rest a (.ref f) false its.toArray e1 (.ref (vA 0).objs.size)) _ _ { s2 with heap:=(vA 0).push (seqObj "list" #[] 0) }
 change H1 (vA 0).objs.size=none at nK
 change Aw X aB (vA 0).objs.size at wK
 have I6:=(I5.pinL wA nA ho5).pinL (wK.cons (Ne.symm nka)) nK hk5;generalize (vA 0).objs.size=kS at nK wK nka I6 ⊢;generalize ({ s2 with heap:=(vA 0).push (seqObj "list" #[] 0) }:Shared)=s6 at I6 ⊢;unfold ksk_rest;refine hEh (hFz ?_)
 first
  |rw[List.forIn_toArray]
  |(rw[<-Array.forIn_toList];simp only[List.toList_toArray])
  |rw[<-Array.forIn_toList]
 refine hEh (ksk_fold (λi s'=>∃(kA:List Value) (e:Nat),Inv X ((kS,seqObj "list" kA.toArray e) :: (a,seqObj "list" #[] e1) :: aB) σ H1 s'/\IntsAre kA ((ns.map g).take i)) its 0 s6 ⟨[],0,I6,by simpa using IntsAre.nil⟩ ?step ?done)
 case step =>
  rintro j x s' hx ⟨kA,e,I',hk⟩;simp only[Nat.zero_add]at hk ⊢;have hj:j<its.length:=(hAm.mp hx).1;have hjn:j<ns.length:=by omega
  obtain⟨t,ht⟩:=hi.get j ns[j] (hA2 hjn);rw[hx]at ht;cases ht;have hz:kA.length<=its.length:=by
   have h1:=hk.length;rw[hAk,hA1]at h1;omega
  refine hEh (hFj (hEu (hcall ns[j] (hC4 hjn) t _ s' (λp hp=>hA4 _ (hA4 _ hp)) I') (λv s'' he=>?_) λ_ _ (hF:False)=>hF.elim));obtain⟨w,H',I8,rw',rfl,e8⟩:=he;rw[e8]at I8;obtain⟨t2,rfl⟩:=rw';try dsimp only
  have ok2:s''.heap.get? kS=some (seqObj "list" kA.toArray e):=(I8.pin (kS,_) (hA8 _ (.head _))).1;obtain⟨n3,I3,ok3⟩:=I8.unpin.repinL (·.push (.int (g ns[j]) t2)) (wK.cons (Ne.symm nka)) nK ok2;have ek:(ns.map g).take (j+1)=(ns.map g).take j++[g ns[j]]:=by rw[List.take_add_one,hAi,hA2 hjn];simp
  refine hEh (hEr ok2 rfl ?_ (by rw[hAf,hEq];omega) (hAw (Nat.le_of_eq (Array.size_push ..)) (by rw[hAf,hEq];omega)));have ea:kA.toArray.push (Value.int (g ns[j]) t2)=(kA++[Value.int (g ns[j]) t2]).toArray:=by simp
  rw[ea]at ok3;exact hEk ⟨rfl,kA++[.int (g ns[j]) t2],n3,I3.pinL (wK.cons (Ne.symm nka)) nK ok3,by rw[ek];exact ksk_snoc hk⟩
 case done =>
  rintro s' ⟨kA,e,I',hk⟩;have hk':IntsAre kA (ns.map g):=by
   have e3:(ns.map g).take (0+its.length)=ns.map g:=hA5 (by rw[hA1];omega);rw[e3]at hk;exact hk
  have ok2:s'.heap.get? kS=some (seqObj "list" kA.toArray e):=(I'.pin (kS,_) (hA8 _ (.head _))).1;try dsimp only
  refine hEh (hFg ok2 rfl ?_);refine zCa (g:=g) I' nka nK nA wA wK hk' hi rfl h64 λs7 ns' hp ho I7=>⟨_,rfl,?_⟩
  exact hEk ⟨_,rfl,⟨.ref a,_,I7,rfl,q a ns' nA hp ho⟩⟩
end
def ExtB(P:Addr)(H H':Hp):Prop:=∀b o,b≠P->H b=some o->H' b=some o
section
variable{X:Cx}{aB:List (Addr×Obj)}{σ:St}{H:Hp}{s:Shared}
theorem Inv.grown(I:Inv X aB σ H s)(hP:H P=some (.tbl ps))(hx:Heap.ExtBut P s.heap h')(hg:h'.get? P=some { cls:=.none,data:=.fields (ps++more) }) :
  Inv X aB σ (upd H P (.tbl (ps++more))) { s with heap:=h',toks:=tk }:=by
 have ne:∀b,H b=none->b≠P:=λb n z=>by rw[z,hP]at n;cases n
 refine I.step (g':=s.gens) (d':=s.drawn) (ch:=[]) (λ_ z=>nomatch z) (λb o _ _ _ e n=>hx b o (ne b n) e) (λb o _ _ _ e n=>⟨o.slots,hx b o (ne b n) e⟩) (λb o _ e n=>by rw[qAk (ne b n)];exact n) (λb o _ e=>?_)
  (λb xs q=>?_) (λb o u q=>?_) (λb qs q=>?_) (λm hm=>hm.extBut hx (ne _ I.free)) (λb u q=>?_) I.bare
 ·by_cases hb:b=P
  ·rw[hb];exact⟨_,hg⟩
  ·exact⟨o,hx b o hb e⟩
 ·have:b≠P:=λz=>by rw[z,hP]at q;cases q
  rw[qAk this];exact q
 ·have:b≠P:=λz=>by rw[z,hP]at q;cases q
  rw[qAk this];exact q
 ·by_cases hb:b=P
  ·subst hb;rw[hP]at q;cases q;exact⟨more,upd_same⟩
  ·exact⟨#[],by rw[qAk hb,q];simp⟩
 ·by_cases hb:b=P
  ·subst hb;rw[upd_same]at q;cases q;exact hg
  ·rw[qAk hb]at q;refine(I.hok b u q).stay (λc v hc r=>hx c v ?_ r) (λc r=>?_) λc xs r=>?_
   ·rcases hc with rfl|hc
    ·exact hb
    ·intro z;rw[z,hP]at hc;cases hc
   ·have:c≠P:=λz=>by rw[z,hP]at r;cases r
    rw[qAk this];exact r
   ·have:c≠P:=λz=>by rw[z,hP]at r;cases r
    rw[qAk this];exact r
end
structure LamAt(X:Cx)(c P:Addr):Prop where
 code:X.env.code = .ref c
 hd:PySem.W.CodeHd X.base c P
 bl:X.base.BuiltinsAt X.mg P
theorem qYd:∀ {l:List (Addr×β)} {a:Addr} {b:β},l.lookup a=some b->(a,b)∈l
 |[],_,_,h=>by cases h
 |(k,v) :: l,a,b,h=>by
  rw[hD9]at h;by_cases e:(a == k)=true
  ·rw[e]at h;cases h;rw[beq_iff_eq.mp e];exact hA6
  ·rw[hDb]at e;rw[e]at h;exact hA4 _ (qYd h)
theorem zC1{K:PySem.W.Frag}{h:Heap}{T:Addr}{ps:Array Value}(X:K.In h)(n:PySem.W.noTabs K=true)(e:h.get? T=some (PySem.W.tabObj ps)):K.lookup T=none:=by
 cases q:K.lookup T with
 |none=>rfl
 |some o =>
  have e2:=X T o q;rw[e]at e2;cases e2;have m:=qYd q;have:=hDa.mp n _ m;cases this
section
variable{P:Program}{w:World}{K:PySem.W.Frag}{mg:Str->Option Value}{base:Heap}
theorem Fun.okC{x qual:Str}{st:Stmt}{f:Addr}{fd:FuncData}{N ps:List Str}{k:Nat}{sp:Sp}(F:Fun K x qual st f fd)(S:FnScope N ps (qAc st))(len:∀vs H Q E,sp vs H Q E->vs.length=ps.length)
  (hbody:∀(A:Around) (outer:List Env) (s:Shared) (H:Hp) (vs:List V) (Q:VK) (E:XK),Room k (A.deeper (envOfC qual (qAc st) s.heap.objs.size f fd.code))->sp vs H Q E ->
   ∃t,PSs (qP4 CX0 P w K mg base N qual (qAc st) f fd.code A outer s H E).nox (qB7 st) t/\t { nx:=λ_ H'=>Q .non H',rt:=Q } (start N vs) H):v8 (k+1) f fd ps sp:=by
 obtain⟨oc,od,kV,doc,pm,an,cdv,ct,osl,rfl,lk,hcd⟩:=F.ex;refine zDi lk hcd S len λA outer s H vs Q E hr hsp=>?_
 obtain⟨t,h,q⟩:=hbody A outer s H vs Q E hr hsp;exact⟨t,h.nox,q⟩
theorem qT9{x qual:Str}{st:Stmt}{f c T:Addr}{fd:FuncData}(F:Fun K x qual st f fd)(a:PySem.W.nsIn K mainGlobals x=some (some (.ref f)))(h:PySem.W.tabIn K x=some (c,T)):fd.code = .ref c:=by
 obtain⟨oc,od,kV,doc,pm,an,cdv,ct,osl,rfl,lk,hcd⟩:=F.ex;unfold PySem.W.tabIn at h;rw[a]at h;dsimp only at h;rw[lk]at h;dsimp only at h;show cdv=_;cases cdv with
 |ref c2 =>
  dsimp only at h;split at h
  ·split at h
   ·cases h;rfl
   ·cases h
  ·cases h
 |_=>cases h
end
theorem qHt:isSubtype (.type "range_iterator") (.type "reversed")=pure false:=by rw[isSubtype_type];kernel_rfl
noncomputable def qOx(n:Nat):Obj:={ cls:=.type "range_iterator",data:=.fields #[rawInt ((n:Int)-1),rawInt n,rawInt (-1)] }
noncomputable def Itd(hi:Int)(n:Nat):It:=⟨λi _=>i<n,λi H x H'=>H'=H/\x = .int (hi-i),λi _=>n<=i⟩
theorem qMq{P:Program}{w:World}{K:PySem.W.Frag}{tg:Expr}(it:Addr)(hi:Int)(n:Nat):Turn P w K tg (Itd hi n) [it] it (λi h=>IsRangeIter h it (hi+(i:Nat)*(-1)) ((n:Int)-(i:Nat)) (-1)) where
 mem:=by simp
 obj:=λi h st b hb=>by
  have e:b=it:=by simpa using hb
  subst e;exact⟨_,st,λv z=>by
   have z':Data.fields _=Data.cell v:=z;cases z'⟩
 keep:=λi h h' st k=>k it (by simp) _ st
 item:=by
  intro X hP hw hK hc i aB s σ H E I hf st hg;subst hP hw hK;obtain⟨f0,f1,f2,f3,f4,f5⟩:=hf it (by simp);have W:=Walks.range (prog:=X.prog) (w:=X.w) (I.ok.hd hc) it hi (-1) n;refine W.item i s _ _ hg st λv h' tk hv st' kk=>?_
  obtain⟨t,rfl⟩:=hv;have I1:Inv X aB σ H { s with heap:=h',toks:=tk }:=I.turned (λb o hb e=>kk b o (by simpa using hb) e) f0 f1 f3 f4 f5;refine⟨_,rfl,qWt (s:={ s with heap:=h',toks:=tk }) (n:="range_iterator") st' rfl rfl (by decide) ⟨.int (hi-i),H,I1,⟨t,?_⟩,⟨rfl,rfl⟩,st',λb hb=>(hf b hb).1⟩⟩;congr 1;omega
 done:=by
  intro X hP hw hK hc i aB s σ H E I hf st hg;subst hP hw hK;obtain⟨f0,f1,f2,f3,f4,f5⟩:=hf it (by simp);exact wpAny_pyNext_range_end (I.ok.hd hc) st (by have:n<=i:=hg;omega) λh' eb=>⟨rfl,I.turned (t':=s.toks) (λb o hb e=>eb b o hb e) f0 f1 f3 f4 f5⟩
 self:=λ_ _ _ _ _ st h=>wpAny_pyIter_rangeiter st h
section
variable{X:Cx}{aB:List (Addr×Obj)}{σ:St}{H:Hp}{s:Shared}
theorem Inv.adoptX(I:Inv X aB σ H s)(w:Aw X aB a)(hn:H a=none)(hφ:qC1 X.prog X.w (upd H a (.ext φ)) s.heap a (.ext φ)):Inv X aB σ (upd H a (.ext φ)) s:=by
 refine⟨I.ok,I.os,I.bare,⟨I.base.keep,I.base.slot,λb o q n' hx=>?_,I.base.there,λb xs q=>?_,λb o u q=>?_,λb ps q=>?_⟩,I.loc,I.cell,?_,λx c q=>?_,λp hp=>?_,λb u q=>?_,I.len⟩
 ·rw[qAk (hAu (hAn (Heap.lt_size q) w.ab))];exact I.base.free b o q n' hx
 ·have:=I.base.tups b xs q;rw[qAk (qAo this hn)];exact this
 ·have:=I.base.frzs b o u q;rw[qAk (qAo this hn)];exact this
 ·obtain⟨m,this⟩:=I.base.tbls b ps q;exact⟨m,by rw[qAk (qAo this hn)];exact this⟩
 ·rw[qAk (Ne.symm w.loc)];exact I.free
 ·rw[qAk (w.cel x c q)];exact I.freeC x c q
 ·obtain⟨h1,h2,h3⟩:=I.pin p hp;exact⟨h1,by rw[qAk (w.pin p hp)];exact h2,h3⟩
 ·by_cases hb:b=a
  ·subst hb;rw[upd_same]at q;cases q;exact hφ
  ·rw[qAk hb]at q;exact(I.hok b u q).stay (λc v _ r=>r) (λc r=>by rw[qAk (qAo r hn)];exact r) λc xs r=>by rw[qAk (qAo r hn)];exact r
end
noncomputable def qW3(c:Addr)(q:Str):HO:=.ext λh=>h.CodeRec (.ref c) q
theorem qP6(r:h.CodeRec (.ref c) q):qC1 P w H h c (qW3 c q):=by
 obtain⟨c2,oc,vs,t,e,ho,hd,hv⟩:=id r;cases e;refine⟨r,⟨oc,ho⟩,λh1 h2 r1 k=>?_⟩;obtain⟨c3,oc',vs',t',e',ho',hd',hv'⟩:=r1;cases e';exact⟨c,oc',vs',t',rfl,k _ ho',hd',hv'⟩
def TabW(H:Hp)(P:Addr)(lpos:Pos)(q:Str):Prop:=H P=some (.tbl #[])\/∃c',H P=some (.tbl #[rawInt lpos.line,rawInt lpos.col,.ref c'])/\H c'=some (qW3 c' q)
theorem qY1(lpos:Pos)(v:Value):codeAmong lpos (#[rawInt lpos.line,rawInt lpos.col,v]:Array Value).toList=some v:=by
 show(if _ then _ else _)=_;simp
theorem TabW.ext(h:TabW H P lpos q)(e:∀b o,H b=some o->H' b=some o):TabW H' P lpos q:=by
 rcases h with h|⟨c,h1,h2⟩
 ·exact .inl (e _ _ h)
 ·exact .inr ⟨c,e _ _ h1,e _ _ h2⟩
section
variable{X:Cx}{k:Nat}
theorem zDz{K:PySem.W.Frag}{H H':Hp}{P l:Addr}{xs:List V}{ps:Array Value}(hP:H P=some (.tbl ps))(e:ExtB P H H')(hq:SqL K H l xs):SqL K H' l xs:=by
 rcases hq with (hq|⟨o,hq⟩)|hq
 ·exact .inl (.inl (e _ _ (λz=>by rw[z,hP]at hq;cases hq) hq))
 ·exact .inl (.inr ⟨o,e _ _ (λz=>by rw[z,hP]at hq;cases hq) hq⟩)
 ·exact .inr hq
end
end L2
namespace L2
open PySem PySem.Spec PyProof.Rows PySem.SeqAt
section
variable{X:Cx}
def zE5(D:PyData):Prop:=D.showable=true/\D.hasDict=false/\D.shown.length<=sizeLine/\D.depth<=16
def zEm(K:PySem.W.Frag):List V->Hp->VK->Prop:=λxs H Q=>∃x D,xs=[x]/\DR K H x D/\zE5 D/\Q (.str D.shown) H
theorem qMb(hr:Room k X.A):qB2 X (.builtin "repr") (zEm X.K):=by
 intro aB s σ H xs us Q I r h;obtain⟨x,D,rfl,hD,⟨h1,h2,h3,h4⟩,q⟩:=h;obtain⟨u,rfl,rx⟩:=qCy r;have hu:=hr.un;have key:∀ {a:Addr} {as:List Addr},Reads s.heap (.ref a) D as->wpAny (model X.prog X.w) X.A (call (.builtin "repr") [.ref a]) (EP X aB σ Q) X.xe s:=λrd =>
  repr_of_reads' rd h1 (PyData.noDict_hsm h2) hr.gd (by omega) (λ_ _ e=>e) (λh' u tk hk=>⟨.str D.shown,H,I.kept hk,⟨_,rfl⟩,q⟩) h3
 cases hD with
 |non=>cases rx;exact PySem.P.repr_of_none ⟨.str _,H,I.tok _,⟨_,rfl⟩,q⟩
 |bl b=>cases rx;exact PySem.P.repr_of_bool ⟨.str _,H,I.tok _,⟨_,rfl⟩,q⟩
 |int i =>
  obtain⟨t,rfl⟩:=rx;exact PySem.P.repr_of_int (hEl h1) ⟨.str _,H,I.tok _,⟨_,rfl⟩,q⟩
 |str z =>
  obtain⟨t,rfl⟩:=rx;exact PySem.P.repr_of_str ⟨.str _,H,I.tok _,⟨_,rfl⟩,q⟩ h3
 |lst hq hd =>
  obtain⟨as,rd⟩:=DR.reads I (.lst hq hd) rx;cases rx;exact key rd
 |tup hq hd =>
  obtain⟨as,rd⟩:=DR.reads I (.tup hq hd) rx;cases rx;exact key rd
end
def Rb(n:Nat)(D:PyData):Prop:=D.showable=true/\D.hasDict=false/\D.leavesShort 8=true/\D.bulk<=n
def RbA(n:Nat)(Ds:List PyData):Prop:=PyData.showableAll Ds=true/\PyData.hasDictAll Ds=false/\PyData.leavesShortAll 8 Ds=true/\PyData.bulkAll Ds<=n
theorem RbA.nil:RbA n []:=⟨rfl,rfl,rfl,hAp _⟩
theorem RbA.cons{m n:Nat}{d:PyData}{ds:List PyData}(h:Rb m d)(t:RbA n ds):RbA (m+1+n) (d :: ds):=by
 obtain⟨a1,a2,a3,a4⟩:=h;obtain⟨b1,b2,b3,b4⟩:=t;refine⟨?_,?_,?_,?_⟩
 ·show(d.showable && _)=true;rw[a1,b1];rfl
 ·show(d.hasDict || _)=false;rw[a2,b2];rfl
 ·show(d.leavesShort 8 && _)=true;rw[a3,b3];rfl
 ·show d.bulk+1+_<=_;omega
theorem RbA.lst{n:Nat}{ds:List PyData}(h:RbA n ds):Rb n (.list ds):=h
theorem RbA.tup{n:Nat}{ds:List PyData}(h:RbA n ds):Rb n (.tuple ds):=h
theorem RbA.all:∀ {ds:List PyData},(∀d∈ds,Rb m d)->RbA ((m+1)*ds.length) ds
 |[],_=>RbA.nil
 |d :: ds,h=>by
  have:=RbA.cons (h d hA6) (RbA.all λx hx=>h x (hA4 _ hx));rw[hCb,Nat.mul_succ,Nat.add_comm ((m+1)*ds.length)];exact this
theorem Rb.mono(h:Rb m d)(le:m<=n):Rb n d:=⟨h.1,h.2.1,h.2.2.1,hAw h.2.2.2 le⟩
end L2
namespace L2
open PySem PySem.Spec PyProof.Rows
section
variable{X:Cx}
theorem qUe(hc:X.calm=true):qB2 X (.builtin "max") (λxs H Q=>∃(p:Addr) (ns:List Int),xs=[.ref p]/\SqL X.K H p (ns.map V.int)/\ns≠[]/\∀M,M∈ns->(∀a,a∈ns->a<=M)->Q (.int M) H):=by
 intro aB s σ H xs us Q I r h;obtain⟨p,ns,rfl,hq,ne,q⟩:=h;obtain⟨u,rfl,rx⟩:=qCy r;cases rx;obtain⟨its,rv,pl,hz⟩:=I.list hq;obtain⟨ys,rfl,rfl⟩:=qTi rv;have e:(ys.map (λp=>Value.int p.1 p.2)).toArray=intItems ys.toArray:=by unfold intItems;simp
 have pl':=pl.isList;rw[e]at pl';have hsz:0<ys.toArray.size:=by
  rw[hAf];cases ys with
  |nil=>exact absurd rfl ne
  |cons _ _=>exact Nat.succ_pos _
 refine max_intList (I.ok.hd hc) pl' hsz λv h' tk hv hk=>?_
 obtain⟨t,rfl⟩:=intItems_at hv;obtain⟨h1,h2⟩:=argBest_gt (numAt ys.toArray) (ys.toArray.size-1);refine⟨.int _,H,I.kept (t':=tk) hk,⟨t,rfl⟩,q _ ?_ λa ha=>?_⟩
 ·rw[numAt_eq];exact getD_mem (by rw[hA1,hBy];exact hDo h1 (Nat.sub_lt hsz Nat.one_pos))
 ·obtain⟨j,hj,rfl⟩:=mem_getD (by simpa using ha:a∈ys.toArray.toList.map (·.1));rw[hA1,hBy]at hj;rw[<-numAt_eq];exact h2 j (Nat.le_sub_one_of_lt hj)
def qZu(K:PySem.W.Frag):V->List V->Hp->VK->Prop:=λx vs H Q=>∃(l:Addr) (ns:List Int) (z:Int),x = .ref l/\vs=[.int z]/\H l=some (.lst (ns.map V.int))/\z∈ns/\ns.length<1000/\∀j:Nat,ns[j]?=some z->Q (.int (j:Nat)) H
theorem qWy{ns:List Int}{z:Int}(h:z∈ns):∃j:Nat,ns[j]?=some z/\∀k,k<j->ns[k]?≠some z:=by
 induction ns with
 |nil=>cases h
 |cons a l ih =>
  by_cases e:a=z
  ·exact⟨0,by rw[e];rfl,λk hk=>by omega⟩
  ·obtain⟨j,h1,h2⟩:=ih ((hAg.mp h).resolve_left λw=>e w.symm);refine⟨j+1,h1,λk hk=>?_⟩;cases k with
   |zero=>intro w;exact e (hAq w)
   |succ k=>exact h2 k (by omega)
theorem qS3:MtR X "list.index" (qZu X.K):=by
 intro aB s σ H x vs v us Q I rx rv h;obtain⟨l,ss,z,rfl,rfl,hH,hmem,hsm,q⟩:=h;obtain⟨j,hj,hno⟩:=qWy hmem;have q:=q j hj;cases rx;obtain⟨u,rfl,ru⟩:=rv.one;obtain⟨t,rfl⟩:=ru;obtain⟨zz,its,n,r,hl,e⟩:=I.lstM hH;have at_:∀k (hk:k<its.length),∃y t',ss[k]?=some y/\its[k]=Value.int y t':=λk hk=>by
  have hk':k<ss.length:=by rw[hA1]at hl;omega
  obtain⟨w,hw,rw'⟩:=r.get (i:=k) (x:=V.int ss[k]) (by rw[hAi,hA2 hk'];rfl);obtain⟨t',rfl⟩:=rw';rw[hA2 hk]at hw;exact⟨ss[k],t',hA2 hk',hAq hw⟩
 have jl:j<its.length:=by
  have:=(hAm.mp hj).1;rw[hA1]at hl;omega
 refine hFc F.slot_list_index ⟨_,e,rfl⟩ F.entry_list_index (F.args_list_index_2 _ _)
  (MeetsSeq.list_index l its.toArray n (.int z t) (λy=>match y with | .int y _=>y == z|_=>false) (λy hy=>?_) j (by rw[hAf];exact jl) (by have:=(hAm.mp hj).1;omega) ?_ (λm hm hmj=>?_)) ⟨e,⟨.int _,H,I.tok _,⟨_,rfl⟩,q⟩⟩
 ·have hy':y∈its:=by simpa using hy
  obtain⟨k,hk,rfl⟩:=List.getElem_of_mem hy';obtain⟨y,t',_,e2⟩:=at_ k hk;rw[e2];exact MeetsSeq.EqGives.int y z t' t
 ·obtain⟨y,t',h1,e2⟩:=at_ j jl;have:its.toArray[j]=Value.int y t':=by simpa using e2
  rw[this];rw[hj]at h1;cases h1;exact hF9 _
 ·have hm':m<its.length:=by simpa using hm
  obtain⟨y,t',h1,e2⟩:=at_ m hm';have:its.toArray[m]=Value.int y t':=by simpa using e2
  rw[this];show(y == z)=false;rw[beq_eq_false_iff_ne];intro w;exact hno m hmj (by rw[h1,w])
end
end L2
namespace L2
open PySem PySem.Spec PyProof.Rows PySem.W
def qRf(K:PySem.W.Frag)(P:Addr)(lpos:Pos)(q:Str)(t:TA):TE:=λσ H Q=>t σ H λvs H1=>∃(p:Addr) (ns:List Int),vs=[.ref p]/\SqL K H1 p (ns.map V.int)/\ns.length<64/\TabW H1 P lpos q /\
 ∀(r:Addr) (ns':List Int) (H2:Hp),H1 r=none->ExtB P H1 H2->H2 r=some (.lst (ns'.map V.int))->ns'.Perm ns->TabW H2 P lpos q->Q (.ref r) H2
section
variable{X:Cx}{k:Nat}
theorem qNd{e body:Expr}{params:Arguments}{scope:Scope}{t:TA}{te:TE}{g:Int->Int}{p pos kp lpos:Pos}{x:Str}{c P:Addr}(L:LamAt X c P)(hr:Room (k+2) X.A)(hg:Gl X "sorted")(hm:X.mg "sorted"=none)(ha:PA X [e] t)
  (S:FnScope [x] [x] scope) (hcl:closureFor scope X.env=pure []) (hdef:defaultsOf params X.env=([],[]))
  (hb:∀(nm ql:Str) (pm cd ct u:Value),bindArgs { name:=nm,qualname:=ql,params,body:=.expr body,scope,globals:=mainGlobals,closure:=[],defaults:=.none,kwdefaults:=.none,doc:=.none,pyModule:=pm,annotations:=none,code:=cd,closureTuple:=ct,builtins:=builtinsNs } ⟨[u],[]⟩=pure [(x,u)])
  (hbody:∀(A:Around) (s:Shared) (H:Hp) (f:Addr) (cd:Value) (qual:Str),PE (qP4 CX0 X.prog X.w X.K X.mg X.base [x] qual scope f cd A X.stack s H E0) body te)
  (hte:∀(n:Int) (H:Hp) (Q:VK),Q (.int (g n)) H->te [some (.int n)] H Q)
  (he:backTo pos (starEach [e] X.env)=(false,eval e X.env) :: backTo pos (starEach [] X.env):=by rfl)
  (hplain:(backTo pos (starEach [e] X.env)).any (·.1)=false:=by rfl):PE X (.Call (.Name "sorted" p) [e] [⟨some "key",.Lambda params body scope lpos,kp⟩] pos) (qRf X.K P lpos (X.env.qual++"<lambda>") t):=by
 intro aB s σ H Q I h;refine hEz (qEw I hg hm (by decide +kernel:bootBuiltins "sorted"=some (.builtin "sorted")) ?_ (by decide) (by decide));refine PyProof.Rows.callWith_kw (thn (ha pos aB s σ H _ I h) λus s1 ⟨vs,H1,I1,r1,q1⟩=>?_) he hplain;obtain⟨l,ns,rfl,hq,h64,tw,q⟩:=q1;obtain⟨u,rfl,rx⟩:=qCy r1;cases rx;have hgs:s1.heap.Ns mainGlobals X.mg:=I1.ok.mod.glob.keeps I1.bk;obtain⟨bm,ob,b1,b2,b3,b4,b5,b6⟩:=L.bl;have rest:∀(c':Addr) (ctv:Value) (h':Heap) (tk:Nat) (H2:Hp),Inv X aB σ H2 { s1 with heap:=h'.push (PySem.W.kla_obj "<lambda>" (X.env.qual++"<lambda>") params body scope [] ((X.mg "__name__").getD .none) c' ctv),toks:=tk }->H2 c'=some (qW3 c' (X.env.qual++"<lambda>"))->H2 h'.objs.size=none->Aw X aB h'.objs.size->(∃ps,H1 P=some (.tbl ps))->ExtB P H1 H2->TabW H2 P lpos (X.env.qual++"<lambda>")->(∀r,H2 r=none->H1 r=none) ->
   wpAny (model X.prog X.w) X.A (call (.builtin "sorted") [.ref l] [(Str.ofString "key",.ref h'.objs.size)]) (EP X aB σ Q) X.xe { s1 with heap:=h'.push (PySem.W.kla_obj "<lambda>" (X.env.qual++"<lambda>") params body scope [] ((X.mg "__name__").getD .none) c' ctv),toks:=tk }:=by
  intro c' ctv h' tk H2 I2 hc' nF wF ⟨ps,hP⟩ eB tw2 back;have I3:Inv X ((h'.objs.size,PySem.W.kla_obj "<lambda>" (X.env.qual++"<lambda>") params body scope [] ((X.mg "__name__").getD .none) c' ctv) :: aB) σ H2
    { s1 with heap:=h'.push (PySem.W.kla_obj "<lambda>" (X.env.qual++"<lambda>") params body scope [] ((X.mg "__name__").getD .none) c' ctv),toks:=tk }:=I2.pins_of λp hp=>by
   rcases hAg.mp hp with rfl|hp
   ·exact⟨Heap.get?_push_size _ rfl,nF,wF.loc,wF.fs,λv z=>by cases z⟩
   ·exact I2.pin p (hA8 _ hp)
  refine hEu (qK2 (g:=g) (Q:=Q) I3 (zDz hP eB hq) h64 (λn hn t pins' s' sub I'=>?_) (λr ns' nr pm _=>?_)) (λv s' ⟨y,H',J,ry,qq⟩=>⟨y,H',J.unpin,ry,qq⟩) λ_ _ z=>z
  ·have ho:=(I'.pin _ (hA8 _ (sub _ (.head _)))).1;have hcr:s'.heap.CodeRec (.ref c') (X.env.qual++"<lambda>"):=(I'.hok c' _ hc').1;refine wpAny_call (hFf (qSa (v:=.int n) (t:=te) (Q:=λv H=>v = .int (g n)/\H=H2) (Room.in1 (Room.in1 hr)) I'.env0.in1.in1 ho hcr S (hb _ _ _ _ _ _) ⟨t,rfl⟩ (hbody _ _ _ _ _ _) (hte n H2 _ ⟨rfl,rfl⟩)) λr s'' hq=>?_);cases r with
   |error e=>exact False.elim hq
   |ok fl =>
    cases fl with
    |ret u=>exact I'.after hq
    |next=>exact False.elim hq
    |brk=>exact False.elim hq
    |cont=>exact False.elim hq
  ·refine q r ns' _ (back r nr) (λb o hb e=>?_) upd_same pm (tw2.ext λb o e=>by rw[qAk (qAo e nr)];exact e);have:=eB b o hb e;rw[qAk (qAo this nr)];exact this
 rcases tw with hP|⟨c',hP,hc'⟩
 ·have hPh:s1.heap.get? P=some (PySem.W.tabObj #[]):=I1.hok P _ hP;have hgP:mainGlobals≠P:=λz=>by
   obtain⟨o,es,ep,e1,hd,_⟩:=hgs;rw[z,hPh]at e1;cases e1;cases hd
  refine hDq (PySem.W.kla_eval hdef (PySem.W.kla_makeFunction (mg:=X.mg) hcl I1.ok.glob hgs L.code (L.hd.keeps I1.bk) hPh trivial rfl hgP ⟨bm,ob,b1,b2,b3,b4,I1.bk _ _ b5,b6⟩ λc' ctv h' tk hx hge hlt hrec htb=>hDt ?_));have hsz:s1.heap.objs.size<=h'.objs.size:=hB5 (hDo hge hlt);have I2:=I1.grown (more:=#[rawInt lpos.line,rawInt lpos.col,.ref c']) (tk:=tk) (h':=h'.push (PySem.W.kla_obj "<lambda>" (X.env.qual++"<lambda>") params body scope [] ((X.mg "__name__").getD .none) c' ctv)) hP (λb o hb e=>Heap.get?_push_of_some _ (hx b o hb e)) (Heap.get?_push_of_some _ htb);have hPlt:P<s1.heap.objs.size:=Heap.lt_size hPh;have nC1:H1 c'=none:=I1.hok.fresh hge;have nC:upd H1 P (.tbl (#[]++#[rawInt lpos.line,rawInt lpos.col,.ref c'])) c'=none:=by
   rw[qAk (hCm (hAn hPlt hge))];exact nC1
  have wC:Aw X aB c':=I1.aw hge;have I3:=I2.adoptX wC nC (qP6 (hrec.keeps λb o e=>Heap.get?_push_of_some _ e));have nF1:H1 h'.objs.size=none:=I1.hok.fresh hsz;refine rest c' ctv h' tk _ I3 upd_same ?_ (I1.aw hsz) ⟨_,hP⟩ (λb o hb e=>?_) (.inr ⟨c',?_,upd_same⟩) λr hr0=>?_
  ·rw[qAk (hCm hlt),qAk (hCm (hAn hPlt hsz))];exact nF1
  ·rw[qAk (qAo e nC1),qAk hb];exact e
  ·rw[qAk (hAu (hAn hPlt hge)),upd_same];simp
  ·by_cases h1:r=c'
   ·rw[h1];exact nC1
   ·rw[qAk h1]at hr0;by_cases h2:r=P
    ·rw[h2,upd_same]at hr0;cases hr0
    ·rw[qAk h2]at hr0;exact hr0
 ·have hPh:s1.heap.get? P=some (PySem.W.tabObj #[rawInt lpos.line,rawInt lpos.col,.ref c']):=I1.hok P _ hP;refine hDq (PySem.W.kla_eval hdef (PySem.W.kla_makeFunctionHit (mg:=X.mg) hcl I1.ok.glob hgs L.code (L.hd.keeps I1.bk) hPh ?tri (qY1 lpos _) ⟨bm,ob,b1,b2,b3,b4,I1.bk _ _ b5,b6⟩ λctv h' tk hk hsz=>hDt ?_))
  case tri=>trivial
  have I2:Inv X aB σ H1 { s1 with heap:=h'.push (PySem.W.kla_obj "<lambda>" (X.env.qual++"<lambda>") params body scope [] ((X.mg "__name__").getD .none) c' ctv),toks:=tk }:=I1.kept (t':=tk) λb o e=>Heap.get?_push_of_some _ (hk b o e)
  exact rest c' ctv h' tk H1 I2 hc' (I1.hok.fresh hsz) (I1.aw hsz) ⟨_,hP⟩ (λb o _ e=>e) (.inr ⟨c',hP,hc'⟩) λr z=>z
end
end L2
namespace My
open PySem L2
noncomputable def sumF(N:List Nat):List Nat:=N.foldl (λS x=>S++S.map λz=>z^^^x) [0]
theorem qDj(N:List Nat)(x:Nat):sumF (N++[x])=sumF N++(sumF N).map λz=>z^^^x:=by unfold sumF;rw[hBm];rfl
theorem qDt:Spn (l++[x]) z↔Spn l z\/Spn l (z^^^x):=by
 constructor
 ·intro h
  induction h with
  |zero=>exact .inl .zero
  |add hm _ ih =>
   rename_i m y _;rcases hAd.mp hm with w|w
   ·rcases ih with i|i
    ·exact .inl (.add w i)
    ·refine .inr ?_;have:=Spn.add w i;rw[<-hBu]at this;exact this
   ·rw[hA9]at w;subst w;rcases ih with i|i
    ·refine .inr ?_;rw[hDf m y,qA1];exact i
    ·refine .inl ?_;rw[hDf m y];exact i
 ·have up:∀ {y},Spn l y->Spn (l++[x]) y:=λhy=>hy.mono λu hu=>.mem (hAe _ hu)
  rintro(h|h)
  ·exact up h
  ·have:=(up h).xor (Spn.mem (by simp:x∈l++[x]));rw[qA1]at this;exact this
theorem qBe(N:List Nat):∀z,z∈sumF N↔Spn N z:=by
 refine qFh (P:=λN=>∀z,z∈sumF N↔Spn N z) (λz=>?_) (λl x ih z=>?_) N
 ·constructor
  ·intro h;have:z=0:=by simpa [sumF] using h
   rw[this];exact .zero
  ·intro h;have:z=0:=by
    cases h with
    |zero=>rfl
    |add hm _=>cases hm
   rw[this];simp[sumF]
 ·rw[qDj,hAd,qDt,ih,hAb];refine or_congr Iff.rfl ⟨λ⟨y,hy,e⟩=>?_,λh=>⟨z^^^x,(ih _).mpr h,qA1 z x⟩⟩;rw[<-e,qA1];exact(ih y).mp hy
theorem qCz(N:List Nat):(sumF N).length=2^N.length:=by
 refine qFh (P:=λN=>(sumF N).length=2^N.length) rfl (λl x ih=>?_) N;rw[qDj,hAc,hA1,ih,hAc];show _=2^(l.length+1);rw[hDp];omega
theorem zBq(z k:Nat):(decide (V.int (Builtin.bitAnd (z:Int) (Builtin.bitNot (k:Int)))=V.int 0))=decide (z&&&k=z):=by
 have nn:¬(0:Int)<=Builtin.bitNot (k:Int):=by unfold Builtin.bitNot;omega
 have e:Builtin.bitAnd (z:Int) (Builtin.bitNot (k:Int))=(z:Int)-((z&&&k:Nat):Int):=by
  unfold Builtin.bitAnd;rw[hEi (show(0:Int)<=(z:Int) by omega),hEj nn];have x:∀x:Int,Builtin.bitNot (Builtin.bitNot x)=x:=λx=>by unfold Builtin.bitNot;omega
  show(z:Int)-(((z:Int).toNat&&&(Builtin.bitNot (Builtin.bitNot (k:Int))).toNat:Nat):Int)=_;rw[x,hB8,hB8]
 rw[e];refine decide_eq_decide.mpr ?_;rw[V.int.injEq];have:=Nat.and_le_left (n:=z) (m:=k);omega
def qXj:Sp:=λvs H Q _=>∃(p:Addr) (N:List Nat),vs=[.ref p]/\LsN H p N/\N.length<=12/\∀r H',Ext H H'->H r=none->LsN H' r (sumF N)->Q (.ref r) H'
noncomputable def insF(N:List Nat)(k:Nat):List Nat:=redL ((sumF N).filter λz=>decide (z&&&k=z))
def qRv:Sp:=λvs H Q _=>∃(p:Addr) (N:List Nat) (k:Nat),vs=[.ref p,iV k]/\LsN H p N/\N.length<=12/\∀r H',Ext H H'->H r=none->LsN H' r (insF N k)->Q (.ref r) H'
noncomputable def lpB:Pos:=match (qB7 qG6).getD 2 (.Pass ⟨0,0,0,0⟩) with
 |.Return (some (.Call _ _ [⟨_,.Lambda _ _ _ p,_⟩] _)) _=>p
 |_=>⟨0,0,0,0⟩
noncomputable abbrev qB:Str:=("_law_blocks" : Str)++".<locals>."++"<lambda>"
theorem Ext.toB(e:Ext H H'):ExtB P H H':=λb o _ h=>e b o h
theorem _root_.L2.ExtB.trans(a:ExtB P H H1)(b:ExtB P H1 H2):ExtB P H H2:=λc o n h=>b c o n (a c o n h)
theorem TabW.extE(h:TabW H P lpos q)(e:Ext H H'):TabW H' P lpos q:=h.ext e
theorem TabW.tb(h:TabW H P lpos q):∃ps,H P=some (.tbl ps):=by
 rcases h with h|⟨c,h,_⟩
 ·exact⟨_,h⟩
 ·exact⟨_,h⟩
def qRw(Pt:Addr):Sp:=λvs H Q _=>∃(p:Addr) (N:List Nat) (m:Nat),vs=[.ref p,iV m]/\LsN H p N/\N.length<=12/\m<=12/\TabW H Pt lpB qB/\∀(r:Addr) (hs:List Nat) (H':Hp),ExtB Pt H H'->H r=none->LsN H' r hs->hs.Perm (blF N m)->TabW H' Pt lpB qB->Q (.ref r) H'
def zEq:V->V->Hp->VK->Prop:=rI0 λi j=>.int (Builtin.bitAnd i j)
def zEn:V->Hp->VK->Prop:=rU λi=>.int (-i)
noncomputable def zFe(n:Int):Int:=Builtin.bitAnd n (-n)
theorem zA2(n:Int)(H:Hp)(Q:VK)(q:Q (.int (zFe n)) H):tOp zEq (qRe 0) (tUn zEn (qRe 0)) [some (.int n)] H Q:=⟨_,rfl,_,rfl,n,rfl,_,_,rfl,rfl,q⟩
theorem qWk(p:ns.Perm (ms.map λn:Nat=>(n:Int))):∃hs:List Nat,ns=hs.map (λn:Nat=>(n:Int))/\hs.Perm ms:=by
 refine⟨ns.map Int.toNat,?_,?_⟩
 ·rw[hB6];refine(hDr ns).symm.trans (hBs λx hx=>?_);obtain⟨n,_,rfl⟩:=hAb.mp (p.mem_iff.mp hx);rfl
 ·have:=p.map Int.toNat;rw[hB6]at this;refine this.trans (hDg ?_);exact(hBs λx _=>(hB8 x)).trans (hDr ms)
theorem zE3(z n:Nat):(V.int (Builtin.bitAnd (z:Int) (n:Int))=V.int 0)↔z&&&n=0:=by
 rw[qCp];exact⟨λh=>by have:=V.int.inj h;omega,λh=>by rw[h];rfl⟩
theorem qYy{z n:Nat}{c:Bool}(h:(!decide (V.int (Builtin.bitAnd (z:Int) (n:Int))=V.int 0))=c):(!decide (z&&&n=0))=c:=by
 rw[<-h,decide_eq_decide.mpr (zE3 z n)]
theorem qYz{z n:Nat}{c:Bool}(h:decide (V.int (Builtin.bitAnd (z:Int) (n:Int))=V.int 0)=c):decide (z&&&n=0)=c:=by
 rw[<-h,decide_eq_decide.mpr (zE3 z n)]
theorem qUn(hs:List Nat)(n:Nat):(blS hs n).length<=hs.length+1:=by
 unfold blS;rw[hAc];exact Nat.add_le_add_right (hAs _ _) 1
section
variable{P:Program}{w:World}{K:PySem.W.Frag}{mg:Str->Option Value}{base:Heap}{f f1 f2 c Pt:Addr}{fd fd1 fd2:FuncData}
noncomputable abbrev lsN:List Str:=["_law_base","_law_found","_law_row_here"]
theorem qOk:FnScope lsN ["_law_base"] (qAc qVl):=fsk
theorem zAb(F:Fun K "_law_sums" "_law_sums" qVl f fd):v8 1 f fd ["_law_base"] qXj:=by
 refine F.okA qOk λcdv A outer s H vs Q E hr h=>?_
 obtain⟨p,N,rfl,hN,lN,q⟩:=h;refine⟨_,qAa (v4 1 qOk (qA2 (pa1 qAb))) (qAa (qBf PassesOwn.never rfl (qAp (pv 0)) (v7 2 qOk) (qAd (v4 1 qOk (qAg qB9 (pv 1) (qA7 (N:=lsN) (sc:=qAc qVl) (N':=["_law_number","_law_row_here"]) (sub:=[none,some 2]) (qAp (pv 1)) (λC s H fp=>⟨qAw,(qAg qDn (pv 0) (pv 1))⟩)))))) (qAd (qAt (pv 1)))),?_⟩;refine⟨(by show 1<=sizeLine;decide),λs0 hs0=>?_⟩;have X3:=Ext.new hs0 (.lst [V.int 0]);refine⟨_,rfl,p,rfl,⟨_,SqL.of (X3 _ _ hN)⟩,?_⟩;refine qBm (xs:=N.map iV) (λi σ H'=>∃(ps:Addr) (x2:Option V),σ=[some (.ref p),some (.ref ps),x2]/\Ext H H'/\H ps=none/\LsN H' ps (sumF (N.take i))) ⟨s0,none,rfl,X3,hs0,upd_same⟩ (λi σ H' _ h=>by obtain⟨_,_,_,e,_⟩:=h;exact SqL.of (e _ _ hN)) ?_ ?_
 ·rintro i v σ H' hx ⟨ps,x2,rfl,e,ps0,hps⟩;obtain⟨y,rfl,hy⟩:=qCj hx;have hi:=qAu hy;have lS:(sumF (N.take i)).length<=2048:=by
   rw[qCz,hAk];exact hAw (hBf (by decide) (show min i N.length<=11 by omega)) (by decide)
  refine⟨_,rfl,_,rfl,ps,rfl,⟨_,SqL.of hps⟩,?_⟩;refine qAq (xs:=(sumF (N.take i)).map iV) (λj ys H2=>H2=H'/\ys=(((sumF (N.take i)).take j).map λz=>z^^^y).map iV) ⟨rfl,rfl⟩ (λj ys H2 _ h=>by rw[h.1];exact SqL.of hps) ?_ ?_
  ·rintro j v ys H3 hx3 ⟨rfl,rfl⟩;obtain⟨z,rfl,hz⟩:=qCj hx3;have hj:=qAu hz;refine⟨sls,iteT (B:=False) ⟨_,rfl,_,rfl,_,_,rfl,rfl,?_⟩⟩;refine⟨by rw[hA1,hA1,hAk];exact qDl (by omega),nxt (qAu hx3) ⟨rfl,?_⟩⟩;rw[qAl hz,hA3,hA3];show _++[V.int (Builtin.bitXor (z:Int) (y:Int))]=_;rw[qCh];rfl
  ·rintro ys H3 ⟨rfl,rfl⟩ l hl;rw[hA1,hA5 (hAa _)];have Xl:=Ext.new hl (.lst (((sumF (N.take i)).map λz=>z^^^y).map iV));refine⟨ps,l,_,_,rfl,rfl,Xl _ _ hps,upd_same,by rw[hA1,hA1,hA1];exact hB5 (qDl (by omega)),λl3 hl3=>?_⟩;have X4:=Ext.new hl3 (.lst ((sumF (N.take i)).map iV++((sumF (N.take i)).map λz=>z^^^y).map iV));refine⟨l3,_,rfl,(e.trans Xl).trans X4,(e.trans Xl).none hl3,?_⟩;unfold LsN;rw[upd_same,qAl hy,qDj,hA3]
 rintro σ H3 ⟨ps,x2,rfl,e3,ps0,hps⟩;rw[hA1,hA5 (hAa _)]at hps;exact⟨_,rfl,q ps H3 e3 ps0 hps⟩
noncomputable abbrev liN:List Str:=["_law_base","_law_mask_here"]
theorem zCf:FnScope liN ["_law_base","_law_mask_here"] (qAc qVr):=fsk
theorem zAi(F:Fun K "_law_inside" "_law_inside" qVr f fd)(G1:v9 1 f1 fd1 ["_law_numbers"] qI4 "_law_reduced")
  (G2:v9 1 f2 fd2 ["_law_base"] qXj "_law_sums"):v8 2 f fd ["_law_base","_law_mask_here"] qRv:=by
 refine F.okA zCf λcdv A outer s H vs Q E hr1 h=>?_
 obtain⟨p,N,k,rfl,hN,lN,q⟩:=h;refine⟨_,qAd (qAt (qAv G1 hr1 rfl .nil pass0 (pa1 (qA7 (N:=liN) (sc:=qAc qVr) (N':=["_law_number","_law_mask_here"]) (sub:=[none,some 1]) (qAp (qAv G2 hr1 rfl .nil pass0 (pa1 (pv 0)))) (λC s H fp=>⟨(qBb (qAn qB4 (qAg qBu (pv 0) (qLg zBy (pv 1))) qAb (nomark _))),(pv 0)⟩))))),?_⟩;refine⟨_,rfl,p,N,rfl,hN,by omega,λs1 H1 e1 _ hs1=>?_⟩;have lS:(sumF N).length<=4096:=by
  rw[qCz];exact hAw (hBf (by decide) lN) (by decide)
 refine⟨s1,rfl,⟨_,SqL.of hs1⟩,?_⟩;refine qBd (λz=>decide (z&&&k=z)) (λz=>z) hs1 (by omega) (λz hz C B cc bb=>⟨sls,?_⟩) ?_
 ·refine⟨_,rfl,_,rfl,_,rfl,_,_,rfl,rfl,rfl,_,rfl,?_⟩;rw[zBq];cases hp:decide (z&&&k=z) with
  |true=>exact⟨_,rfl,cc hp⟩
  |false=>exact bb hp
 ·intro l hl;rw[hDr ];have X2:=Ext.new hl (.lst (((sumF N).filter λz=>decide (z&&&k=z)).map iV));obtain⟨m1,lt1⟩:=qNz ((sumF N).filter λz=>decide (z&&&k=z));refine⟨l,_,m1,rfl,upd_same,hAw (hAs _ _) (by omega),lt1,λr H3 e3 r0 hr=>q r H3 (e1.trans (X2.trans e3)) ((e1.trans X2).none r0) hr⟩
noncomputable abbrev lbN:List Str:=["_law_base","_law_many","_law_heaps","_law_number","_law_mine"]
theorem qK8:FnScope lbN ["_law_base","_law_many"] (qAc qG6):=fsk
theorem zAp(F:Fun K "_law_blocks" "_law_blocks" qG6 f fd)(hcode:fd.code = .ref c)(hC:PySem.W.CodeHd base c Pt)(hB:base.BuiltinsAt mg Pt)(mr:mg "range"=none)(msu:mg "sum"=none)(mso:mg "sorted"=none):v8 3 f fd ["_law_base","_law_many"] (qRw Pt):=by
 refine F.okC qK8 (λvs H Q E h=>?_) (λA outer s H vs Q E hr2 h=>?_)
 ·obtain⟨p,N,m,rfl,_⟩:=h;rfl
 obtain⟨p,N,m,rfl,hN,lN,m12,tw,q⟩:=h;have L:LamAt ((qP4 CX0 P w K mg base lbN "_law_blocks" (qAc qG6) f fd.code A outer s H E).nox) c Pt:=⟨hcode,hC,hB⟩;refine⟨_,qAa (qD0 (i:=2) (N:=lbN) (sc:=qAc qG6) (N':=["_law_k"]) (sub:=[none]) (qBg rfl mr (pa1 (pv 1))) (λC s H fp=>⟨qAw,(qAg qCe qAb (pv 0))⟩) qK8.nd rfl (Or.inl rfl)) (qAa (qBf PassesOwn.never rfl (qAp (qA7 (N:=lbN) (sc:=qAc qG6) (N':=["_law_row_here"]) (sub:=[none]) (qAp (pv 0)) (λC s H fp=>⟨(qBb (qAn qFp (pv 0) qAb (nomark _))),(pv 0)⟩))) (v7 3 qK8) (qAa (qD0 (i:=4) (N:=lbN) (sc:=qAc qG6) (N':=["_law_heap","_law_number"]) (sub:=[none,some 3]) (qAp (pv 2)) (λC s H fp=>⟨(qBb (qAn qFp (qAg qBu (pv 0) (pv 1)) qAb (nomark _))),(pv 0)⟩) qK8.nd rfl (Or.inl rfl)) (qAd (v4 2 qK8 (qAg qB9 (qA7 (N:=lbN) (sc:=qAc qG6) (N':=["_law_heap","_law_number"]) (sub:=[none,some 3]) (qAp (pv 2)) (λC s H fp=>⟨(qBb (qAn qB4 (qAg qBu (pv 0) (pv 1)) qAb (nomark _))),(pv 0)⟩)) (qA2 (pa1 (qAh (qC6 rfl) rfl msu qC8 (pa1 (pv 4)))))))))) (qAd (qAt (qNd (k:=0) (x:="_law_heap") (g:=zFe) (te:=tOp zEq (qRe 0) (tUn zEn (qRe 0))) L hr2 rfl mso (pa1 (pv 2)) ⟨rfl,rfl,rfl,by decide +kernel,rfl,by decide +kernel,by decide +kernel⟩ rfl rfl (λ_ _ _ _ _ _=>rfl) (λ_ _ _ _ _ _=>(show PE _ _ (tOp zEq (qRe 0) (tUn zEn (qRe 0))) from qAg qBu (pv 0) (qLg qHq (pv 0)))) zA2)))),?_⟩;refine⟨_,rfl,(m:Int),rfl,by omega,by omega,?_⟩;refine qDr (lo:=0) (n:=m) (λi ys H2=>H2=H/\ys=((List.range i).map λk=>2^k).map iV) ⟨rfl,rfl⟩ ?_ ?_
 ·rintro i ys H2 hi ⟨rfl,rfl⟩;refine⟨sls,iteT (B:=False) ⟨_,rfl,_,_,rfl,rfl,⟨by omega,by omega,by decide⟩,?_⟩⟩;refine⟨by rw[hA1,hA1,hB0];exact qAf (by omega),nxt hi ⟨rfl,?_⟩⟩;rw[hCf,hA3,hA3];show _++[V.int (1*2^(0+(i:Int)).toNat)]=_;rw[show(0+(i:Int))=((i:Nat):Int) by omega,qBr];rfl
 rintro ys H2 ⟨rfl,rfl⟩ h0 hh0;have X0:=Ext.new hh0 (.lst (((List.range m).map λk=>2^k).map iV));refine⟨_,rfl,p,rfl,⟨_,SqL.of (X0 _ _ hN)⟩,?_⟩;refine qBd (λz=>!decide (z=0)) (λz=>z) (X0 _ _ hN) (by omega) (λz hz C B cc bb=>⟨sls,?_⟩) ?_
 ·refine⟨_,rfl,rfl,_,rfl,?_⟩;cases hp:(!decide (z=0)) with
  |true =>
   have:(!decide (V.int (z:Int)=V.int 0))=true:=by simp at hp ⊢;exact hp
   rw[hEn this];exact⟨_,rfl,cc hp⟩
  |false =>
   have:¬(!decide (V.int (z:Int)=V.int 0))=true:=by simp at hp ⊢;exact hp
   rw[hEm this];exact bb hp
 intro l0 hl0;rw[hDr];have X1:=Ext.new hl0 (.lst ((N.filter λz=>!decide (z=0)).map iV));refine⟨l0,rfl,⟨_,SqL.of upd_same⟩,?_⟩;have hL:LsN (upd (upd H2 h0 (.lst (((List.range m).map λk=>2^k).map iV))) l0 (.lst ((N.filter λz=>!decide (z=0)).map iV))) l0 (N.filter λz=>!decide (z=0)):=upd_same;have lf:(N.filter λz=>!decide (z=0)).length<=12:=hAw (hAs _ _) lN;have hh:LsN (upd (upd H2 h0 (.lst (((List.range m).map λk=>2^k).map iV))) l0 (.lst ((N.filter λz=>!decide (z=0)).map iV))) h0 ((List.range m).map λk=>2^k):=X1 _ _ upd_same;have E1:=X0.trans X1;revert hL hh E1;generalize upd (upd H2 h0 (.lst (((List.range m).map λk=>2^k).map iV))) l0 (.lst ((N.filter λz=>!decide (z=0)).map iV))=H1;intro hL hh E1;refine qBm (xs:=(N.filter λz=>!decide (z=0)).map iV) (λi σ H'=>∃(ph:Addr) (x3 x4:Option V),σ=[some (.ref p),some (iV m),some (.ref ph),x3,x4]/\Ext H1 H'/\H2 ph=none/\LsN H' ph (((N.filter λz=>!decide (z=0)).take i).foldl blS ((List.range m).map λk=>2^k))/\(((N.filter λz=>!decide (z=0)).take i).foldl blS ((List.range m).map λk=>2^k)).length<=12+i) ⟨h0,none,none,rfl,Ext.refl _,hh0,hh,by rw[List.take_zero];show((List.range m).map _).length<=_;rw[hA1,hB0];omega⟩ (λi σ H' _ h=>by obtain⟨_,_,_,_,e,_⟩:=h;exact SqL.of (e _ _ hL)) ?_ ?_
 ·rintro i v σ H' hx ⟨ph,x3,x4,rfl,e,ph0,hph,lh⟩;obtain⟨n,rfl,hn⟩:=qCj hx;have hi:=qAu hn;have hsn:((N.filter λz=>!decide (z=0)).take (i+1)).foldl blS ((List.range m).map λk=>2^k)=blS (((N.filter λz=>!decide (z=0)).take i).foldl blS ((List.range m).map λk=>2^k)) n:=by
   rw[qAl hn,hBm];rfl
  rw[hsn];have ls:=qUn (((N.filter λz=>!decide (z=0)).take i).foldl blS ((List.range m).map λk=>2^k)) n;revert hph lh ls;generalize ((N.filter λz=>!decide (z=0)).take i).foldl blS ((List.range m).map λk=>2^k)=hs;intro hph lh ls;refine⟨_,rfl,ph,rfl,⟨_,SqL.of hph⟩,?_⟩;refine qBd (λh=>!decide (h&&&n=0)) (λz=>z) hph (by omega) (λz hz C B cc bb=>⟨sls,?_⟩) ?_
  ·refine⟨_,rfl,_,rfl,_,_,rfl,rfl,rfl,_,rfl,?_⟩;exact qBy (λc=>⟨_,rfl,cc (qYy c)⟩) (λc=>bb (qYy (hDb _▸c)))
  intro l1 hl1;rw[hDr];have n1:=Ext.new hl1 (.lst ((hs.filter λh=>!decide (h&&&n=0)).map iV));refine⟨_,rfl,ph,rfl,⟨_,SqL.of (n1 _ _ hph)⟩,?_⟩;refine qBd (λh=>decide (h&&&n=0)) (λz=>z) (n1 _ _ hph) (by omega) (λz hz C B cc bb=>⟨sls,?_⟩) ?_
  ·refine⟨_,rfl,_,rfl,_,_,rfl,rfl,rfl,_,rfl,?_⟩;exact qBy (λc=>⟨_,rfl,cc (qYz c)⟩) (λc=>bb (qYz (hDb _▸c)))
  intro l2 hl2;rw[hDr];have n2:=Ext.new hl2 (.lst ((hs.filter λh=>decide (h&&&n=0)).map iV));have sumE:((hs.filter λh=>!decide (h&&&n=0)).map λn:Nat=>(n:Int)).sum=(((hs.filter λh=>!decide (h&&&n=0)).sum:Nat):Int):=qDb _;refine⟨_,rfl,l1,(hs.filter λh=>!decide (h&&&n=0)).map (λn:Nat=>(n:Int)),rfl,SqL.of (by rw[n2 _ _ upd_same,qCg]),(by show 1<=sizeLine;decide),λl3 hl3=>?_⟩;have n3:=Ext.new hl3 (.lst [V.int ((hs.filter λh=>!decide (h&&&n=0)).map λn:Nat=>(n:Int)).sum]);refine⟨l2,l3,_,_,rfl,rfl,n3 _ _ upd_same,upd_same,by rw[hA1];have:=hAs (λh=>decide (h&&&n=0)) hs;exact hB5 (qAf (by show _+1<=_;omega)),λl4 hl4=>?_⟩;refine⟨l4,_,_,rfl,e.trans (n1.trans (n2.trans (n3.trans (Ext.new hl4 _)))),E1.none (e.none (n1.none (n2.none (n3.none hl4)))),?_,by omega⟩;unfold LsN blS;rw[upd_same,hA3,sumE];rfl
 rintro σ H3 ⟨ph,x3,x4,rfl,e3,ph0,hph,lh⟩;rw[hA1,hA5 (hAa _)]at hph lh;have tw3:=My.TabW.extE tw (E1.trans e3);refine⟨_,rfl,ph,(blF N m).map (λn:Nat=>(n:Int)),rfl,SqL.of (by rw[<-qCg];exact hph),by rw[hA1];show(blF N m).length<64;have:(blF N m).length<=12+(N.filter λz=>!decide (z=0)).length:=lh;omega,tw3,λr ns' H4 r0 eB hr pm tw4=>?_⟩;obtain⟨hs,rfl,ph2⟩:=qWk pm;exact q r hs H4 (λb o n h=>eB b o n ((E1.trans e3) b o h)) ((E1.trans e3).none r0) (by unfold LsN;rw[hr,qCg]) ph2 tw4
end
theorem qPi{l:List Nat}(nd:l.Nodup){m:Nat}(h:∀x∈l,x<m):l.length<=m:=by
 have p:l.Perm ((List.range m).filter λx=>decide (x∈l)):=(hBq nd (hEf.sublist hCh)).mpr λa=>by
  rw[hAj,hAy,hEp];exact⟨λha=>⟨h a ha,ha⟩,λha=>ha.2⟩
 rw[p.length_eq];exact hAw (hAs _ _) (by rw[hB0];exact hAa _)
def Inn(z k:Nat):Prop:=∀i,z.testBit i=true->k.testBit i=true
theorem qYk(h:z&&&k=z):Inn z k:=λi hi=>by
 rw[<-h,hAv,hCi]at hi;exact hi.2
theorem qNb:∀s∈redL xs,Spn xs s:=by
 obtain⟨m,h⟩:=qNz xs;obtain⟨g,e⟩:=qE2 xs h;intro s hs;have h1:Spn (red (xs.map (rv m))) (rv m s):=by rw[<-e];exact .mem (hB3 hs)
 exact(qDk h (g s hs).1).mp ((qBs _ _).mp h1)
theorem qYi:∀y∈insF N k,Spn N y/\Inn y k:=by
 intro y hy;have h1:=qNb y hy;refine⟨Spn.mono (λx hx=>(qBe N x).mp (hAj.mp hx).1) h1,?_⟩;intro i hi;cases hk:k.testBit i with
 |true=>rfl
 |false =>
  have:=qJw (j:=i) (λx hx=>by
   have h2:=qYk (hEl (hAj.mp hx).2);cases q:x.testBit i with
   |false=>rfl
   |true=>rw[h2 i q]at hk;cases hk) h1
  rw[this]at hi;cases hi
theorem qTj{N:List Nat}{k m:Nat}(h:∀i,k.testBit i=true->i<m):(insF N k).length<=m:=by
 have lt:∀x∈(sumF N).filter (λz=>decide (z&&&k=z)),x<2^m:=λx hx=>by
  have h2:=qYk (hEl (hAj.mp hx).2);refine hBx _ λi hi=>?_
  cases q:x.testBit i with
  |false=>rfl
  |true=>have:=h i (h2 i q);omega
 obtain⟨g,e⟩:=qE2 _ lt;have rr:=qCi (((sumF N).filter (λz=>decide (z&&&k=z))).map (rv m));rw[<-e]at rr;have l1:=zA3 rr;have:=qPi l1 (m:=m) λx hx=>by
  obtain⟨s,hs,rfl⟩:=hAb.mp hx;obtain⟨u,hu,rfl⟩:=hAb.mp hs;exact(hEg (qZo (g u hu).1 (g u hu).2)).mpr (qIw _ _)
 rw[hA1,hA1]at this;exact this
theorem qEz(S:List Nat):RR S->(sumF S).Nodup:=by
 refine qFh (P:=λS=>RR S->(sumF S).Nodup) (λ_=>by show [0].Nodup;simp) (λl x ih r=>?_) S;have rl:RR l:=⟨λs hs=>r.nz s (hAe _ hs),r.ap.sublist (List.sublist_append_left l [x])⟩;have hx:x∈l++[x]:=hA8 _ (hA9.mpr rfl);have hap:=hBc.mp r.ap;have bit:∀s∈l,s.testBit x.log2=false:=λs hs=>(hap.2.2 s hs x (hA9.mpr rfl)).2
 have sb:∀z∈sumF l,z.testBit x.log2=false:=λz hz=>qJw bit ((qBe l z).mp hz)
 rw[qDj,hCl];refine⟨ih rl,?_,λa ha b hb e=>?_⟩
 ·refine hBb.mpr ((ih rl).imp λ{a b} ne e=>ne ?_);have:=congrArg (λz=>z^^^x) e;simp only[qA1]at this;exact this
 ·obtain⟨c,hc,rfl⟩:=hAb.mp hb;have h1:=sb a ha;rw[e,hAo,sb c hc,r.self hx]at h1;cases h1
theorem qVu(ha:RR a)(hb:RR b)(h:∀z∈a,Spn b z):a.length<=b.length:=by
 have na:=qEz a ha;have nb:=qEz b hb;have sub:∀z∈sumF a,z∈sumF b:=λz hz=>(qBe b z).mpr (Spn.mono h ((qBe a z).mp hz))
 have p:(sumF a).Perm ((sumF b).filter λz=>decide (z∈sumF a)):=(hBq na (nb.sublist hCh)).mpr λz=>by
  rw[hAj,hEp];exact⟨λhz=>⟨sub z hz,hz⟩,λhz=>hz.2⟩
 have:=p.length_eq;have h2:=hAs (λz=>decide (z∈sumF a)) (sumF b);rw[<-this,qCz,qCz]at h2;exact(hDw (by decide)).mp h2
theorem zDf(r:Lrr N)(k:Nat):(insF N k).length<=N.length:=by
 obtain⟨m,g,rr⟩:=r;have gl:∀x∈N,x<2^m:=λx hx=>(g x hx).1
 have lt:∀x∈(sumF N).filter (λz=>decide (z&&&k=z)),x<2^m:=λx hx=>Spn.lt gl ((qBe N x).mp (hAj.mp hx).1)
 obtain⟨_,e⟩:=qE2 _ lt;have r2:=qCi (((sumF N).filter (λz=>decide (z&&&k=z))).map (rv m));rw[<-e]at r2;have:=qVu r2 rr λz hz=>by
  obtain⟨s,hs,rfl⟩:=hAb.mp hz;have h1:=(qYi (N:=N) (k:=k) s hs).1;exact(qDk gl (h1.lt gl)).mpr h1
 rw[hA1,hA1]at this;exact this
section
variable{aA:List Str}{k:Nat}
theorem qD9(rn:qEp aA)(x:Nat):qEp (rowL aA x):=by
 unfold rowL;have:∀L:List Nat,L.Pairwise (· < ·)->qEp (L.filterMap λi=>if x.testBit i=true then aA[i]? else none):=λL=>by
  intro hL;refine List.Pairwise.filterMap _ (λa a' hlt b hb b' hb'=>?_) hL;split at hb
  ·split at hb'
   ·exact qOu rn hlt hb hb'
   ·cases hb'
  ·cases hb
 exact this _ List.pairwise_lt_range
noncomputable abbrev cmp(aA:List Str)(k:Nat)(y:Nat):Nat:=maskL (rowL aA k) (rowL aA y)
theorem qNw(rn:qEp aA)(hy:Inn y k)(j:Nat):(cmp aA k y).testBit j=true↔∃i n,(rowL aA k)[j]?=some n/\aA[i]?=some n/\y.testBit i=true:=by
 have nd:=qC5 rn;have nd':=qC5 (qD9 rn k);have sub:∀n∈rowL aA y,n∈rowL aA k:=λn hn=>by
  obtain⟨i,h1,h2,h3⟩:=qBz.mp hn;exact qBz.mpr ⟨i,h1,h2,hy i h3⟩
 unfold cmp;rw[qIe nd' (qM9 nd y) sub,hEp];constructor
 ·rintro⟨n,hn,e⟩;obtain⟨i,h1,h2,h3⟩:=qBz.mp hn;refine⟨i,n,?_,h2,h3⟩;rw[<-e];exact(qEx (sub n hn)).1
 ·rintro⟨i,n,h1,h2,h3⟩;exact⟨n,qBz.mpr ⟨i,(hAm.mp h2).1,h2,h3⟩,qYh nd' h1⟩
theorem zDu(rn:qEp aA)(hy:Inn y k)(hj:(rowL aA k)[j]?=some n)(hi:aA[i]?=some n):(cmp aA k y).testBit j=y.testBit i:=by
 cases h:y.testBit i with
 |true=>exact(qNw rn hy j).mpr ⟨i,n,hj,hi,h⟩
 |false =>
  cases q:(cmp aA k y).testBit j with
  |false=>rfl
  |true =>
   obtain⟨i',n',h1,h2,h3⟩:=(qNw rn hy j).mp q;rw[hj]at h1;cases h1;have:=qKp (qC5 rn) hi h2;subst this;rw[h]at h3;cases h3
theorem qZq(rn:qEp aA)(hy:Inn y k):rowL aA y=rowL (rowL aA k) (cmp aA k y):=by
 refine qOv (qD9 rn y) (qD9 (qD9 rn k) _) λn=>?_
 rw[qBz,qBz];constructor
 ·rintro⟨i,h1,h2,h3⟩;have hm:n∈rowL aA k:=qBz.mpr ⟨i,h1,h2,hy i h3⟩;obtain⟨j,hj⟩:=List.getElem?_of_mem hm;exact⟨j,(hAm.mp hj).1,hj,by rw[zDu rn hy hj h2];exact h3⟩
 ·rintro⟨j,h1,h2,h3⟩;obtain⟨i,n',g1,g2,g3⟩:=(qNw rn hy j).mp h3;rw[h2]at g1;cases g1;exact⟨i,(hAm.mp g2).1,g2,g3⟩
structure Blk(aA:List Str)(rows:List (List Str)):Prop where
 tok:TabOk aA rows
 l8:rows.length<=8
theorem zDw(rn:qEp aA)(ok:SOk aA)(ln:aA.length<=12)(r:Lrr N)(lN:N.length<=8)(hk:k=0\/(k∈blF N aA.length/\k&&&(k-1)≠0))(pr:rows.Perm ((insF N k).map (rowL aA))):Blk (rowL aA k) rows:=by
 have lt:∀i,k.testBit i=true->i<aA.length:=by
  rcases hk with rfl|⟨hk,_⟩
  ·intro i hi;rw[hBl]at hi;cases hi
  ·exact qYv hk
 have inn:∀y∈insF N k,Inn y k:=λy hy=>(qYi y hy).2
 have ln':(rowL aA k).length<=aA.length:=by
  unfold rowL;refine hAw (hC0 _ _) ?_;rw[hB0];exact hAa _
 refine⟨⟨qD9 rn k,λx hx=>?_,by omega,?_,λr' hr=>?_⟩,by rw[pr.length_eq,hA1];exact hAw (zDf r k) lN⟩
 ·obtain⟨i,_,h2,_⟩:=qBz.mp hx;exact ok x (hAh h2)
 ·rw[pr.length_eq,hA1];have:=qTj (N:=N) lt;omega
 ·obtain⟨y,hy,rfl⟩:=hAb.mp (pr.mem_iff.mp hr);exact⟨_,qZq rn (inn y hy)⟩
end
end My
namespace L2
open PySem PySem.Spec PyProof.Rows
def zEb(t:TS):TS:=λD σ H=>∃Pm:St->Hp->Prop,t { D with nx:=Pm } σ H/\∀σ' H',Pm σ' H'->D.nx σ' H'
theorem qSm{X:Cx}{st:Stmt}{t:TS}(h:PS X st t):PS X st (zEb t):=by
 intro aB s σ H D I hw;obtain⟨Pm,h1,h2⟩:=hw;refine thn (h aB s σ H { D with nx:=Pm } I h1) λfl s' q=>?_
 cases fl with
 |next=>obtain⟨σ',H',I',q⟩:=q;exact⟨σ',H',I',h2 σ' H' q⟩
 |brk=>exact q
 |cont=>exact q
 |ret _=>exact q
end L2
namespace My
open PySem L2
def qXr(K:PySem.W.Frag)(Pt:Addr):Sp:=λvs H Q _=>∃(a:Addr) (ns:List Int),vs=[.ref a,.int 1]/\SqL K H a (ns.map V.int)/\TabW H Pt lpB qB/\∀(T:Addr) (aA:List Str) (rows:List (List Str)) (H':Hp),ExtB Pt H H'->qIt H' T aA rows->Blk aA rows->Tx aA->TabW H' Pt lpB qB->Q (.ref T) H'
theorem lsB(hP:H Pt=some (.tbl ps))(e:ExtB Pt H H')(h:H p=some (.lst xs)):H' p=some (.lst xs):=e _ _ (λz=>by rw[z,hP]at h;cases h) h
theorem qPs:∀(L hs:List Nat),(L.foldl blS hs).length<=hs.length+L.length
 |[],hs=>hAa _
 |t :: L,hs=>by
  have h1:=qPs L (blS hs t);have h2:=qUn hs t;show(L.foldl blS (blS hs t)).length<=hs.length+(L.length+1);omega
theorem zBo(N:List Nat)(m:Nat):(blF N m).length<=m+N.length:=by
 have h1:=qPs (N.filter λz=>!decide (z=0)) ((List.range m).map λk=>2^k);have h2:=hAs (λz=>!decide (z=0)) N;rw[hA1,hB0]at h1;unfold blF;omega
theorem zFz(h:Nat):(V.int (Builtin.bitAnd (h:Int) ((h:Int)-1))=V.int 0)↔h&&&(h-1)=0:=by
 cases h with
 |zero=>exact⟨λ_=>rfl,λ_=>by decide +kernel⟩
 |succ k =>
  rw[show(((k+1:Nat):Int)-1)=((k+1-1:Nat):Int) by omega];exact zE3 (k+1) (k+1-1)
theorem qX4{h:Nat}{c:Bool}(e:(!decide (V.int (Builtin.bitAnd (h:Int) ((h:Int)-1))=V.int 0))=c):(!decide (h&&&(h-1)=0))=c:=by
 rw[<-e,decide_eq_decide.mpr (zFz h)]
theorem qHl:∀xs:List Nat,PyData.canLayAll0 (xs.map λn:Nat=>PyData.int (n:Int))=true/\PyData.depthAll (xs.map λn:Nat=>PyData.int (n:Int))=0
 |[]=>⟨rfl,rfl⟩
 |x :: r=>by
  obtain⟨h1,h2⟩:=qHl r;refine⟨?_,?_⟩
  ·show(true && PyData.canLayAll0 (r.map λn:Nat=>PyData.int (n:Int)))=true;rw[h1];rfl
  ·show max 0 (PyData.depthAll (r.map λn:Nat=>PyData.int (n:Int)))=0;rw[h2];rfl
theorem qMz(xs:List Nat):SeqAt.shaped (.list (xs.map λn:Nat=>PyData.int (n:Int)))=true:=by
 obtain⟨h3,h4⟩:=qHl xs;show(PyData.canLayAll0 (xs.map λn:Nat=>PyData.int (n:Int)) && decide (PyData.depthAll (xs.map λn:Nat=>PyData.int (n:Int))+1<=64))=true;rw[h3,h4];rfl
theorem qNt:∀xs:List Nat,DRs K H (xs.map iV) (xs.map λn:Nat=>PyData.int (n:Int))
 |[]=>.nil
 |_ :: r=>.cons (.int _) (qNt r)
theorem qUk:bootBuiltins "max"=some (.builtin "max"):=by decide +kernel
section
variable{P:Program}{w:World}{K:PySem.W.Frag}{mg:Str->Option Value}{base:Heap}{f f1 f2 f3 f4 f5 f6 Pt:Addr}{fd fd1 fd2 fd3 fd4 fd5 fd6:FuncData}
noncomputable abbrev bkN:List Str:=["_law_script","_law_at","_law_many","_law_base","_law_names_here","_law_heaps","_law_heap","_law_sizes","_law_rows"]
theorem qEs:FnScope bkN ["_law_script","_law_at"] (qAc qQp):=fsk
theorem zAq(F:Fun K "_law_block" "_law_block" qQp f fd)
  (G1:v9 4 f1 fd1 ["_law_script","_law_at"] (qXk K) "_law_steps_of")
  (G2:v9 1 f2 fd2 ["_law_big_here","_law_many"] qJy "_law_names")
  (G3:v9 2 f3 fd3 ["_law_script","_law_k"] (qQk K) "_law_big")
  (G4:v9 1 f4 fd4 ["_law_names_here","_law_number"] qRt "_law_row")
  (G5:v9 3 f5 fd5 ["_law_base","_law_many"] (qRw Pt) "_law_blocks")
  (G6:v9 2 f6 fd6 ["_law_base","_law_mask_here"] qRv "_law_inside")
  (ml:mg "len"=none) (mso:mg "sorted"=none) (mma:mg "max"=none):v8 5 f fd ["_law_script","_law_at"] (qXr K Pt):=by
 refine F.okA qEs λcdv A outer s H vs Q E hr4 h=>?_
 obtain⟨a,ns,rfl,hS,tw,q⟩:=h;have hr1:=hr4.mono (j:=1) (by decide);have hr2:=hr4.mono (j:=2) (by decide);have hr3:=hr4.mono (j:=3) (by decide);refine⟨_,qAa (qGz (qAv G1 hr4 rfl .nil pass0 (qAe (pv 0) (pa1 (pv 1)))) (qB0 rfl (qAs (v5 2 qEs) (qAs (v5 3 qEs) qBc)))) (qAa (v6 4 qEs (qAh qCa rfl mso qA3 (pa1 (qAv G2 hr1 rfl .nil pass0 (qAe (qAv G3 hr2 rfl .nil pass0 (qAe (pv 0) (pa1 (qAg qA8 (pv 1) qAb)))) (pa1 (pv 2))))))) (qAa (qD0 (i:=5) (N:=bkN) (sc:=qAc qQp) (N':=["_law_heap"]) (sub:=[none]) (qAp (qAv G5 hr3 rfl .nil pass0 (qAe (pv 3) (pa1 (pv 2))))) (λC s H fp=>⟨(qBb (qAn qFp (qAg qBu (pv 0) (qAg qCr (pv 0) qAb)) qAb (nomark _))),(pv 0)⟩) qEs.nd rfl (Or.inl rfl)) (qAa (v4 6 qEs qAb) (qAa (qSm (qBj (qAn (qFo (qSf hr4)) (pv 5) (qA2 qAz) (nomark _)) (qAa (v4 6 qEs (qBh qBx (pv 5) (qAg qA9 (qAv G3 hr2 rfl .nil pass0 (qAe (pv 0) (pa1 (qAg qA8 (pv 1) qAb)))) (qAh qAi rfl ml hAt (pa1 (pv 5)))) (λ_ _=>rfl))) (qAd (qBj (qAn qV6 (qAg qA9 (qAg qA4 (qAv G3 hr2 rfl .nil pass0 (qAe (pv 0) (pa1 (qAg qA8 (pv 1) qAb)))) qAb) qAb) qAb (nomark _)) (qAa (qD0 (i:=7) (N:=bkN) (sc:=qAc qQp) (N':=["_law_one","_law_names_here"]) (sub:=[none,some 4]) (qAp (pv 5)) (λC s H fp=>⟨qAw,(qAh (show qB2 _ _ (λxs H Q=>∃p ys,xs=[V.ref p]/\(SqL K H p ys\/SqT K H p ys)/\Q (.int ys.length) H) from qAi) rfl ml hAt (pa1 (qAv G4 hr1 rfl .nil pass0 (qAe (pv 1) (pa1 (pv 0))))))⟩) qEs.nd rfl (Or.inl rfl)) (qAd (v4 6 qEs (qBh qBx (pv 5) (qDu hAx hDx hDy qS3 (pv 7) (pa1 (qAh (qUe rfl) rfl mma qUk (pa1 (pv 7))))) (λ_ _=>rfl))))) qAx))) qAx)) (qAa (qD0 (i:=8) (N:=bkN) (sc:=qAc qQp) (N':=["_law_number","_law_names_here"]) (sub:=[none,some 4]) (qAp (qAv G6 hr2 rfl .nil pass0 (qAe (pv 3) (pa1 (pv 6))))) (λC s H fp=>⟨qAw,(qAv G4 hr1 rfl .nil pass0 (qAe (pv 1) (pa1 (pv 0))))⟩) qEs.nd rfl (Or.inl rfl)) (qAd (qAt (qA6 (qAe (qAv G4 hr1 rfl .nil pass0 (qAe (pv 4) (pa1 (pv 6)))) (pa1 (qAh (qDx (zEk hr4)) rfl mso qA3 (pa1 (pv 8))))))))))))),?_⟩;refine⟨_,rfl,_,rfl,a,ns,rfl,hS,λT0 b m ms H1 e1 hT0 hb m12 lm lrr=>?_⟩;refine⟨T0,_,rfl,SqT.of hT0,rfl,_,_,rfl,_,_,rfl,rfl,?_⟩;refine⟨_,rfl,_,rfl,_,_,rfl,rfl,a,ns,_,rfl,Ext.sqL e1 hS,by decide,by decide,λB1=>?_⟩;refine⟨_,rfl,B1,(m:Int),rfl,by omega,by omega,λnr ss H2 e2 nr0 hss lss tx ndc=>?_⟩;have nd0:ss.Nodup:=ndc (by omega);refine⟨nr,ss,rfl,SqL.of hss,by omega,λnm aA hnm pm srt=>?_⟩;have nd:aA.Nodup:=pm.symm.nodup nd0;have rn:qEp aA:=qKa srt nd;have txn:Tx aA:=λx hx=>tx x (pm.mem_iff.mp hx)
 have ok:SOk aA:=λx hx=>(tx x (pm.mem_iff.mp hx)).1.sm.ok
 have lnm:aA.length=m:=by rw[pm.length_eq,lss];omega
 have X2:=Ext.new hnm (.lst (aA.map V.str));have E2:=e1.trans (e2.trans X2);have hb2:=(e2.trans X2) _ _ hb;have hn2:LsS (upd H2 nm (.lst (aA.map V.str))) nm aA:=upd_same;revert E2 hb2 hn2;generalize upd H2 nm (.lst (aA.map V.str))=Hb;intro E2 hb2 hn2;have tw2:=My.TabW.extE tw E2;obtain⟨ps2,hP2⟩:=My.TabW.tb tw2;refine⟨_,rfl,_,rfl,b,ms,m,rfl,hb2,by omega,m12,tw2,λhp hs H3 eB hp0 hhp pmh tw3=>?_⟩;have lhs:hs.length<=20:=by rw[pmh.length_eq];have:=zBo ms m;omega
 have hS3:SqL K H3 a (ns.map V.int):=zDz hP2 eB (Ext.sqL E2 hS);have hb3:LsN H3 b ms:=lsB hP2 eB hb2;have hn3:LsS H3 nm aA:=lsB hP2 eB hn2;have EB3:ExtB Pt H H3:=λc o n h=>eB c o n (E2 c o h)
 clear eB hP2 hb2 hn2 E2 hss;refine⟨hp,rfl,⟨_,SqL.of hhp⟩,?_⟩;refine qBd (λh=>!decide (h&&&(h-1)=0)) (λz=>z) hhp (by omega) (λz hz C B cc bb=>⟨sls,?_⟩) ?_
 ·refine⟨_,rfl,_,rfl,_,_,rfl,rfl,_,_,rfl,rfl,rfl,_,rfl,?_⟩;exact qBy (λc=>⟨_,rfl,cc (qX4 c)⟩) (λc=>bb (qX4 (hDb _▸c)))
 intro fh hfh;rw[hDr];have X4:=Ext.new hfh (.lst ((hs.filter λh=>!decide (h&&&(h-1)=0)).map iV));have lfs:(hs.filter λh=>!decide (h&&&(h-1)=0)).length<=20:=hAw (hAs _ _) lhs;have hfs:∀k∈hs.filter (λh=>!decide (h&&&(h-1)=0)),k∈blF ms m/\k&&&(k-1)≠0:=λk hk=>by
  obtain⟨k1,k2⟩:=hAj.mp hk;refine⟨pmh.mem_iff.mp k1,λz=>?_⟩;rw[z]at k2;revert k2
  decide
 have hF4:LsN (upd H3 fh (.lst ((hs.filter λh=>!decide (h&&&(h-1)=0)).map iV))) fh (hs.filter λh=>!decide (h&&&(h-1)=0)):=upd_same;have hS4:=Ext.sqL X4 hS3;have hb4:=X4 _ _ hb3;have hn4:=X4 _ _ hn3;have tw4:=My.TabW.extE tw3 X4;have EB4:ExtB Pt H (upd H3 fh (.lst ((hs.filter λh=>!decide (h&&&(h-1)=0)).map iV))):=λc o n h=>X4 c o (EB3 c o n h)
 revert lfs hfs hF4 hS4 hb4 hn4 EB4 tw4;generalize upd H3 fh (.lst ((hs.filter λh=>!decide (h&&&(h-1)=0)).map iV))=H4;generalize (hs.filter λh=>!decide (h&&&(h-1)=0))=fs;intro lfs hfs hF4 hS4 hb4 hn4 tw4 EB4;clear X4 hS3 hb3 hn3 EB3;refine⟨λσ' H'=>∃(k:Nat) (x7:Option V),σ'=[some (.ref a),some (.int 1),some (iV m),some (.ref b),some (.ref nm),some (.ref fh),some (iV k),x7,none]/\Ext H4 H'/\(k=0\/k∈fs),?_,?_⟩
 ·refine⟨_,rfl,hAp _,λl0 hl0=>?_⟩;have X0:=Ext.new hl0 (.lst []);refine⟨_,_,.lst (SqL.of (X0 _ _ hF4)) (qNt fs),.lst (SqL.of upd_same) .nil,qMz fs,(by decide +kernel),_,rfl,?_⟩;refine qBy (λc=>?_) (λc=>⟨0,none,rfl,X0,.inl rfl⟩);have ne:fs≠[]:=λz=>by
   rw[z]at c;revert c
   decide +kernel
  have lp:0<fs.length:=List.length_pos_iff.mpr ne;have hF5:=X0 _ _ hF4;have hS5:=Ext.sqL X0 hS4;have hn5:=X0 _ _ hn4;revert hF5 hS5 hn5 X0;generalize upd H4 l0 (.lst [])=H5;intro X0 hF5 hS5 hn5;refine⟨_,rfl,_,rfl,_,rfl,_,_,rfl,rfl,a,ns,_,rfl,hS5,by decide,by decide,λB2=>?_⟩;refine⟨_,rfl,fh,_,rfl,.inl (SqL.of hF5),_,_,rfl,rfl,(by rw[hA1];show(0:Int)<_;omega),?_⟩;obtain⟨j2,hj2,ej2⟩:∃j:Nat,j<fs.length/\B2 % (((fs.map iV).length:Nat):Int)=(j:Int):=by
   have h1:=hBi B2 (show(((fs.map iV).length:Nat):Int)≠0 by rw[hA1];omega);have h2:=hB9 B2 (show(0:Int)<(((fs.map iV).length:Nat):Int) by rw[hA1];omega);have h3:(fs.map iV).length=fs.length:=hA1 _;exact⟨(B2 % (((fs.map iV).length:Nat):Int)).toNat,by omega,by omega⟩
  have hg2:(fs.map iV)[j2]?=some (iV fs[j2]):=by rw[hAi,hA2 hj2];rfl
  refine⟨fh,_,_,_,rfl,rfl,SqL.of hF5,(by rw[ej2];exact qAy hg2),?_⟩;refine⟨_,rfl,_,rfl,_,_,rfl,rfl,a,ns,_,rfl,hS5,by decide,by decide,λB3=>?_⟩;refine⟨_,_,rfl,rfl,⟨by decide,by decide⟩,_,_,rfl,rfl,(by show(0:Int)<_;decide),_,_,rfl,rfl,_,rfl,?_⟩;refine qBy (λc=>?_) (λc=>⟨_,none,rfl,X0,.inr (hC4 hj2)⟩);refine⟨_,rfl,fh,rfl,⟨_,SqL.of hF5⟩,?_⟩;refine qAq (xs:=fs.map iV) (λj ys H6=>Ext H5 H6/\ys=(((fs.take j).map λh=>(rowL aA h).length).map λn:Nat=>(n:Int)).map V.int) ⟨Ext.refl _,rfl⟩ (λj ys H6 _ h=>SqL.of (h.1 _ _ hF5)) ?_ ?_
  ·rintro j v ys H6 hx ⟨e6,rfl⟩;obtain⟨x,rfl,hx'⟩:=qCj hx;have hj:=qAu hx';refine⟨sls,iteT (B:=False) ⟨_,rfl,_,rfl,nm,aA,x,rfl,e6 _ _ hn5,by omega,λr3 H7 e7 r30 h3=>⟨r3,_,rfl,.inl (SqL.of h3),?_⟩⟩⟩;refine⟨by rw[hA1,hA1,hA1,hAk];exact qAf (by omega),nxt (qAu hx) ⟨e6.trans e7,?_⟩⟩;rw[qAl hx',hA3,hA3,hA3,hA1];rfl
  rintro ys H6 ⟨e6,rfl⟩ sz hsz;rw[hA1,hA5 (hAa _)];obtain⟨zs,ezs⟩:∃zs:List Int,zs=((fs.map λh=>(rowL aA h).length).map λn:Nat=>(n:Int)):=⟨_,rfl⟩;have lzs:zs.length=fs.length:=by rw[ezs,hA1,hA1]
  rw[<-ezs];have X7:=Ext.new hsz (.lst (zs.map V.int));refine⟨_,rfl,_,rfl,(show tyV _ _ (.ref sz) _ from Or.inl ⟨rfl,_,SqL.of upd_same⟩),_,rfl,sz,zs,rfl,SqL.of upd_same,(λz=>by rw[z]at lzs;simp at lzs;omega),λM hM _=>?_⟩;refine⟨sz,zs,M,rfl,rfl,upd_same,hM,by omega,λj3 hj3=>?_⟩;have l3:j3<fs.length:=by rw[<-lzs];exact(hAm.mp hj3).1
  have hg3:(fs.map iV)[j3]?=some (iV fs[j3]):=by rw[hAi,hA2 l3];rfl
  refine⟨fh,_,_,_,rfl,rfl,SqL.of ((e6.trans X7) _ _ hF5),qAy hg3,?_⟩;exact⟨_,_,rfl,X0.trans (e6.trans X7),.inr (hC4 l3)⟩
 ·rintro σ' H5 ⟨k,x7,rfl,e5,hk⟩;have hb5:=e5 _ _ hb4;have hn5:=e5 _ _ hn4;have hk':k=0\/(k∈blF ms aA.length/\k&&&(k-1)≠0):=hk.imp id λz=>by rw[lnm];exact hfs k z
  have lk:∀i,k.testBit i=true->i<aA.length:=by
   rcases hk' with z|⟨z,_⟩
   ·intro i hi;rw[z,hBl]at hi;cases hi
   ·exact qYv z
  have ln:aA.length<=12:=by omega
  refine⟨_,rfl,_,rfl,b,ms,k,rfl,hb5,by omega,λr H6 e6 r0 hR=>?_⟩;have lR:=qTj (N:=ms) lk;refine⟨r,rfl,⟨_,SqL.of hR⟩,?_⟩;refine qAq (xs:=(insF ms k).map iV) (λj ys H2=>Ext H6 H2/\∃as,ys=as.map V.ref/\Paired (LsS H2) as (((insF ms k).take j).map (rowL aA))) ⟨Ext.refl _,[],rfl,.nil⟩ (λj ys H2 _ h=>SqL.of (h.1 _ _ hR)) ?_ ?_
  ·rintro j v ys H2 hx ⟨e2,as,rfl,pr⟩;obtain⟨x,rfl,hx'⟩:=qCj hx;have hj:=qAu hx';have la:as.length=_:=pr.length;rw[hA1,hAk]at la;refine⟨sls,iteT (B:=False) ⟨_,rfl,_,rfl,nm,aA,x,rfl,(e6.trans e2) _ _ hn5,ln,λr3 H3 e3 r30 h3=>⟨?_,nxt (qAu hx) ⟨e2.trans e3,as++[r3],by rw[hA3];rfl,?_⟩⟩⟩⟩
   ·rw[hA1];exact qAf (by omega)
   ·rw[qAl hx',hA3];exact Paired.snoc (Paired.mapP pr λa t z=>e3 _ _ z) h3
  ·rintro ys H7 ⟨e7,as,rfl,pr⟩ rb hrb;rw[hA1,hA5 (hAa _)]at pr;have la:as.length=((insF ms k).map (rowL aA)).length:=pr.length;have la':as.length=(insF ms k).length:=by rw[la,hA1]
   have Xb:=Ext.new hrb (.lst (as.map V.ref));refine⟨_,rfl,_,rfl,nm,aA,k,rfl,((e6.trans e7).trans Xb) _ _ hn5,ln,λl1 H8 e8 l10 hl1=>?_⟩;have X1:=Xb.trans e8;refine⟨_,rfl,rb,as,(insF ms k).map (rowL aA),rfl,SqL.of (e8 _ _ upd_same),Paired.mapP pr λa t z=>SqL.of (X1 _ _ z),by omega,λr2 o hr2 g sp=>?_⟩;have X2:=X1.trans (Ext.new hr2 (.lst ((o.toList.map λi=>as.getD i 0).map V.ref)));have gm:∀i∈o.toList,i<as.length:=λi hi=>qL0 g hi
   rw[la]at g sp;obtain⟨s1,s2⟩:=qEm g sp;refine⟨(by show 2<=sizeLine;decide),λT hT=>?_⟩;have XT:=X2.trans (Ext.new hT (.tup [V.ref l1,V.ref r2]));refine q T (rowL aA k) _ _ (λc o' n h=>((e5.trans (e6.trans e7)).trans XT) c o' (EB4 c o' n h)) ⟨l1,r2,upd_same,?_,⟨_,(Ext.new hT _) _ _ upd_same,Paired.mapP (qIc pr gm) λa t z=>XT _ _ z⟩⟩ (zDw rn ok ln lrr lm hk' s2) (λx hx=>by obtain⟨i,_,h,_⟩:=qBz.mp hx;exact txn x (hAh h)) (My.TabW.extE tw4 ((e5.trans (e6.trans e7)).trans XT));exact(Ext.new hT _) _ _ ((Ext.new hr2 _) _ _ hl1)
end
end My
namespace L2
open PySem PySem.Spec PyProof.Rows
section
variable{X:Cx}{es:List Expr}{ta:TE}{t:TA}
theorem qQt(ha:PE X (.Tuple es' c p) ta)(hr:PA X es t):PA X (.Tuple es' c p :: es) (qQi ta t):=qAe ha hr rfl
theorem zBu{j}(ha:PE X (.Constant c j p) ta)(hr:PA X es t):PA X (.Constant c j p :: es) (qQi ta t):=qAe ha hr rfl
theorem qLj(ha:PE X (.Name x p) ta)(hr:PA X es t):PA X (.Name x p :: es) (qQi ta t):=qAe ha hr rfl
theorem zEr{o}(ha:PE X (.BinOp a o b p) ta)(hr:PA X es t):PA X (.BinOp a o b p :: es) (qQi ta t):=qAe ha hr rfl
end
end L2
namespace My
open PySem L2
abbrev Pr2:=Int×Int
theorem qG0:∀ {as:List α} {bs:List β} (k:Nat),Paired R as bs->Paired R (as.eraseIdx k) (bs.eraseIdx k)
 |_,_,_,.nil=>.nil
 |_,_,0,.cons _ t=>t
 |_,_,k+1,.cons h t=>.cons h (qG0 k t)
theorem qIb:∀ {as:List α} {bs:List β} (k:Nat),Paired R as bs->Paired R (as.take k) (bs.take k)
 |_,_,0,_=>.nil
 |_,_,_+1,.nil=>.nil
 |_,_,k+1,.cons h t=>.cons h (qIb k t)
theorem qL4(f:α->β):∀(l:List α) (k:Nat),(l.map f).eraseIdx k=(l.eraseIdx k).map f
 |[],_=>rfl
 |_ :: _,0=>rfl
 |a :: l,k+1=>congrArg (f a :: ·) (qL4 f l k)
theorem qFe.oth(h:qFe H p net)(ho:H o=some (.lst xs))(ne:p≠o):qFe (upd H o u) p net:=by
 obtain⟨as,h1,h2⟩:=h;exact⟨as,by rw[qAk ne];exact h1,Paired.mapP h2 λa t z=>by rw[qAk (λe=>by rw[e,ho]at z;cases z)];exact z⟩
theorem qBi.oth(h:qBi H p es)(ho:H o=some (.lst xs))(ne:p≠o):qBi (upd H o u) p es:=by
 obtain⟨as,h1,h2⟩:=h;exact⟨as,by rw[qAk ne];exact h1,Paired.mapP h2 λa t z=>by rw[qAk (λe=>by rw[e,ho]at z;cases z)];exact z⟩
theorem qBi.pop(k:Nat)(h1:H p=some (.lst (as.map V.ref)))(h2:Paired (λa e=>H a=some (.tup (enV e))) as es):qBi (upd H p (.lst ((as.map V.ref).eraseIdx k))) p (es.eraseIdx k):=by
 refine⟨as.eraseIdx k,by rw[upd_same,qL4],Paired.mapP (qG0 k h2) λa t z=>by rw[qAk (λe=>by rw[e,h1]at z;cases z)];exact z⟩
theorem qBi.cat(h1:qBi H p es)(h2:qBi H l fs):∃xs ys,H p=some (.lst xs)/\H l=some (.lst ys)/\xs.length=es.length/\ys.length=fs.length/\(H r=none->qBi (upd H r (.lst (xs++ys))) r (es++fs)):=by
 obtain⟨as,a1,a2⟩:=h1;obtain⟨bs,b1,b2⟩:=h2;refine⟨_,_,a1,b1,by rw[hA1];exact a2.length,by rw[hA1];exact b2.length,λr0=>⟨as++bs,by rw[upd_same,hA3],?_⟩⟩;have:∀ {a:Addr} {o:HO},H a=some o->upd H r (.lst (as.map V.ref++bs.map V.ref)) a=some o:=λh=>Ext.new r0 _ _ _ h
 exact qDq (Paired.mapP a2 λa t z=>this z) (Paired.mapP b2 λa t z=>this z)
theorem qXz{j n:Nat}(h:j<n):seqIndex? (j:Int) n=some j:=by
 have:=PySem.StrLaws.seqIndex_nonneg (i:=(j:Int)) (n:=n) (by omega) (by omega);rw[hB8]at this;exact this
theorem qS6(x:Int)(h:0<n):∃j:Nat,j<n/\x % (n:Int)=(j:Int):=by
 have h1:=hBi x (show(n:Int)≠0 by omega);have h2:=hB9 x (show(0:Int)<(n:Int) by omega);exact⟨(x % (n:Int)).toNat,by omega,by omega⟩
noncomputable def dEn(e:Pr2):PyData:=.tuple [.int e.1,.int e.2]
theorem qPj:∀xs:List Pr2,PyData.canLayAll0 (xs.map dEn)=true/\PyData.depthAll (xs.map dEn)<=1
 |[]=>⟨rfl,by decide⟩
 |x :: r=>by
  obtain⟨h1,h2⟩:=qPj r;refine⟨?_,?_⟩
  ·show(true && PyData.canLayAll0 (r.map dEn))=true;rw[h1];rfl
  ·show max 1 (PyData.depthAll (r.map dEn))<=1;omega
theorem qM0(xs:List Pr2):SeqAt.shaped (.list (xs.map dEn))=true:=by
 obtain⟨h3,h4⟩:=qPj xs;show(PyData.canLayAll0 (xs.map dEn) && decide (PyData.depthAll (xs.map dEn)+1<=64))=true;rw[h3,hEi (by omega)];rfl
theorem qTy:∀ {as:List Addr} {es:List Pr2},Paired (λa e=>H a=some (.tup (enV e))) as es->DRs K H (as.map V.ref) (es.map dEn)
 |_,_,.nil=>.nil
 |_,_,.cons h t=>.cons (.tup (SqT.of h) (.cons (.int _) (.cons (.int _) .nil))) (qTy t)
theorem qRi:∀n,n<20->((toString ((n:Nat):Int):String):Str).length<=4/\((n:Nat):Int).natAbs.log2<1920:=by decide +kernel
def qXn(K:PySem.W.Frag):Sp:=λvs H Q _=>∃(a:Addr) (ns:List Int),vs=[.ref a,.int 1]/\SqL K H a (ns.map V.int)/\∀r net H',Ext H H'->H r=none->qFe H' r net->net.length<=12->Tx (net.map (·.1))->qEp (net.map (·.1))->Q (.ref r) H'
structure GI(H:Hp)(a:Addr)(i:Nat)(σ:St)(H':Hp)(B m:Int)(np:Addr)(es:List Pr2):Prop where
 st:∃x5 x6 x7 x8 x9:Option V,σ=[some (.ref a),some (.int 1),some (.int B),some (.ref np),some (.int m),x5,x6,x7,x8,x9,none,none,none,none]
 ext:Ext H H'
 np0:H np=none
 es0:qBi H' np es
 l3:3<=es.length
 le:es.length<=3+4*i
 m3:3<=m
 me:m<=3+2*i
 ins:∀e∈es,qQ2 m e
structure GW(H:Hp)(a:Addr)(aA:List Str)(k:Nat)(σ:St)(H':Hp)(B m:Int)(od fo nm:Addr)(es:List Pr2)(net:List Tr):Prop where
 st:∃(np:Addr) (x5 x6 x7 x8 x9 x13:Option V),σ=[some (.ref a),some (.int 1),some (.int B),some (.ref np),some (.int m),x5,x6,x7,x8,x9,some (.ref nm),some (.ref od),some (.ref fo),x13]
 ext:Ext H H'
 od0:H od=none
 fo0:H fo=none
 ne:od≠fo
 no:nm≠od
 nf:nm≠fo
 hn:LsS H' nm aA
 es0:qBi H' od es
 nt:qFe H' fo net
 lk:es.length=k
 ln:net.length+k=aA.length
 fst:net.map (·.1)=aA.take net.length
 ins:∀e∈es,qQ2 m e
theorem qQ2.mono(h:qQ2 m e)(l:m<=m'):qQ2 m' e:=⟨⟨h.1.1,by have:=h.1.2;omega⟩,h.2.1,by have:=h.2.2;omega⟩
section
variable{P:Program}{w:World}{K:PySem.W.Frag}{mg:Str->Option Value}{base:Heap}{f f1 f2 f3:Addr}{fd fd1 fd2 fd3:FuncData}
noncomputable abbrev glN:List Str:=["_law_script","_law_at","_law_big_here","_law_net_here","_law_most","_law_k","_law_way","_law_spot","_law_one","_law_other","_law_names_here","_law_order","_law_found","_law_two"]
theorem qDe:FnScope glN ["_law_script","_law_at"] (qAc qVs):=fsk
theorem zAk(F:Fun K "_law_glued" "_law_glued" qVs f fd)
  (G1:v9 2 f1 fd1 ["_law_script","_law_k"] (qQk K) "_law_big")
  (G2:v9 1 f2 fd2 ["_law_big_here","_law_many"] qJy "_law_names")
  (ml:mg "len"=none) (mr:mg "range"=none) (mso:mg "sorted"=none) (mmi:mg "min"=none) (mL:mg "list"=none) (mtu:mg "tuple"=none) (mst:mg "str"=none):v8 3 f fd ["_law_script","_law_at"] (qXn K):=by
 refine F.okA qDe λcdv A outer s H vs Q E hr2 h=>?_
 obtain⟨a,ns,rfl,hS,q⟩:=h;have hr1:=hr2.mono (j:=1) (by decide);refine⟨_,(qAa (v4 2 qDe (qAv G1 hr2 rfl .nil pass0 (qAe (pv 0) (pa1 (qAg qA8 (pv 1) qAb))))) (qAa (v4 3 qDe (qA2 (qQt (qA6 (zBu qAb (zBu qAb qAz))) (qQt (qA6 (zBu qAb (zBu qAb qAz))) (qQt (qA6 (zBu qAb (zBu qAb qAz))) qAz))))) (qAa (v4 4 qDe qAb) (qAa (qBf PassesOwn.never rfl (qBg rfl mr (pa1 (qAg qA8 qAb (qAg qA9 (pv 2) qAb)))) (v5 5 qDe) (qAa (v4 6 qDe (qAg qA9 (qAg qA4 (pv 2) qAb) qAb)) (qAa (v4 7 qDe (qAg qA9 (qAg qA4 (pv 2) qAb) (qAh qAi rfl ml hAt (pa1 (pv 3))))) (qAa (v4 2 qDe (qAg qA4 (qAg qA4 (pv 2) qAb) (qAh qAi rfl ml hAt (pa1 (pv 3))))) (qAa (qGz (qDu hAx PySem.F.slot_list_pop PySem.F.type_list_pop qPc (pv 3) (pa1 (pv 7))) (qB0 rfl (qAs (v5 8 qDe) (qAs (v5 9 qDe) qBc)))) (qAd (qBj (PW.pt (qLd (qAn qB4 (pv 6) qAb (nomark _)) (qH7 (qAn qFq (qAh qAi rfl ml hAt (pa1 (pv 3))) qAb (nomark _))))) (qAa (v4 3 qDe (qAg qB9 (pv 3) (qA2 (qQt (qA6 (qLj (pv 8) (qLj (pv 4) qAz))) (qQt (qA6 (qLj (pv 8) (zEr (qAg qA8 (pv 4) qAb) qAz))) (qQt (qA6 (qLj (pv 4) (zEr (qAg qA8 (pv 4) qAb) qAz))) (qQt (qA6 (qLj (pv 4) (qLj (pv 9) qAz))) (qQt (qA6 (zEr (qAg qA8 (pv 4) qAb) (qLj (pv 9) qAz))) qAz)))))))) (qAd (qLe (i:=4) qDe.nd rfl (Or.inl rfl) qAb qPo))) (qAd (qBj (qAn qB4 (pv 6) qAb (nomark _)) (qAa (v4 3 qDe (qAg qB9 (pv 3) (qA2 (qQt (qA6 (qLj (pv 8) (qLj (pv 4) qAz))) (qQt (qA6 (qLj (pv 4) (qLj (pv 9) qAz))) qAz))))) (qAd (qLe (i:=4) qDe.nd rfl (Or.inl rfl) qAb qPo))) (qAd (qBj (qAn qB4 (pv 6) qAb (nomark _)) (qAd (v4 3 qDe (qAg qB9 (pv 3) (qA2 (qQt (qA6 (qLj (pv 8) (qLj (pv 9) qAz))) (qQt (qA6 (qLj (pv 8) (qLj (pv 9) qAz))) qAz)))))) (qAd (v4 3 qDe (qAg qB9 (pv 3) (qA2 (qQt (qA6 (qLj (pv 8) (qLj (pv 9) qAz))) qAz)))))))))))))))) (qAa (v4 10 qDe (qAh qCa rfl mso qA3 (pa1 (qAv G2 hr1 rfl .nil pass0 (qAe (qAv G1 hr2 rfl .nil pass0 (qAe (pv 0) (pa1 (qAg qA8 (pv 1) qAb)))) (pa1 (qAh (qF5 rfl) rfl mmi qF8 (qAe qAb (pa1 (qAh qAi rfl ml hAt (pa1 (pv 3)))))))))))) (qAa (v4 11 qDe (qBp qEe rfl mL qCo (pa1 (qFn qMx (pv 3) qH9 (qH8 qAb))))) (qAa (v4 12 qDe (qA2 qAz)) (qAa (qKd PassesOwn.never (qAn (qFo (qSf hr2)) (pv 11) (qA2 qAz) (nomark _)) (qAa (v4 13 qDe (qDu hAx PySem.F.slot_list_pop PySem.F.type_list_pop qPc (pv 11) (pa1 (qAg qA9 (pv 2) (qAh qAi rfl ml hAt (pa1 (pv 11))))))) (qAa (v4 2 qDe (qAg qA4 (pv 2) (qAg qA8 (qAh qAi rfl ml hAt (pa1 (pv 11))) qAb))) (qAd (qCd (qDu hAx hBn hBo qBw (pv 12) (pa1 (qAg qSv (qA6 (pa1 (qBh qBx (pv 10) (qAh qAi rfl ml hAt (pa1 (pv 12))) (λ_ _=>rfl)))) (qBp qF3 rfl mtu qFd (pa1 (qAh qCa rfl mso qA3 (pa1 (qA7 (N:=glN) (sc:=qAc qVs) (N':=["_law_point"]) (sub:=[none]) (zCr (pv 13)) (λC s H fp=>⟨qAw,(qAg qEn qEu (qBp qEd rfl mst qF7 (pa1 (pv 0))))⟩)))))))))))))) (qAd (qAt (pv 12))))))))))),?_⟩;refine⟨_,rfl,_,rfl,_,_,rfl,rfl,a,ns,_,rfl,hS,by decide,by decide,λB0=>?_⟩;refine⟨(by show 2<=sizeLine;decide),λT1 hT1=>⟨(by show 2<=sizeLine;decide),λT2 hT2=>⟨(by show 2<=sizeLine;decide),λT3 hT3=>⟨(by show 3<=sizeLine;decide),λnp hnp=>?_⟩⟩⟩⟩;have X1:=Ext.new hT1 (.tup (enV (0,1)));have X2:=Ext.new hT2 (.tup (enV (1,2)));have X3:=Ext.new hT3 (.tup (enV (0,2)));have X4:=Ext.new hnp (.lst [V.ref T1,V.ref T2,V.ref T3]);have E4:=X1.trans (X2.trans (X3.trans X4));have np0:H np=none:=(X1.trans (X2.trans X3)).none hnp;have en0:qBi (upd (upd (upd (upd H T1 (.tup (enV (0,1)))) T2 (.tup (enV (1,2)))) T3 (.tup (enV (0,2)))) np (.lst [V.ref T1,V.ref T2,V.ref T3])) np [(0,1),(1,2),(0,2)] :=
  ⟨[T1,T2,T3],upd_same,.cons ((X2.trans (X3.trans X4)) _ _ upd_same) (.cons ((X3.trans X4) _ _ upd_same) (.cons (X4 _ _ upd_same) .nil))⟩
 have i0:=hBi B0 (show(3:Int)≠0 by decide);have i1:=hB9 B0 (show(0:Int)<3 by decide);refine⟨_,rfl,_,_,rfl,rfl,(by show(0:Int)<_;decide),_,_,rfl,rfl,2+B0 % 3,rfl,by omega,by omega,qB5 (lo:=0) (n:=(2+B0 % 3).toNat) (λi σ H'=>∃B m np es,GI H a i σ H' B m np es)
  ⟨B0,3,np,_,⟨none,none,none,none,none,rfl⟩,E4,np0,en0,by decide,by decide,by decide,by decide,λe he=>?_⟩ ?_ ?_⟩
 ·have:∀e∈[((0:Int),(1:Int)),(1,2),(0,2)],(0<=e.1/\e.1<3)/\0<=e.2/\e.2<3:=by decide
  exact this e he
 ·clear en0 E4 np0 X4 X3 X2 X1 hnp hT3 hT2 hT1;rintro i σ H' hi ⟨B,m,np,es,⟨x5,x6,x7,x8,x9,rfl⟩,ext,np0,es0,l3,le,m3,me,ins⟩;obtain⟨as,ea1,ea2⟩:=id es0;have la:as.length=es.length:=ea2.length;have lm:(as.map V.ref).length=es.length:=by rw[hA1];exact la
  refine⟨_,rfl,_,_,rfl,rfl,⟨by decide,by decide⟩,_,_,rfl,rfl,(by show(0:Int)<_;decide),?_⟩;refine⟨_,rfl,_,_,rfl,rfl,⟨by decide,by decide⟩,_,rfl,np,_,rfl,.inl (SqL.of ea1),_,_,rfl,rfl,(by rw[lm];omega),?_⟩;refine⟨_,rfl,_,_,rfl,rfl,⟨by decide,by decide⟩,_,rfl,np,_,rfl,.inl (SqL.of ea1),_,_,rfl,rfl,⟨by rw[lm];omega,by rw[lm];omega⟩,?_⟩;obtain⟨j,hj,ej⟩:=qS6 (B / 12) (n:=(as.map V.ref).length) (by omega);have hja:j<as.length:=by omega
  have gj:(as.map V.ref)[j]?=some (V.ref as[j]):=by rw[hAi,hA2 hja];rfl
  obtain⟨e,he,hbe⟩:=qAr ea2 (hA2 hja);have hin:=ins e (hAh he);refine⟨_,rfl,.inl ⟨rfl,_,SqL.of ea1⟩,_,rfl,np,_,(j:Int),j,_,rfl,(by show [V.int (B / 12 % (((as.map V.ref).length:Nat):Int))]=_;rw[ej]),ea1,by omega,by omega,qXz hj,gj,?_⟩;have P1:=qBi.pop j ea1 ea2;have E1:=ext.over np0 (.lst ((as.map V.ref).eraseIdx j));have hb1:upd H' np (.lst ((as.map V.ref).eraseIdx j)) as[j]=some (.tup (enV e)):=by
   rw[qAk (λz=>by rw[z,ea1]at hbe;cases hbe)];exact hbe
  have lj:j<es.length:=by omega
  have le1:(es.eraseIdx j).length=es.length-1:=List.length_eraseIdx_of_lt lj;have in1:∀x∈es.eraseIdx j,qQ2 m x:=λx hx=>ins x (List.mem_of_mem_eraseIdx hx)
  refine⟨as[j],_,rfl,SqT.of hb1,rfl,_,_,rfl,_,_,rfl,rfl,?_⟩;revert P1 E1 hb1;generalize upd H' np (.lst ((as.map V.ref).eraseIdx j))=H1;generalize es.eraseIdx j=fs at le1 in1 ⊢;intro P1 E1 hb1;obtain⟨xs1,ys1,hx1,_,lx1,_⟩:=qBi.cat (r:=np) P1 P1;obtain⟨h11,h12⟩:=hin.1;obtain⟨h21,h22⟩:=hin.2;have fin:∀(gs:List Pr2) (m':Int) (L:Addr) (H2:Hp) (w5 w6 w7 w8 w9:Option V),Ext H1 H2->qBi H2 L gs->1<=gs.length->gs.length<=5->m<=m'->m'<=m+2->(∀e∈gs,qQ2 m' e)->∃xs ys,H2 np=some (.lst xs)/\H2 L=some (.lst ys)/\xs.length+ys.length<=sizeLine/\∀r,H2 r=none->GI H a (i+1) [some (.ref a),some (.int 1),some (.int (B / 12 / (((as.map V.ref).length:Nat):Int))),some (.ref r),some (.int m'),w5,w6,w7,w8,w9,none,none,none,none] (upd H2 r (.lst (xs++ys))) (B / 12 / (((as.map V.ref).length:Nat):Int)) m' r (fs++gs):=by
   intro gs m' L H2 w5 w6 w7 w8 w9 e2 hg g1 g5 mm mm2 gi;obtain⟨xs,ys,h1,h2,l1,l2,_⟩:=qBi.cat (r:=np) (P1.ext e2) hg;refine⟨xs,ys,h1,h2,hB5 (qAf (by omega)),λr r0=>?_⟩;obtain⟨xs',ys',h1',h2',_,_,k⟩:=qBi.cat (r:=r) (P1.ext e2) hg;rw[h1]at h1';rw[h2]at h2';cases h1';cases h2';exact⟨⟨_,_,_,_,_,rfl⟩,E1.trans (e2.trans (Ext.new r0 _)),(E1.trans e2).none r0,k r0,by rw[hAc];omega,by rw[hAc];omega,by omega,by omega,λx hx=>(hAd.mp hx).elim (λz=>(in1 x z).mono mm) (λz=>gi x z)⟩
  have two:2<=sizeLine:=by decide
  have inP:∀ {x y m':Int},0<=x->x<m'->0<=y->y<m'->qQ2 m' (x,y):=λa b c d=>⟨⟨a,b⟩,c,d⟩
  refine⟨_,rfl,rfl,_,rfl,?_⟩;refine qBy (λc=>?c1) (λc=>?c2)
  case' c1 =>
   refine⟨_,rfl,np,_,rfl,.inl (SqL.of hx1),_,_,rfl,rfl,_,rfl,?_⟩;refine qBy (λc2=>?c3) (λc2=>?c4)
  case' c2=>refine qFz ?_
  case c3 =>
   refine⟨_,rfl,_,rfl,_,rfl,two,λT1 hT1=>⟨_,rfl,_,rfl,_,_,rfl,rfl,two,λT2 hT2=>⟨_,rfl,_,rfl,_,_,rfl,rfl,two,λT3 hT3=>⟨_,rfl,_,rfl,two,λT4 hT4=>⟨_,rfl,_,_,rfl,rfl,_,rfl,two,λT5 hT5=>⟨(by show 5<=sizeLine;decide),λL hL=>?_⟩⟩⟩⟩⟩⟩;have Y1:=Ext.new hT1 (.tup (enV (e.1,m)));have Y2:=Ext.new hT2 (.tup (enV (e.1,m+1)));have Y3:=Ext.new hT3 (.tup (enV (m,m+1)));have Y4:=Ext.new hT4 (.tup (enV (m,e.2)));have Y5:=Ext.new hT5 (.tup (enV (m+1,e.2)));have Y6:=Ext.new hL (.lst [V.ref T1,V.ref T2,V.ref T3,V.ref T4,V.ref T5]);obtain⟨xs,ys,k1,k2,k3,k4⟩:=fin [(e.1,m),(e.1,m+1),(m,m+1),(m,e.2),(m+1,e.2)] (m+2) L _ (some (.int (0+(i:Int)))) (some (.int (B / 3 % 4))) (some (.int (B / 12 % (((as.map V.ref).length:Nat):Int)))) (some (.int e.1)) (some (.int e.2)) (Y1.trans (Y2.trans (Y3.trans (Y4.trans (Y5.trans Y6)))))
    ⟨[T1,T2,T3,T4,T5],upd_same,.cons ((Y2.trans (Y3.trans (Y4.trans (Y5.trans Y6)))) _ _ upd_same) (.cons ((Y3.trans (Y4.trans (Y5.trans Y6))) _ _ upd_same) (.cons ((Y4.trans (Y5.trans Y6)) _ _ upd_same) (.cons ((Y5.trans Y6) _ _ upd_same) (.cons (Y6 _ _ upd_same) .nil))))⟩ (by show 1<=5;decide) (by show 5<=5;decide) (by omega) (by omega) (λx hx=>by
     simp only[hAg,List.mem_nil_iff,hFi]at hx;rcases hx with z|z|z|z|z <;> (rw[z];exact inP (by omega) (by omega) (by omega) (by omega)))
   refine⟨np,L,xs,ys,rfl,rfl,k1,k2,k3,λr r0=>⟨_,rfl,_,_,rfl,rfl,_,_,_,_,k4 r r0⟩⟩
  all_goals
   refine⟨_,rfl,rfl,_,rfl,?_⟩;refine qBy (λd=>?_) (λd=>?_)
   ·refine⟨_,rfl,_,rfl,_,rfl,two,λT1 hT1=>⟨_,rfl,_,rfl,two,λT2 hT2=>⟨two,λL hL=>?_⟩⟩⟩;have Y1:=Ext.new hT1 (.tup (enV (e.1,m)));have Y2:=Ext.new hT2 (.tup (enV (m,e.2)));have Y3:=Ext.new hL (.lst [V.ref T1,V.ref T2]);obtain⟨xs,ys,k1,k2,k3,k4⟩:=fin [(e.1,m),(m,e.2)] (m+1) L _ (some (.int (0+(i:Int)))) (some (.int (B / 3 % 4))) (some (.int (B / 12 % (((as.map V.ref).length:Nat):Int)))) (some (.int e.1)) (some (.int e.2)) (Y1.trans (Y2.trans Y3))
     ⟨[T1,T2],upd_same,.cons ((Y2.trans Y3) _ _ upd_same) (.cons (Y3 _ _ upd_same) .nil)⟩ (by show 1<=2;decide) (by show 2<=5;decide) (by omega) (by omega) (λx hx=>by
      simp only[hAg,List.mem_nil_iff,hFi]at hx;rcases hx with z|z <;> (rw[z];exact inP (by omega) (by omega) (by omega) (by omega)))
    exact⟨np,L,xs,ys,rfl,rfl,k1,k2,k3,λr r0=>⟨_,rfl,_,_,rfl,rfl,_,_,_,_,k4 r r0⟩⟩
   refine⟨_,rfl,rfl,_,rfl,?_⟩;refine qBy (λd2=>?_) (λd2=>?_)
   ·refine⟨_,rfl,_,rfl,_,rfl,two,λT1 hT1=>⟨_,rfl,_,rfl,two,λT2 hT2=>⟨two,λL hL=>?_⟩⟩⟩;have Y1:=Ext.new hT1 (.tup (enV (e.1,e.2)));have Y2:=Ext.new hT2 (.tup (enV (e.1,e.2)));have Y3:=Ext.new hL (.lst [V.ref T1,V.ref T2]);obtain⟨xs,ys,k1,k2,k3,k4⟩:=fin [(e.1,e.2),(e.1,e.2)] m L _ (some (.int (0+(i:Int)))) (some (.int (B / 3 % 4))) (some (.int (B / 12 % (((as.map V.ref).length:Nat):Int)))) (some (.int e.1)) (some (.int e.2)) (Y1.trans (Y2.trans Y3))
     ⟨[T1,T2],upd_same,.cons ((Y2.trans Y3) _ _ upd_same) (.cons (Y3 _ _ upd_same) .nil)⟩ (by show 1<=2;decide) (by show 2<=5;decide) (by omega) (by omega) (λx hx=>by
      simp only[hAg,List.mem_nil_iff,hFi]at hx;rcases hx with z|z <;> (rw[z];exact inP (by omega) (by omega) (by omega) (by omega)))
    exact⟨np,L,xs,ys,rfl,rfl,k1,k2,k3,λr r0=>⟨_,_,_,_,k4 r r0⟩⟩
   ·refine⟨_,rfl,_,rfl,_,rfl,two,λT1 hT1=>⟨(by show 1<=sizeLine;decide),λL hL=>?_⟩⟩;have Y1:=Ext.new hT1 (.tup (enV (e.1,e.2)));have Y3:=Ext.new hL (.lst [V.ref T1]);obtain⟨xs,ys,k1,k2,k3,k4⟩:=fin [(e.1,e.2)] m L _ (some (.int (0+(i:Int)))) (some (.int (B / 3 % 4))) (some (.int (B / 12 % (((as.map V.ref).length:Nat):Int)))) (some (.int e.1)) (some (.int e.2)) (Y1.trans Y3)
     ⟨[T1],upd_same,.cons (Y3 _ _ upd_same) .nil⟩ (by show 1<=1;decide) (by show 1<=5;decide) (by omega) (by omega) (λx hx=>by
      rw[hA9.mp hx];exact inP (by omega) (by omega) (by omega) (by omega))
    exact⟨np,L,xs,ys,rfl,rfl,k1,k2,k3,λr r0=>⟨_,_,_,_,k4 r r0⟩⟩
 ·clear en0 E4 np0 X4 X3 X2 X1 hnp hT3 hT2 hT1;rintro σ H' ⟨B,m,np,es,⟨x5,x6,x7,x8,x9,rfl⟩,ext,np0,es0,l3,le,m3,me,ins⟩;obtain⟨as,ea1,ea2⟩:=id es0;have la:as.length=es.length:=ea2.length;have lm:(as.map V.ref).length=es.length:=by rw[hA1];exact la
  have n4:(2+B0 % 3).toNat<=4:=by omega
  refine⟨_,rfl,_,rfl,_,_,rfl,rfl,a,ns,_,rfl,ext.sqL hS,by decide,by decide,λB1=>?_⟩;refine⟨_,rfl,np,_,rfl,.inl (SqL.of ea1),_,_,rfl,?_⟩;obtain⟨n,en,n12,n3,ne12⟩:∃n:Nat,(if (((as.map V.ref).length:Nat):Int)<12 then (((as.map V.ref).length:Nat):Int) else 12)=(n:Int)/\n<=12/\3<=n/\n=(es.take 12).length:=by
   rw[hAk];by_cases c:(((as.map V.ref).length:Nat):Int)<12
   ·rw[hEn c];exact⟨_,rfl,by omega,by omega,by omega⟩
   ·rw[hEm c];exact⟨12,rfl,by omega,by omega,by omega⟩
  rw[en];refine⟨B1,(n:Int),rfl,by omega,by omega,λnr ss H2 e2 nr0 hss lss tx ndc=>?_⟩;have nd0:ss.Nodup:=ndc (by omega);refine⟨nr,ss,rfl,SqL.of hss,by omega,λnm aA hnm pm srt=>?_⟩;have nd:aA.Nodup:=pm.symm.nodup nd0;have rn:qEp aA:=qKa srt nd;have txn:Tx aA:=λx hx=>tx x (pm.mem_iff.mp hx)
  have lnm:aA.length=n:=by rw[pm.length_eq,lss];omega
  have Z2:=Ext.new hnm (.lst (aA.map V.str));have E2:=ext.trans (e2.trans Z2);have hn2:LsS (upd H2 nm (.lst (aA.map V.str))) nm aA:=upd_same;have ea2':=Paired.mapP ea2 λa t z=>(e2.trans Z2) _ _ z
  have ea1':=(e2.trans Z2) _ _ ea1;revert E2 hn2 ea2' ea1';generalize upd H2 nm (.lst (aA.map V.str))=H3;intro E2 hn2 ea2' ea1';refine⟨_,rfl,_,rfl,np,_,rfl,SqL.of ea1',λl1 hl1=>?_⟩;rw[show qW2 (as.map V.ref) none (some 12)=(as.take 12).map V.ref by rw[List.map_take];exact qT4 (as.map V.ref) 12];have Z3:=Ext.new hl1 (.lst ((as.take 12).map V.ref));refine⟨l1,_,rfl,.inl (SqL.of upd_same),λod hod=>?_⟩;have Z4:=Ext.new hod (.lst ((as.take 12).map V.ref));refine⟨hAp _,λfo hfo=>?_⟩;have Z5:=Ext.new hfo (.lst []);have Z35:=Z3.trans (Z4.trans Z5);refine⟨λk σ H6=>∃B od fo nm es net,GW H a aA k σ H6 B m od fo nm es net,⟨n,B,od,fo,nm,es.take 12,[],⟨np,x5,x6,x7,x8,x9,none,rfl⟩,E2.trans Z35,(E2.trans Z3).none hod,(E2.trans (Z3.trans Z4)).none hfo,?_,?_,?_,Z35 _ _ hn2,⟨as.take 12,Z5 _ _ upd_same,?_⟩,⟨[],upd_same,.nil⟩,ne12.symm,by rw[lnm];exact Nat.zero_add _,rfl,λe he=>ins e (hDc he)⟩,?_⟩
  ·intro z;rw[<-z,upd_same]at hfo;cases hfo
  ·intro z;rw[<-z,Z3 _ _ hn2]at hod;cases hod
  ·intro z;rw[<-z,(Z3.trans Z4) _ _ hn2]at hfo;cases hfo
  ·exact qIb 12 (Paired.mapP ea2' λa t z=>Z35 _ _ z)
  clear Z35 Z5 Z4 Z3 hfo hod hl1 ea1' ea2' hn2 E2 es0 ea1 ea2 la lm en e2 hss Z2 hnm ext l3 le ne12;rintro k σ H6 ⟨B,od,fo,nm,es,net,⟨np,x5,x6,x7,x8,x9,x13,rfl⟩,ext,od0,fo0,ne,no,nf,hn,es0,nt,lk,ln,fst,ins⟩;obtain⟨as,ea1,ea2⟩:=id es0;have la:as.length=es.length:=ea2.length;refine⟨_,rfl,hAp _,λl0 hl0=>?_⟩;have X0:=Ext.new hl0 (.lst []);have pr0:=Paired.mapP ea2 λa t z=>X0 _ _ z
  have od1:=X0 _ _ ea1;refine⟨_,_,.lst (SqL.of od1) (qTy pr0),.lst (SqL.of upd_same) .nil,qM0 es,(by decide +kernel),_,rfl,?_⟩;have hn0:=X0 _ _ hn;have nt0:=nt.ext X0;have E0:=ext.trans X0;revert pr0 od1 hn0 nt0 E0;generalize upd H6 l0 (.lst [])=H7;intro pr0 od1 hn0 nt0 E0;refine qBy (λc=>⟨λσ' H'=>∃m',m'<k/\∃B od fo nm es net,GW H a aA m' σ' H' B m od fo nm es net,λ_ _ h=>h,?_⟩) (λc=>?_)
  ·have lp:0<es.length:=List.length_pos_iff.mpr λz=>by
    rw[z]at c;revert c
    decide +kernel
   have lm:(as.map V.ref).length=es.length:=by rw[hA1];exact la
   obtain⟨j,hj,ej⟩:=qS6 B (n:=(as.map V.ref).length) (by omega);have hja:j<as.length:=by omega
   have gj:(as.map V.ref)[j]?=some (V.ref as[j]):=by rw[hAi,hA2 hja];rfl
   obtain⟨e,he,hbe⟩:=qAr pr0 (hA2 hja);have hin:=ins e (hAh he);refine⟨_,rfl,.inl ⟨rfl,_,SqL.of od1⟩,_,rfl,_,rfl,od,_,rfl,.inl (SqL.of od1),_,_,rfl,rfl,(by rw[lm];omega),od,_,(j:Int),j,_,rfl,(by show [V.int (B % (((as.map V.ref).length:Nat):Int))]=_;rw[ej]),od1,by omega,by omega,qXz hj,gj,?_⟩;have P1:=qBi.pop j od1 pr0;have E1:=E0.over od0 (.lst ((as.map V.ref).eraseIdx j));have hb1:upd H7 od (.lst ((as.map V.ref).eraseIdx j)) as[j]=some (.tup (enV e)):=by
    rw[qAk (λz=>by rw[z,od1]at hbe;cases hbe)];exact hbe
   have hn1:LsS (upd H7 od (.lst ((as.map V.ref).eraseIdx j))) nm aA:=by unfold LsS;rw[qAk no];exact hn0
   have nt1:=nt0.oth (u:=.lst ((as.map V.ref).eraseIdx j)) od1 (Ne.symm ne);have lj:j<es.length:=by omega
   have le1:(es.eraseIdx j).length=es.length-1:=List.length_eraseIdx_of_lt lj;have in1:∀x∈es.eraseIdx j,qQ2 m x:=λx hx=>ins x (List.mem_of_mem_eraseIdx hx)
   revert P1 E1 hb1 hn1 nt1;generalize upd H7 od (.lst ((as.map V.ref).eraseIdx j))=H8;generalize es.eraseIdx j=fs at le1 in1 ⊢;intro P1 E1 hb1 hn1 nt1;obtain⟨bs,eb1,eb2⟩:=id P1;have lb:bs.length=fs.length:=eb2.length;obtain⟨ds,ed1,ed2⟩:=id nt1;have ld:ds.length=net.length:=ed2.length;refine⟨_,rfl,_,rfl,od,_,rfl,.inl (SqL.of eb1),_,_,rfl,rfl,_,_,rfl,rfl,⟨by rw[hA1];omega,by rw[hA1];omega⟩,?_⟩;have lnn:net.length<aA.length:=by omega
   have gn:atI (aA.map V.str) (((ds.map V.ref).length:Nat):Int)=some (.str aA[net.length]):=by
    rw[hA1,ld];exact qAy (by rw[hAi,hA2 lnn];rfl)
   refine⟨_,rfl,.inl ⟨rfl,_,SqL.of ed1⟩,_,rfl,_,rfl,fo,_,rfl,.inl (SqL.of ed1),nm,_,_,_,rfl,rfl,SqL.of hn1,gn,(by show 1<=sizeLine;decide),λT1 hT1=>?_⟩;have Y1:=Ext.new hT1 (.tup [V.str aA[net.length]]);refine⟨_,rfl,as[j],rfl,⟨_,SqT.of (Y1 _ _ hb1)⟩,?_⟩;refine qMp (xs:=enV e) (λi ys H9=>upd H8 T1 (.tup [V.str aA[net.length]])=H9/\∃l:List Str,ys=l.map V.str/\l.length=i) ⟨rfl,[],rfl,rfl⟩ (λi ys H9 _ h=>by rw[<-h.1];exact SqT.of (Y1 _ _ hb1)) ?_ ?_
   ·rintro i x ys H9 hx ⟨rfl,l,rfl,ll⟩;have hi:i<2:=(hAm.mp hx).1;obtain⟨v,rfl,v0,v1⟩:∃v:Int,x = .int v/\0<=v/\v<m:=by
     match i,hi,hx with
     |0,_,hx=>cases hx;exact⟨_,rfl,hin.1.1,hin.1.2⟩
     |1,_,hx=>cases hx;exact⟨_,rfl,hin.2.1,hin.2.2⟩
    obtain⟨u,rfl⟩:=Int.eq_ofNat_of_zero_le v0;obtain⟨s1,s2⟩:=qRi u (by omega);have s3:(1:Nat)+4<=sizeLine:=by decide
    refine⟨sls,iteT (B:=False) ⟨_,rfl,_,rfl,s2,_,_,rfl,rfl,hAw (Nat.add_le_add_left s1 _) s3,⟨by rw[hA1];exact qAf (by omega),nxt hi ⟨rfl,l++[_],by rw[hA3];rfl,by rw[hAc,ll];rfl⟩⟩⟩⟩
   rintro ys H9 ⟨rfl,l,rfl,ll⟩ L2 hL2;have Y2:=Y1.trans (Ext.new hL2 (.lst (l.map V.str)));have ll2:l.length=2:=ll;refine⟨L2,l,rfl,SqL.of upd_same,by omega,λS ss hS' perm srt=>?_⟩;have Y4:=Y2.trans (Ext.new hS' (.lst (ss.map V.str)));refine⟨S,_,rfl,.inl ⟨SqL.of upd_same,λT2 hT2=>?_⟩⟩;have lss:ss.length=2:=by rw[perm.length_eq];exact ll2
   obtain⟨x,y,rfl⟩:∃x y,ss=[x,y]:=by
    match ss,lss with
    |[x,y],_=>exact⟨x,y,rfl⟩
   have Y5:=Y4.trans (Ext.new hT2 (.tup ([x,y].map V.str)));have t1:upd H8 T1 (.tup [V.str aA[net.length]]) T1=some (.tup [V.str aA[net.length]]):=upd_same;have t15:=Ext.new hT2 (.tup ([x,y].map V.str)) _ _ (Ext.new hS' (.lst ([x,y].map V.str)) _ _ (Ext.new hL2 (.lst (l.map V.str)) _ _ t1));refine⟨T1,T2,_,_,rfl,rfl,SqT.of t15,SqT.of upd_same,(by simp),(by show 3<=sizeLine;decide),(λz=>by cases z),λ_ T3 hT3=>?_⟩;have Y6:=Y5.trans (Ext.new hT3 (.tup (trV (aA[net.length],x,y))));refine⟨fo,_,_,rfl,rfl,Y6 _ _ ed1,?_,?_⟩
   ·rw[hA1];exact qAf (by omega)
   ·refine⟨k-1,by omega,_,od,fo,nm,fs,net++[(aA[net.length],x,y)],⟨_,_,_,_,_,_,_,rfl⟩,(E1.trans Y6).over fo0 _,od0,fo0,ne,no,nf,by unfold LsS;rw[qAk nf];exact Y6 _ _ hn1,(P1.ext Y6).oth (Y6 _ _ ed1) ne,qFe.snoc ed1 ed2 Y6 upd_same,by omega,by rw[hAc];show _+1+_=_;omega,?_,in1⟩;rw[hA3,fst,hAc];show _=aA.take (net.length+1);rw[qAl (hA2 lnn)];rfl
  ·have e0:es=[]:=by
    cases es with
    |nil=>rfl
    |cons x r=>exact absurd rfl c
   subst e0;have k0:k=0:=lk.symm;subst k0;have fn:net.map (·.1)=aA:=by rw[fst];exact hA5 (by omega)
   exact⟨_,rfl,q fo net _ E0 fo0 nt0 (by omega) (by rw[fn];exact txn) (by rw[fn];exact rn)⟩
end
def qRs(K:PySem.W.Frag)(Pb:Addr):Sp:=λvs H Q _=>∃(a:Addr) (ns:List Int),vs=[.ref a,.int 1]/\SqL K H a (ns.map V.int)/\TabW H Pb lpB qB/\∀(T na ba:Addr) (aA:List Str) (N:List Nat) (H':Hp),ExtB Pb H H'->H' T=some (.tup [.ref na,.ref ba])->LsS H' na aA->LsN H' ba N->qEp aA->Tx aA->aA.length<=12->N.length<=12->(∀x∈N,x<2^aA.length)->Lrr N->TabW H' Pb lpB qB->Q (.ref T) H'
section
variable{P:Program}{w:World}{K:PySem.W.Frag}{mg:Str->Option Value}{base:Heap}{f f1 f2 f3 f4 f5 f6 f7 Pb:Addr}{fd fd1 fd2 fd3 fd4 fd5 fd6 fd7:FuncData}
noncomputable abbrev trN:List Str:=["_law_script","_law_at","_law_net_here","_law_heaps","_law_table"]
theorem qVf:FnScope trN ["_law_script","_law_at"] (qAc qK9):=fsk
theorem qWe(F:Fun K "_law_tree" "_law_tree" qK9 f fd)
  (G1:v9 2 f1 fd1 ["_law_script","_law_k"] (qQk K) "_law_big")
  (G2:v9 3 f2 fd2 ["_law_script","_law_at"] (qXn K) "_law_glued")
  (G3:v9 3 f3 fd3 ["_law_base","_law_many"] (qRw Pb) "_law_blocks")
  (G4:v9 1 f4 fd4 ["_law_numbers"] qI4 "_law_reduced")
  (G5:v9 1 f5 fd5 ["_law_net_here"] qMu "_law_even")
  (G6:v9 5 f6 fd6 ["_law_script","_law_at"] (qXr K Pb) "_law_block")
  (G7:v9 1 f7 fd7 ["_law_names_here","_law_row_here"] qRu "_law_mask")
  (ml:mg "len"=none):v8 6 f fd ["_law_script","_law_at"] (qRs K Pb):=by
 refine F.okA qVf λcdv A outer s H vs Q E hr h=>?_
 obtain⟨a,ns,rfl,hS,tw,q⟩:=h;have hr1:=hr.mono (j:=1) (by decide);have hr2:=hr.mono (j:=2) (by decide);have hr3:=hr.mono (j:=3) (by decide);refine⟨_,(qAa (qSm (qBj (qAn qB4 (qAg qA9 (qAg qA4 (qAv G1 hr2 rfl .nil pass0 (qAe (pv 0) (pa1 (qAg qA8 (pv 1) qAb)))) qAb) qAb) qAb (nomark _)) (qAa (v4 2 qVf (qAv G2 hr3 rfl .nil pass0 (qAe (pv 0) (pa1 (pv 1))))) (qAa (v4 3 qVf (qAv G3 hr3 rfl .nil pass0 (qAe (qAv G4 hr1 rfl .nil pass0 (pa1 (qAv G5 hr1 rfl .nil pass0 (pa1 (pv 2))))) (pa1 (qAh qAi rfl ml hAt (pa1 (pv 2))))))) (qAd (qBj (qAn qB4 (qAh qAi rfl ml hAt (pa1 (pv 3))) qAb (nomark _)) (qAd (qAt (qA6 (qAe (qA7 (N:=trN) (sc:=qAc qK9) (N':=["_law_tie"]) (sub:=[none]) (qAp (pv 2)) (λC s H fp=>⟨qAw,(qBh (show IxR _ (qO2 K) from qBq) (pv 0) qAb (λ_ _=>rfl))⟩)) (pa1 (qAv G4 hr1 rfl .nil pass0 (pa1 (qAv G5 hr1 rfl .nil pass0 (pa1 (pv 2)))))))))) qAx)))) qAx)) (qAa (v6 4 qVf (qAv G6 hr rfl .nil pass0 (qAe (pv 0) (pa1 (pv 1))))) (qAd (qAt (qA6 (qAe (qBh qBq (pv 4) qAb (λ_ _=>rfl)) (pa1 (qAv G4 hr1 rfl .nil pass0 (pa1 (qA7 (N:=trN) (sc:=qAc qK9) (N':=["_law_row_here","_law_table"]) (sub:=[none,some 4]) (qAp (qBh qBq (pv 4) qAb (λ_ _=>rfl))) (λC s H fp=>⟨qAw,(qAv G7 hr1 rfl .nil pass0 (qAe (qBh (show IxR _ (qO2 K) from qBq) (pv 1) qAb (λ_ _=>rfl)) (pa1 (pv 0))))⟩))))))))))),?_⟩;refine⟨λσ' H'=>∃x2 x3:Option V,σ'=[some (.ref a),some (.int 1),x2,x3,none]/\ExtB Pb H H'/\SqL K H' a (ns.map V.int)/\TabW H' Pb lpB qB,?_,?_⟩
 ·refine⟨_,rfl,_,rfl,_,_,rfl,rfl,a,ns,_,rfl,hS,by decide,by decide,λB=>?_⟩;refine⟨_,_,rfl,rfl,⟨by decide,by decide⟩,_,_,rfl,rfl,(by show(0:Int)<_;decide),rfl,_,rfl,?_⟩;refine qBy (λc=>?_) (λc=>⟨none,none,rfl,λ_ _ _ h=>h,hS,tw⟩);refine⟨_,rfl,_,rfl,a,ns,rfl,hS,λnp net H1 e1 np0 nt ln tx rs=>?_⟩;refine⟨_,rfl,np,net,rfl,nt,ln,λev F0 Kp ps' H2 e2 ev0 hev pok ei kw=>?_⟩;have lF:F0.length<=12:=by have:=ei.len;omega
  refine⟨ev,F0,net.length,rfl,hev,by omega,λx hx=>(ei.f1 x hx).1,λrd H3 e3 rd0 hrd=>?_⟩;have E23:=e2.trans e3;obtain⟨as,hn,pr⟩:=id (nt.ext E23);have la:as.length=net.length:=pr.length;have E3:=e1.trans E23;have tw3:=My.TabW.extE tw E3;refine⟨_,rfl,np,_,rfl,.inl (SqL.of hn),rd,redL F0,_,rfl,hrd,hAw (qE3 _) lF,by rw[hA1];omega,tw3,λhp hs H4 eB hp0 hhp pm tw4=>?_⟩;obtain⟨ps3,hP3⟩:=My.TabW.tb tw3;have EB4:ExtB Pb H H4:=λc o n h=>eB c o n (E3 c o h)
  have hS4:SqL K H4 a (ns.map V.int):=zDz hP3 eB (Ext.sqL E3 hS);have ne4:∀ {a:Addr} {o:HO},H3 a=some o->(∀ps,o≠.tbl ps)->H4 a=some o:=λ{a o} h n=>eB _ _ (λz=>by
   rw[z,hP3]at h;exact n _ (hAq h).symm) h
  refine⟨_,rfl,hp,_,rfl,.inl (SqL.of hhp),rfl,_,rfl,?_⟩;refine qBy (λc2=>?_) (λc2=>⟨_,_,rfl,EB4,hS4,tw4⟩);have hn4:=ne4 hn (λ_ z=>by cases z);have pr4:Paired (λa t=>H4 a=some (.tup (trV t))) as net:=Paired.mapP pr λa t z=>ne4 z (λ_ z=>by cases z)
  refine⟨_,rfl,np,rfl,⟨_,SqL.of hn4⟩,?_⟩;refine qHr (λt=>t.1) hn4 pr4 ln (λa t ha C B c=>⟨sls,?_⟩) ?_
  ·exact iteT (B:=B H4) ⟨_,rfl,a,_,_,_,rfl,rfl,SqT.of ha,(by exact qAy (j:=0) rfl),c⟩
  intro na hna;have n5:=Ext.new hna (.lst ((net.map λt=>t.1).map V.str));refine⟨_,rfl,np,net,rfl,⟨as,n5 _ _ hn4,Paired.mapP pr4 λa t z=>n5 _ _ z⟩,ln,λev2 F2 Kp2 ps2 H6 e6 ev20 hev2 pok2 ei2 kw2=>?_⟩;have lF2:F2.length<=12:=by have:=ei2.len;omega
  refine⟨ev2,F2,net.length,rfl,hev2,by omega,λx hx=>(ei2.f1 x hx).1,λrd2 H7 e7 rd20 hrd2=>?_⟩;refine⟨(by show 2<=sizeLine;decide),λT hT=>?_⟩;have n8:=Ext.new hT (.tup [V.ref na,V.ref rd2]);have X:=n5.trans (e6.trans (e7.trans n8));refine q T na rd2 (net.map (·.1)) (redL F2) _ (EB4.trans X.toB) upd_same ((e6.trans (e7.trans n8)) _ _ upd_same) (n8 _ _ hrd2) rs tx (by rw[hA1];exact ln) (hAw (qE3 _) lF2) (λx hx=>?_) (qHf _) (My.TabW.extE tw4 X);rw[hA1];exact Spn.lt (λx hx=>(ei2.f1 x hx).1) (qNb x hx)
 ·rintro σ' H1 ⟨x2,x3,rfl,EB1,hS1,tw1⟩;refine⟨_,rfl,_,rfl,a,ns,rfl,hS1,tw1,λT0 aA rows H2 eB ti bl tx tw2=>?_⟩;obtain⟨ta,tb,hT,hn,hb⟩:=id ti;have tok:=bl.tok;have nd:aA.Nodup:=qC5 tok.rn;obtain⟨bs,hb1,hb2⟩:=id hb;have lb:bs.length=rows.length:=hb2.length;have l16:=tok.lr;refine⟨_,rfl,T0,_,_,_,rfl,rfl,SqT.of hT,(by exact qAy (j:=0) rfl),?_⟩;refine⟨_,rfl,T0,_,_,_,rfl,rfl,SqT.of hT,(by exact qAy (j:=1) rfl),tb,rfl,⟨_,SqL.of hb1⟩,?_⟩;refine qAq (xs:=bs.map V.ref) (λi ys H3=>Ext H2 H3/\ys=((rows.take i).map (maskL aA)).map iV) ⟨Ext.refl _,rfl⟩ (λi ys H3 _ h=>SqL.of (h.1 _ _ hb1)) ?_ ?_
  ·rintro i x ys H3 hx ⟨e3,rfl⟩;obtain⟨b,rfl,hb'⟩:=qA5 hx;obtain⟨r,hr',hbr⟩:=qAr hb2 hb';have hi:=qAu hr';obtain⟨z,rfl⟩:=tok.rw r (hAh hr');have sub:∀n∈rowL aA z,n∈aA:=λn hn=>by obtain⟨i,_,h,_⟩:=qBz.mp hn;exact hAh h
   have lr12:(rowL aA z).length<=12:=by
    unfold rowL;have:=hC0 (λi=>if z.testBit i=true then aA[i]? else none) (List.range aA.length);rw[hB0]at this;have:=tok.ln;omega
   refine⟨sls,iteT (B:=False) ⟨_,rfl,T0,_,_,_,rfl,rfl,SqT.of (e3 _ _ hT),(by exact qAy (j:=0) rfl),_,rfl,ta,b,aA,rowL aA z,rfl,e3 _ _ hn,e3 _ _ hbr,sub,tok.ln,lr12,λH4 e4=>⟨by rw[hA1,hA1,hAk];exact qAf (by omega),nxt (qAu hx) ⟨e3.trans e4,?_⟩⟩⟩⟩;rw[qAl hr',hA3,hA3];rfl
  ·rintro ys H3 ⟨e3,rfl⟩ ml' hml;rw[hA1,lb,hA5 (hAa _)];have n4:=Ext.new hml (.lst ((rows.map (maskL aA)).map iV));have lt:=tok.masks.1;refine⟨ml',rows.map (maskL aA),aA.length,rfl,upd_same,by rw[hA1];omega,lt,λrd H5 e5 rd0 hrd=>?_⟩;refine⟨(by show 2<=sizeLine;decide),λT hT'=>?_⟩;have n8:=Ext.new hT' (.tup [V.ref ta,V.ref rd]);have X:=e3.trans (n4.trans (e5.trans n8));have l8:=bl.l8;refine q T ta rd aA _ _ ((EB1.trans eB).trans X.toB) upd_same (X _ _ hn) (n8 _ _ hrd) tok.rn tx tok.ln (hAw (qE3 _) (by rw[hA1];omega)) (λx hx=>Spn.lt lt (qNb x hx)) (qHf _) (My.TabW.extE tw2 X)
end
abbrev PaE:=Str×List (List Str)
def PaT(H:Hp)(t:Addr)(e:PaE):Prop:=∃G,H t=some (.tup [.str e.1,.ref G])/\qJo H G e.2
theorem PaT.ext(h:PaT H t e)(x:Ext H H'):PaT H' t e:=by
 obtain⟨G,h1,h2⟩:=h;exact⟨G,x _ _ h1,h2.ext x⟩
theorem qTo(xs:List (List α))(i:Nat):(xs.take i).flatten.length<=xs.flatten.length:=by
 have:(xs.take i++xs.drop i).flatten.length=xs.flatten.length:=by rw[List.take_append_drop]
 rw[List.flatten_append,hAc]at this;omega
theorem qL3{α:Type}{xs:List (List α)}{i:Nat}{x:List α}(h:xs[i]?=some x):(xs.take (i+1)).flatten=(xs.take i).flatten++x:=by
 rw[qAl h,List.flatten_append];simp
theorem qIo{R:List (List Str)}:(R.map λr=>r.map V.str).flatten=R.flatten.map V.str:=by
 rw[List.map_flatten]
theorem qE6{H:Hp}:∀ {as:List Addr} {R:List (List Str)},Paired (λa r=>H a=some (.lst (r.map V.str))) as R->Paired (λa xs=>H a=some (.lst xs)) as (R.map λr=>r.map V.str)
 |_,_,.nil=>.nil
 |_,_,.cons h t=>.cons h (qE6 t)
theorem qNj{α:Type}{f:α->V}{l:List α}{i:Nat}{v:V}(h:(l.map f)[i]?=some v):∃a,v=f a/\l[i]?=some a:=by
 rw[hAi]at h;cases e:l[i]? with
 |none=>rw[e]at h;cases h
 |some a=>rw[e]at h;exact⟨a,(hAq h).symm,rfl⟩
theorem qHe(i:Nat):(List.replicate (i+1) true).map V.bl=(List.replicate i true).map V.bl++[V.bl true]:=by
 rw[List.replicate_succ',hA3];rfl
theorem qKb(n:Nat):(List.replicate n true).all id=true:=by
 rw[hDa];intro x hx;rw[List.eq_of_mem_replicate hx];rfl
def qMt:Sp:=λvs H Q _=>∃(p:Addr) (as:List Addr) (xss:List (List V)),vs=[.ref p]/\H p=some (.lst (as.map V.ref))/\Paired (λa xs=>H a=some (.lst xs)) as xss/\xss.flatten.length<=5000/\∀r H',Ext H H'->H r=none->H' r=some (.lst xss.flatten)->Q (.ref r) H'
structure PaOk(es:List PaE):Prop where
 ln:es.length<=10
 kd:∀e∈es,e.1 = "ring"\/e.1 = "bundle"\/e.1 = "whole"
 l3:∀e∈es,3<=e.2.length
 l12:∀e∈es,e.2.length<=12
 rw:∀e∈es,∀r∈e.2,r≠[]/\r.length<=12/\Tx r
def qXs:Sp:=λvs H Q _=>∃(L:Addr) (ts:List Addr) (es:List PaE),vs=[.ref L]/\H L=some (.lst (ts.map V.ref))/\Paired (PaT H) ts es/\PaOk es/\∀H',Ext H H'->Q (.bl true) H'
section
variable{P:Program}{w:World}{K:PySem.W.Frag}{mg:Str->Option Value}{base:Heap}{f f1 f2 f3:Addr}{fd fd1 fd2 fd3:FuncData}
noncomputable abbrev flN:List Str:=["_law_rows","_law_found","_law_row_here"]
theorem qOm:FnScope flN ["_law_rows"] (qAc qR5):=fsk
theorem qWf(F:Fun K "_law_flat" "_law_flat" qR5 f fd):v8 1 f fd ["_law_rows"] qMt:=by
 refine F.okA qOm λcdv A outer s H vs Q E hr h=>?_
 obtain⟨p,as,xss,rfl,hp,pr,lz,q⟩:=h;refine⟨_,(qAa (v4 1 qOm (qA2 qAz)) (qAa (qBf PassesOwn.never rfl (qAp (pv 0)) (v5 2 qOm) (qAd (v4 1 qOm (qAg qB9 (pv 1) (pv 2))))) (qAd (qAt (pv 1))))),?_⟩;refine⟨hAp _,λfo hfo=>?_⟩;have X1:=Ext.new hfo (.lst []);have la:=pr.length;refine⟨_,rfl,p,rfl,⟨_,SqL.of (X1 _ _ hp)⟩,?_⟩;refine qBm (xs:=as.map V.ref) (λi σ H'=>∃(fo:Addr) (x2:Option V),σ=[some (.ref p),some (.ref fo),x2]/\Ext H H'/\H fo=none/\H' fo=some (.lst (xss.take i).flatten)) ⟨fo,none,rfl,X1,hfo,upd_same⟩ (λi σ H' _ h=>by obtain⟨_,_,_,e,_⟩:=h;exact SqL.of (e _ _ hp)) ?_ ?_
 ·rintro i v σ H' hx ⟨fo,x2,rfl,e,fo0,hf⟩;obtain⟨a,rfl,ha⟩:=qA5 hx;obtain⟨xs,hxs,hax⟩:=qAr pr ha;have l1:=qTo xss (i+1);rw[qL3 hxs,hAc]at l1;refine⟨_,rfl,_,rfl,fo,a,_,_,rfl,rfl,hf,e _ _ hax,hB5 (qDl (by omega)),λr hr'=>?_⟩;exact⟨r,_,rfl,e.trans (Ext.new hr' _),e.none hr',by rw[upd_same,qL3 hxs]⟩
 ·rintro σ H' ⟨fo,x2,rfl,e,fo0,hf⟩;rw[hA1,la,hA5 (hAa _)]at hf;exact⟨_,rfl,q fo H' e fo0 hf⟩
noncomputable abbrev arN:List Str:=["_law_found","_law_kind","_law_share"]
theorem qZh:FnScope arN ["_law_found"] (qAc qQq):=fsk
theorem zAr(F:Fun K "_law_are_parts" "_law_are_parts" qQq f fd)(G1:v9 1 f1 fd1 ["_law_rows"] qMt "_law_flat")
  (mi:mg "isinstance"=none) (mal:mg "all"=none) (mL:mg "list"=none) (mtu:mg "tuple"=none) (mst:mg "str"=none) (ml:mg "len"=none):v8 2 f fd ["_law_found"] qXs:=by
 refine F.okA qZh λcdv A outer s H vs Q E hr h=>?_
 obtain⟨L,ts,es,rfl,hL,pr,ok,q⟩:=h;have lt:=pr.length;have l10:=ok.ln;refine⟨_,(qAa (qBj (PW.pt (qLc (qGy (qDz (qAh qC7 rfl mi qC9 (qAe (pv 0) (pa1 (qIa (v:=.ty "list") rfl mL qCo rfl)))))) (qJb (qGy (qDz (qAh (qF6 rfl) rfl mal qF9 (pa1 (qA7 (N:=arN) (sc:=qAc qQq) (N':=["_law_part"]) (sub:=[none]) (qAp (pv 0)) (λC s H fp=>⟨qAw,(qLh (qAh (show qB2 _ _ (λxs H Q=>∃x t c b,xs=[x,V.ty c]/\TyOf K H x t/\PySem.W.kitOne K t (.type c)=some b/\Q (.bl b) H) from qC7) rfl mi qC9 (qAe (pv 0) (pa1 (qIa (v:=.ty "tuple") rfl mtu qFd rfl)))) (qO5 (qDf qB4 (qAh (show qB2 _ _ (λxs H Q=>∃p ys,xs=[V.ref p]/\(SqL K H p ys\/SqT K H p ys)/\Q (.int ys.length) H) from qAi) rfl ml hAt (pa1 (pv 0))) qAb (nomark _))))⟩))))))))) (qAd (qAt qE5)) qAx) (qAa (qBf PassesOwn.never rfl (qAp (pv 0)) (qB0 rfl (qAs (v5 1 qZh) (qAs (v5 2 qZh) qBc))) (qAa (qBj (PW.pt (qLc (qAn qCs (pv 1) (qA2 (qAe qEu (qAe qEu (pa1 qEu)))) (by with_unfolding_all rfl)) (qLc (qGy (qDz (qAh qC7 rfl mi qC9 (qAe (pv 2) (pa1 (qIa (v:=.ty "list") rfl mL qCo rfl)))))) (qJb (qAn qFq (qAh qAi rfl ml hAt (pa1 (pv 2))) qAb (nomark _)))))) (qAd (qAt qE5)) qAx) (qAa (qBj (qGy (qDz (qAh (qF6 rfl) rfl mal qF9 (pa1 (qA7 (N:=arN) (sc:=qAc qQq) (N':=["_law_row_here"]) (sub:=[none]) (qAp (pv 2)) (λC s H fp=>⟨qAw,(qLh (qAh (show qB2 _ _ (λxs H Q=>∃x t c b,xs=[x,V.ty c]/\TyOf K H x t/\PySem.W.kitOne K t (.type c)=some b/\Q (.bl b) H) from qC7) rfl mi qC9 (qAe (pv 0) (pa1 (qIa (v:=.ty "list") rfl mL qCo rfl)))) (qO5 (qDf (show OpR _ _ (zD1 K true) from qFo (qSf hr)) (pv 0) (qA2 qAz) (nomark _))))⟩)))))) (qAd (qAt qE5)) qAx) (qAd (qBj (qGy (qDz (qAh (qF6 rfl) rfl mal qF9 (pa1 (qA7 (N:=arN) (sc:=qAc qQq) (N':=["_law_name"]) (sub:=[none]) (qAp (qAv G1 hr rfl .nil pass0 (pa1 (pv 2)))) (λC s H fp=>⟨qAw,(qAh (show qB2 _ _ (λxs H Q=>∃x t c b,xs=[x,V.ty c]/\TyOf K H x t/\PySem.W.kitOne K t (.type c)=some b/\Q (.bl b) H) from qC7) rfl mi qC9 (qAe (pv 0) (pa1 (qIa (v:=.ty "str") rfl mst qF7 rfl))))⟩)))))) (qAd (qAt qE5)) qAx))))) (qAd (qAt qE5)))),?_⟩;refine⟨_,rfl,_,_,_,true,rfl,.lst hL,qFy _ _,true,rfl,qFz ?_⟩;refine⟨_,rfl,L,rfl,⟨_,SqL.of hL⟩,?_⟩;refine qAq (xs:=ts.map V.ref) (λi ys H'=>H'=H/\ys=(List.replicate i true).map V.bl) ⟨rfl,rfl⟩ (λi ys H' _ h=>by rw[h.1];exact SqL.of hL) ?_ ?_
 ·rintro i v ys H' hx ⟨rfl,rfl⟩;obtain⟨a,rfl,ha⟩:=qA5 hx;obtain⟨e,he,G,h1,h2⟩:=qAr pr ha;have hi:=qAu ha;refine⟨sls,iteT (B:=False) ⟨_,rfl,_,_,_,true,rfl,.tup h1,qFy _ _,_,rfl,iteT ?_⟩⟩;refine⟨_,rfl,a,_,rfl,.inr (SqT.of h1),rfl,by rw[hA1,hDn];exact qAf (by omega),nxt (qAu hx) ⟨rfl,?_⟩⟩;rw[qHe];rfl
 rintro ys H' ⟨rfl,rfl⟩ r hr1;rw[hA1];have X1:=Ext.new hr1 (.lst ((List.replicate ts.length true).map V.bl));refine⟨r,List.replicate ts.length true,rfl,SqL.of upd_same,_,rfl,?_⟩;rw[qKb];refine qFz ?_;refine⟨_,rfl,L,rfl,⟨_,SqL.of (X1 _ _ hL)⟩,?_⟩;refine qBm (xs:=ts.map V.ref) (λi σ H2=>∃(x1 x2:Option V),σ=[some (.ref L),x1,x2]/\Ext H' H2) ⟨none,none,rfl,X1⟩ (λi σ H2 _ h=>by obtain⟨_,_,_,e⟩:=h;exact SqL.of (e _ _ hL)) ?_ ?_
 ·rintro i v σ H2 hx ⟨x1,x2,rfl,e2⟩;obtain⟨a,rfl,ha⟩:=qA5 hx;obtain⟨e,he,G,h1,bs,hb1,hb2⟩:=qAr pr ha;have em:=hAh he;have l3:=ok.l3 e em;have l12:=ok.l12 e em;have lb:bs.length=e.2.length:=hb2.length;refine⟨a,_,rfl,SqT.of (e2 _ _ h1),rfl,_,_,rfl,_,_,rfl,rfl,?_⟩;refine⟨_,rfl,(by show 3<=sizeLine;decide),λkl hkl=>?_⟩;have Y1:=e2.trans (Ext.new hkl (.lst [V.str "ring",V.str "bundle",V.str "whole"]));refine⟨kl,_,rfl,.inl (SqL.of upd_same),rfl,rfl,_,rfl,?_⟩;have kin:inV (.str e.1) [V.str "ring",V.str "bundle",V.str "whole"]=true:=by
   rcases ok.kd e em with z|z|z <;> rw[z] <;> decide +kernel
  rw[hEn rfl,kin];refine qFz ?_;have hG:=Y1 _ _ hb1;refine⟨_,rfl,_,_,_,true,rfl,.lst hG,qFy _ _,true,rfl,qFz ?_⟩;refine⟨_,rfl,G,_,rfl,.inl (SqL.of hG),_,_,rfl,rfl,_,rfl,?_⟩;rw[show decide ((((bs.map V.ref).length:Nat):Int)<3)=false by rw[hA1];exact hEj (by omega)];refine qFz ?_;refine⟨_,rfl,G,rfl,⟨_,SqL.of hG⟩,?_⟩;refine qAq (xs:=bs.map V.ref) (λj ys H3=>Ext H' H3/\ys=(List.replicate j true).map V.bl) ⟨Y1,rfl⟩ (λj ys H3 _ h=>SqL.of (h.1 _ _ hb1)) ?_ ?_
  ·rintro j v ys H3 hy ⟨e3,rfl⟩;obtain⟨b,rfl,hb⟩:=qA5 hy;obtain⟨row,hrow,hbr⟩:=qAr hb2 hb;have hj:=qAu hb;obtain⟨rne,_,rtx⟩:=ok.rw e em row (hAh hrow);refine⟨sls,iteT (B:=False) ⟨_,rfl,_,_,_,true,rfl,.lst (e3 _ _ hbr),qFy _ _,_,rfl,iteT ?_⟩⟩;refine⟨_,rfl,hAp _,λl0 hl0=>?_⟩;have Z0:=e3.trans (Ext.new hl0 (.lst []));refine⟨_,_,qD1 (Z0 _ _ hbr),qD1 (r:=[]) upd_same,qCl λx hx=>(rtx x hx).1.sm.ok,(by decide +kernel),by rw[hA1,hDn];exact qAf (by omega),nxt (qAu hy) ⟨Z0,?_⟩⟩;rw[qHe,qFa,hEj rne];rfl
  rintro ys H3 ⟨e3,rfl⟩ r2 hr2;rw[hA1];have Y2:=e3.trans (Ext.new hr2 (.lst ((List.replicate bs.length true).map V.bl)));refine⟨r2,List.replicate bs.length true,rfl,SqL.of upd_same,_,rfl,?_⟩;rw[qKb];refine qFz ?_;have fl:((e.2.map λr=>r.map V.str).flatten).length<=1000:=by
   rw[List.length_flatten,hB6];have:∀(R:List (List Str)),(∀r∈R,r.length<=12)->(R.map (List.length∘λr=>r.map V.str)).sum<=12*R.length:=by
    intro R
    induction R with
    |nil=>intro _;exact hAp _
    |cons r R ih =>
     intro h;have h1:=h r hA6;have h2:=ih λx hx=>h x (hA4 _ hx)
     rw[hBj,hDd,hCb];show(r.map V.str).length+_<=_;rw[hA1];omega
   have:=this e.2 λr hr=>(ok.rw e em r hr).2.1
   omega
  refine⟨_,rfl,G,bs,e.2.map λr=>r.map V.str,rfl,Y2 _ _ hb1,?_,hAw fl (by decide),λfr H4 e4 fr0 hfr=>?_⟩
  ·exact qE6 (Paired.mapP hb2 λa r z=>Y2 _ _ z)
  rw[qIo]at hfr fl;rw[hA1]at fl;refine⟨fr,rfl,⟨_,SqL.of hfr⟩,?_⟩;refine qAq (xs:=e.2.flatten.map V.str) (λj ys H5=>H4=H5/\ys=(List.replicate j true).map V.bl) ⟨rfl,rfl⟩ (λj ys H5 _ h=>by rw[<-h.1];exact SqL.of hfr) ?_ ?_
  ·rintro j v ys H5 hy ⟨rfl,rfl⟩;obtain⟨x,rfl,hx'⟩:=qNj hy;have hj:=qAu hx';refine⟨sls,iteT (B:=False) ⟨_,rfl,_,_,_,true,rfl,.str x,qFy _ _,by rw[hA1,hDn];exact qAf (by omega),nxt (qAu hy) ⟨rfl,?_⟩⟩⟩;rw[qHe]
  rintro ys H5 ⟨rfl,rfl⟩ r3 hr3;refine⟨r3,List.replicate _ true,rfl,SqL.of upd_same,_,rfl,?_⟩;rw[qKb];refine qFz ?_;exact⟨_,_,rfl,Y2.trans (e4.trans (Ext.new hr3 _))⟩
 ·rintro σ H2 ⟨x1,x2,rfl,e2⟩;exact q H2 e2
end
noncomputable def sgl(x:Nat):Bool:=decide (x&&&(x-1)=0)
noncomputable def crB(S:List Nat)(e g:Nat):Bool:=if sgl g=true then !decide (e&&&g=0) else !decide (red1 S (e&&&g)=0)
noncomputable def qDo(gs some:List Nat):Nat:=gs.foldl (λm g=>2*m+(if g∈some then 1 else 0)) 0
theorem qGl(aA row:List Nat)(n:Nat):qDo (aA++[n]) row=2*qDo aA row+(if n∈row then 1 else 0):=by unfold qDo;rw[hBm];rfl
noncomputable def rowI(aA:List Nat)(x:Nat):List Nat:=(List.range aA.length).filterMap λi=>if x.testBit (aA.length-1-i)=true then aA[i]? else none
theorem qIm(n:Nat):∀other:List Nat,inV (iV n) (other.map iV)=decide (n∈other)
 |[]=>by simp[inV]
 |x :: r=>by
  have ih:=qIm n r;unfold inV at ih ⊢;rw[hBj,List.any_cons,ih];show(((x:Int) == (n:Int)) || decide (n∈r))=_;by_cases e:n=x
  ·subst e;simp
  ·have e':¬((x:Int)=(n:Int)):=λz=>e (by omega)
   have e2:¬x=n:=λz=>e z.symm
   simp[e,e2];exact λz=>absurd z e'
theorem qDp:∀l:List Nat,(l.map iV).all qIx=true
 |[]=>rfl
 |x :: r=>by rw[hBj,List.all_cons,qDp r];rfl
def qJx:Sp:=λvs H Q _=>∃x:Nat,vs=[iV x]/\Q (.bl (sgl x)) H
def qOa:Sp:=λvs H Q _=>∃(p:Addr) (S:List Nat) (one rest met:Nat),vs=[.ref p,iV one,iV rest,iV met]/\LsN H p S/\Q (.bl (decide (met=S.length+1) && (!sgl one && !sgl rest))) H
def qXi:Sp:=λvs H Q _=>∃(p:Addr) (k:List Nat) (x y:Nat),vs=[.ref p,iV x,iV y]/\LsN H p k/\(∀s∈k,s≠0)/\Q (.bl (!decide (red1 k (x&&&y)=0))) H
def zB8:Sp:=λvs H Q _=>∃(p:Addr) (S:List Nat) (e g:Nat),vs=[.ref p,iV e,iV g]/\LsN H p S/\(∀s∈S,s≠0)/\Q (.bl (crB S e g)) H
def qRr:Sp:=λvs H Q _=>∃(pn pr:Addr) (aA row:List Nat),vs=[.ref pn,.ref pr]/\LsN H pn aA/\LsN H pr row/\Q (iV (qDo aA row)) H
def qXg:Sp:=λvs H Q _=>∃(pn:Addr) (aA:List Nat) (x:Nat),vs=[.ref pn,iV x]/\LsN H pn aA/\aA.length<=12/\∀r H',Ext H H'->H r=none->LsN H' r (rowI aA x)->Q (.ref r) H'
theorem iv0(n:Nat):decide (iV n=V.int 0)=decide (n=0):=decide_eq_decide.mpr ⟨λh=>by have:=V.int.inj h;omega,λh=>by rw[h];rfl⟩
theorem qZc(x:Nat):decide (V.int (Builtin.bitAnd (x:Int) ((x:Int)-1))=V.int 0)=sgl x:=by
 cases x with
 |zero=>decide +kernel
 |succ n =>
  rw[show(((n+1:Nat)):Int)-1=((n:Nat):Int) by omega,qCp];exact iv0 _
section
variable{P:Program}{w:World}{K:PySem.W.Frag}{mg:Str->Option Value}{base:Heap}{f f1 f2 f3 f4:Addr}{fd fd1 fd2 fd3 fd4:FuncData}
theorem qVh:FnScope ["mask"] ["mask"] (qAc qM5):=fsk
theorem qSy(F:Fun K "is_single" "is_single" qM5 f fd):v8 1 f fd ["mask"] qJx:=by
 refine F.okA qVh λcdv A outer s H vs Q E hr h=>?_
 obtain⟨x,rfl,q⟩:=h;refine⟨_,qAd (qAt (qDf qB4 (qAg qBu (pv 0) (qAg qCr (pv 0) qAb)) qAb (nomark _))),?_⟩;refine⟨_,rfl,_,rfl,_,_,rfl,rfl,_,_,rfl,rfl,rfl,?_⟩;rw[show decide (V.int (Builtin.bitAnd (x:Int) ((x:Int)-1))=V.int 0)=sgl x from qZc x];exact q
theorem qVg:FnScope ["steps","one","rest","met"] ["steps","one","rest","met"] (qAc qM4):=fsk
theorem qSx(F:Fun K "splits" "splits" qM4 f fd)(G1:v9 1 f1 fd1 ["mask"] qJx "is_single")(ml:mg "len"=none):v8 2 f fd ["steps","one","rest","met"] qOa:=by
 refine F.okA qVg λcdv A outer s H vs Q E hr h=>?_
 obtain⟨p,S,one,rest,met,rfl,hS,q⟩:=h;refine⟨_,qAd (qAt (qLh (qDf qB4 (pv 3) (qAg qA8 (qAh qAi rfl ml hAt (pa1 (pv 0))) qAb) (nomark _)) (qLh (qX6 (qAv G1 hr rfl .nil pass0 (pa1 (pv 1)))) (qO5 (qX6 (qAv G1 hr rfl .nil pass0 (pa1 (pv 2)))))))),?_⟩;have e:decide (iV met=V.int ((((S.map iV).length:Nat):Int)+1))=decide (met=S.length+1):=decide_eq_decide.mpr ⟨λh=>by have:=V.int.inj h;rw[hA1]at this;omega,λh=>by rw[h,hA1];rfl⟩;refine⟨_,rfl,_,rfl,p,_,rfl,.inl (SqL.of hS),_,_,rfl,rfl,rfl,_,rfl,?_⟩;rw[show decide (iV met=V.int ((((S.map iV).length:Nat):Int)+1))=decide (met=S.length+1) from e];refine qBy (λc=>?_) (λc=>?_)
 ·rw[c]at q;refine⟨_,rfl,one,rfl,sgl one,rfl,_,rfl,qBy (λd=>?_) (λd=>?_)⟩
  ·rw[d]at q;exact⟨_,rfl,rest,rfl,sgl rest,rfl,q⟩
  ·have d':(!sgl one)=false:=by cases h:(!sgl one) with|false=>rfl|true=>exact absurd h d
   rw[d']at q;exact q
 ·have c':decide (met=S.length+1)=false:=by cases h:decide (met=S.length+1) with|false=>rfl|true=>exact absurd h c
  rw[c']at q;exact q
theorem zCc:FnScope ["steps","even","some"] ["steps","even","some"] (qAc qZi):=fsk
theorem zAj(F:Fun K "lies_across" "lies_across" qZi f fd)(G1:v9 1 f1 fd1 ["mask","kept"] qOd "lessened"):v8 2 f fd ["steps","even","some"] qXi:=by
 refine F.okA zCc λcdv A outer s H vs Q E hr1 h=>?_
 obtain⟨p,k,x,y,rfl,hk,nz,q⟩:=h;refine⟨_,qAd (qAt (qDf qFp (qAv G1 hr1 rfl .nil pass0 (qAe (qAg qBu (pv 1) (pv 2)) (pa1 (pv 0)))) qAb (nomark _))),?_⟩;refine⟨_,rfl,_,rfl,_,_,rfl,rfl,_,rfl,x&&&y,p,k,(by show [V.int (Builtin.bitAnd (x:Int) (y:Int)),V.ref p]=_;rw[qCp]),hk,nz,rfl,?_⟩;have e:(!decide (iV (red1 k (x&&&y))=V.int 0))=!decide (red1 k (x&&&y)=0):=by
  rw[decide_eq_decide.mpr (show(V.int ((red1 k (x&&&y):Nat):Int)=V.int 0)↔red1 k (x&&&y)=0 from ⟨λh=>by have:=V.int.inj h;omega,λh=>by rw[h];rfl⟩)]
 rw[e];exact q
theorem zEf:FnScope ["steps","even","group"] ["steps","even","group"] (qAc qZm):=fsk
theorem zCz(F:Fun K "is_crossed" "is_crossed" qZm f fd)(G1:v9 1 f1 fd1 ["mask"] qJx "is_single")
  (G2:v9 2 f2 fd2 ["steps","even","some"] qXi "lies_across"):v8 3 f fd ["steps","even","group"] zB8:=by
 refine F.okA zEf λcdv A outer s H vs Q E hr h=>?_
 obtain⟨p,S,e,g,rfl,hS,nz,q⟩:=h;have hr1:=hr.mono (j:=1) (by decide);refine⟨_,qAa (qBj (qDz (qAv G1 hr1 rfl .nil pass0 (pa1 (pv 2)))) (qAd (qAt (qDf qFp (qAg qBu (pv 1) (pv 2)) qAb (nomark _)))) qAx) (qAd (qAt (qAv G2 hr rfl .nil pass0 (qAe (pv 0) (qAe (pv 1) (pa1 (pv 2))))))),?_⟩;unfold crB at q;refine⟨_,rfl,g,rfl,sgl g,rfl,qBy (λc=>?_) (λc=>?_)⟩
 ·rw[hEn c]at q;refine⟨_,rfl,_,rfl,_,_,rfl,rfl,rfl,?_⟩;rw[show(!decide (V.int (Builtin.bitAnd (e:Int) (g:Int))=V.int 0))=!decide (e&&&g=0) by rw[qCp];exact congrArg (! ·) (iv0 _)];exact q
 ·rw[hEm c]at q;exact⟨_,rfl,_,rfl,_,rfl,p,S,e,g,rfl,hS,nz,q⟩
theorem qWd(F:Fun K "mask_of" "mask_of" qVk f fd):v8 1 f fd ["names","row"] qRr:=by
 refine F.okA qGw λcdv A outer s H vs Q E hr h=>?_
 obtain⟨pn,pr,aA,row,rfl,hn,hw,q⟩:=h;refine⟨_,qAa (v4 2 qGw qAb)
  (qAa (qBf PassesOwn.never rfl (qAp (pv 0)) (v5 3 qGw)
   (qAd (v4 2 qGw (qAg qA8 (qAg qEv qAb (pv 2)) (qEl (qAn qFr (pv 3) (pv 1) (by with_unfolding_all rfl)) qAb qAb)))))
  (qAd (qAt (pv 2)))),?_⟩
 refine⟨_,rfl,pn,rfl,⟨_,SqL.of hn⟩,?_⟩;refine qBm (xs:=aA.map iV) (λi σ H'=>H'=H/\∃x3:Option V,σ=[some (.ref pn),some (.ref pr),some (iV (qDo (aA.take i) row)),x3]) ⟨rfl,none,rfl⟩ (λi σ H' _ h=>by rw[h.1];exact SqL.of hn) ?_ ?_
 ·rintro i x σ H' hx ⟨rfl,x3,rfl⟩;obtain⟨y,rfl,hy⟩:=qCj hx;refine⟨_,rfl,_,_,rfl,rfl,.inl ⟨by decide,by decide⟩,_,rfl,_,rfl,pr,_,rfl,.inl (SqL.of hw),rfl,qDp _,_,rfl,?_⟩;rw[hEm (by decide),qIm];refine qBy (λc=>?_) (λc=>?_)
  ·have c':y∈row:=by simpa using c
   refine⟨_,_,rfl,rfl,rfl,some (iV y),?_⟩;rw[show iV (qDo (aA.take (i+1)) row)=V.int (2*((qDo (aA.take i) row:Nat):Int)+1) by rw[qAl hy,qGl,hEn c'];rfl];rfl
  ·have c':¬y∈row:=by simpa using c
   refine⟨_,_,rfl,rfl,rfl,some (iV y),?_⟩;rw[show iV (qDo (aA.take (i+1)) row)=V.int (2*((qDo (aA.take i) row:Nat):Int)+0) by rw[qAl hy,qGl,hEm c'];rfl];rfl
 ·rintro σ H' ⟨rfl,x3,rfl⟩;rw[hA1,hA5 (hAa _)];exact⟨_,rfl,q⟩
theorem qZ8(F:Fun K "row_of" "row_of" qI8 f fd)(ml:mg "len"=none)(me:mg "enumerate"=none):v8 1 f fd ["names","mask"] qXg:=by
 refine F.okA qJ5 λcdv A outer s H vs Q E hr h=>?_
 obtain⟨pn,aA,x,rfl,hn,ln,q⟩:=h;refine⟨_,qAa (v6 2 qJ5 (qAg qCr (qAh qAi rfl ml hAt (pa1 (pv 0))) qAb))
  (qAd (qAt (qG7 (N:=["names","mask","last"]) (sc:=qAc qI8) (N':=roN) (sub:=[none,none,some 1,some 2]) rfl rfl (CmpOk.of (by decide +kernel)) rfl (qE4 rfl me (pa1 (pv 0)))
   (λC s H fp=>⟨(show PG _ _ (zBe K 2 _) from qB0 rfl (qAs (qAm (i:=0) (by show roN.Nodup;decide) rfl (Or.inl rfl)) (qAs (qAm (i:=1) (by show roN.Nodup;decide) rfl (Or.inl rfl)) qBc))),
    qBb (qAn qB4 (qAg qBu (qAg qG1 (pv 2) (qAg qCr (pv 3) (pv 0))) qAb) qAb (nomark _)),pv 1⟩)))),?_⟩
 refine⟨_,rfl,pn,_,rfl,.inl (SqL.of hn),_,_,rfl,rfl,?_⟩;refine⟨_,rfl,pn,_,rfl,SqL.of hn,?_⟩;rw[hA1];refine qD4 (λi ys H'=>Ext H H'/\ys=((List.range i).filterMap λi=>if x.testBit (aA.length-1-i)=true then aA[i]? else none).map iV) ⟨Ext.refl _,rfl⟩ (λi ys H' _ p=>SqL.of (p.1 _ _ hn)) ?_ ?_
 ·rintro i ys H' T hi ⟨e,rfl⟩ hT;have gd:(aA.map iV).getD i .non=iV aA[i]:=by rw[hA7,hAi,hA2 hi];rfl
  have e2:=e.trans (Ext.new hT (.tup [V.int (i:Nat),(aA.map iV).getD i .non]));refine⟨T,_,rfl,SqT.of upd_same,rfl,_,_,rfl,_,_,rfl,rfl,?_⟩;refine⟨Sle.set _ (sls) (λu z=>by cases z),?_⟩;have k:(((aA.length:Nat):Int)-1-(i:Nat))=((aA.length-1-i:Nat):Int):=by omega
  refine⟨_,rfl,_,rfl,_,rfl,_,_,rfl,rfl,_,_,rfl,rfl,(by show(0:Int)<=_;omega),_,_,rfl,rfl,rfl,_,rfl,?_⟩;have fm:((List.range (i+1)).filterMap λi=>if x.testBit (aA.length-1-i)=true then aA[i]? else none)=((List.range i).filterMap λi=>if x.testBit (aA.length-1-i)=true then aA[i]? else none)++(if x.testBit (aA.length-1-i)=true then [aA[i]] else []):=by
   rw[hCf,hD5];congr 1;by_cases b:x.testBit (aA.length-1-i)=true
   ·simp[b,hA2 hi]
   ·simp[b]
  have sz:=hC0 (λi=>if x.testBit (aA.length-1-i)=true then aA[i]? else none) (List.range i);rw[hB0]at sz;have key:(decide (V.int (Builtin.bitAnd ((x:Int) / 2^(((aA.length:Nat):Int)-1-(i:Nat)).toNat) 1)=V.int 1)=true)↔x.testBit (aA.length-1-i)=true:=by
   rw[hEp,V.int.injEq,k,hB8,qGd];by_cases b:x.testBit (aA.length-1-i)=true
   ·simp[b]
   ·simp[b]
  refine qBy (λc=>?_) (λc=>?_)
  ·have b:=key.mp c;refine⟨_,rfl,by rw[hA1];exact qAf (by omega),nxt hi ⟨e2,?_⟩⟩;rw[fm,hEn b,hA3,gd];rfl
  ·have b:¬x.testBit (aA.length-1-i)=true:=λz=>c (key.mpr z)
   refine nxt hi ⟨e2,?_⟩;rw[fm,hEm b,hC8]
 ·rintro ys H' ⟨e,rfl⟩ r hr';exact q r _ (e.trans (Ext.new hr' _)) (e.none hr') upd_same
end
noncomputable def dsF(xs:List Nat):List Nat:=(red xs).mergeSort λa b=>decide (b<=a)
theorem qF1(l:List Nat):(l.mergeSort λa b=>decide (b<=a)).Pairwise λa b=>b<=a:=by
 refine hEb (λ{a b} h=>hEl h) (List.pairwise_mergeSort (le:=λa b:Nat=>decide (b<=a)) (λa b c h1 h2=>?_) (λa b=>?_) _)
 ·exact hEi (hAw (hEl h2) (hEl h1))
 ·rcases Nat.le_total a b with h|h
  ·rw[hE7];exact .inr (hEi h)
  ·rw[hE7];exact .inl (hEi h)
theorem qNu{M l:List Nat}(p:M.Perm l)(d:M.Pairwise λa b=>b<=a):M=l.mergeSort λa b=>decide (b<=a):=qL7 d (qF1 l) (p.trans (hCr _ _).symm)
theorem qJk:x∈dsF xs↔x∈red xs:=(hCr _ _).mem_iff
theorem qTu(xs:List Nat):(dsF xs).length=(red xs).length:=(hCr _ _).length_eq
theorem zE0:∀s∈dsF xs,s≠0:=λs hs=>(qCi xs).nz s (qJk.mp hs)
noncomputable def shF(S gs:List Nat):List Nat:=dsF (S.map λe=>qDo gs (gs.filter (crB S e)))
def qRm:Sp:=λvs H Q _=>∃(p g:Addr) (S gs:List Nat),vs=[.ref p,.ref g]/\LsN H p S/\LsN H g gs/\(∀s∈S,s≠0)/\S.length<=12/\gs.length<=12/\∀r H',Ext H H'->H r=none->LsN H' r (shF S gs)->Q (.ref r) H'
noncomputable abbrev shN:List Str:=["steps","groups","crossed_ones"]
section
variable{P:Program}{w:World}{K:PySem.W.Frag}{mg:Str->Option Value}{base:Heap}{f f1 f2 f3 f4:Addr}{fd fd1 fd2 fd3 fd4:FuncData}
theorem qR2:FnScope shN ["steps","groups"] (qAc qI7):=fsk
theorem qV8(F:Fun K "share_masks" "share_masks" qI7 f fd)(G1:v9 3 f1 fd1 ["steps","even","group"] zB8 "is_crossed")
  (G2:v9 1 f2 fd2 ["names","row"] qRr "mask_of")
  (G3:v9 2 f3 fd3 ["masks"] qRo "reduced"):v8 4 f fd ["steps","groups"] qRm:=by
 refine F.okA qR2 λcdv A outer s H vs Q E hr h=>?_
 obtain⟨p,g,S,gs,rfl,hp,hg,nz,lS,lg,q⟩:=h;have hr1:=hr.mono (j:=1) (by decide);have hr2:=hr.mono (j:=2) (by decide);refine⟨_,qAa (qV5 (i:=2) (N:=shN) (sc:=qAc qI7) (N':=["step","groups","steps"]) (sub:=[none,some 1,some 0]) rfl rfl (CmpOk.of (by decide +kernel)) rfl (qAp (pv 0))
   (λC s H fp=>⟨qAm (i:=0) (by show(["step","groups","steps"]:List Str).Nodup;decide) rfl (Or.inr rfl),qAw,
    qG7 (N:=["step","groups","steps"]) (sc:=zCl _ (qAc qI7)) (N':=["group","steps","step"]) (sub:=[none,some 2,some 0]) rfl rfl (CmpOk.of (by decide +kernel)) rfl (show PI _ _ _ (zBa K (qRe 1)) from qAp (pv 1))
     (λC s H fp=>⟨qAm (i:=0) (by show(["group","steps","step"]:List Str).Nodup;decide) rfl (Or.inl rfl),qBb (qDz (qAv G1 hr rfl .nil pass0 (qAe (pv 1) (qAe (pv 2) (pa1 (pv 0)))))),pv 0⟩)⟩)
   qR2.nd rfl (Or.inl rfl))
  (qAd (qAt (qAv G3 hr2 rfl .nil pass0 (qAe
   (qA7 (N:=shN) (sc:=qAc qI7) (N':=["some","groups"]) (sub:=[none,some 1]) (qAp (pv 2)) (λC s H fp=>⟨qAw,qAv G2 hr1 rfl .nil pass0 (qAe (pv 1) (pa1 (pv 0)))⟩)) qAz)))),?_⟩
 refine⟨_,rfl,p,rfl,⟨_,SqL.of hp⟩,?_⟩;refine qAq (xs:=S.map iV) (λj ys H2=>Ext H H2/\∃as:List Addr,ys=as.map V.ref/\Paired (λa x=>LsN H2 a (gs.filter (crB S x))) as (S.take j)) ⟨Ext.refl _,[],rfl,.nil⟩ (λj ys H2 _ h=>SqL.of (h.1 _ _ hp)) ?_ ?_
 ·rintro j v ys H2 hx ⟨e2,as,rfl,all⟩;obtain⟨x,rfl,hx'⟩:=qCj hx;have hj:=qAu hx';have la:=all.length;rw[hAk]at la;refine⟨sls,iteT (B:=False) ?_⟩;refine⟨_,rfl,g,rfl,⟨_,SqL.of (e2 _ _ hg)⟩,?_⟩;refine qAq (xs:=gs.map iV) (λi ys3 H3=>H3=H2/\ys3=((gs.take i).filter (crB S x)).map iV) ⟨rfl,rfl⟩ (λi ys3 H3 _ h=>by rw[h.1];exact SqL.of (e2 _ _ hg)) ?_ ?_
  ·rintro i v3 ys3 H3 hy ⟨rfl,rfl⟩;obtain⟨y,rfl,hy'⟩:=qCj hy;have hi:=qAu hy';have sz:=hAs (crB S x) (gs.take i);rw[hAk]at sz;refine⟨sls,_,rfl,_,rfl,_,rfl,p,S,x,y,rfl,e2 _ _ hp,nz,crB S x y,rfl,qBy (λc=>?_) (λc=>?_)⟩
   ·refine⟨_,rfl,by rw[hA1];exact qAf (by omega),nxt (qAu hy) ⟨rfl,?_⟩⟩;rw[qAl hy',hCe,hA3,hDz c];rfl
   ·refine nxt (qAu hy) ⟨rfl,?_⟩;rw[qAl hy',hCe,hE0 c];show _=((gs.take i).filter (crB S x)++[]).map iV;rw[hC8]
  ·rintro ys3 H3 ⟨rfl,rfl⟩ l hl;rw[show gs.take (gs.map iV).length=gs by rw[hA1,hA5 (hAa _)]];have n1:=Ext.new hl (.lst ((gs.filter (crB S x)).map iV));refine⟨by rw[hA1];exact qAf (by omega),nxt (qAu hx) ⟨e2.trans n1,as++[l],by rw[hA3];rfl,?_⟩⟩;rw[qAl hx'];exact Paired.snoc (Paired.mapP all λa x z=>n1 _ _ z) upd_same
 ·rintro ys H2 ⟨e2,as,rfl,all⟩ co hco;rw[hA1,hA5 (hAa _)]at all;have la:=all.length;have n2:=Ext.new hco (.lst (as.map V.ref));have E2:=e2.trans n2;refine⟨_,rfl,co,rfl,⟨_,SqL.of upd_same⟩,?_⟩;refine qAq (xs:=as.map V.ref) (λj ys H3=>H3=upd H2 co (.lst (as.map V.ref))/\ys=((S.take j).map λe=>qDo gs (gs.filter (crB S e))).map iV) ⟨rfl,rfl⟩ (λj ys H3 _ h=>by rw[h.1];exact SqL.of upd_same) ?_ ?_
  ·rintro j v ys H3 hx ⟨rfl,rfl⟩;obtain⟨a,rfl,ha⟩:=qA5 hx;obtain⟨x,hx',hax⟩:=qAr all ha;have hj:=qAu ha;refine⟨sls,iteT (B:=False) ⟨_,rfl,_,rfl,g,a,gs,_,rfl,E2 _ _ hg,n2 _ _ hax,?_,nxt (qAu hx) ⟨rfl,?_⟩⟩⟩
   ·rw[hA1,hA1,hAk];exact qAf (by omega)
   ·rw[qAl hx',hA3,hA3];rfl
  ·rintro ys H3 ⟨rfl,rfl⟩ l hl;rw[hA1,la,hA5 (hAa _)];have n3:=Ext.new hl (.lst ((S.map λe=>qDo gs (gs.filter (crB S e))).map iV));refine⟨l,_,rfl,upd_same,by rw[hA1];omega,λr M H4 e4 r0 hM pM dM=>?_⟩;rw[qNu pM dM]at hM;exact q r H4 (E2.trans (n3.trans e4)) ((E2.trans n3).none r0) hM
end
theorem _root_.PySem.Paired.app:∀ {as as':List α} {bs bs':List β},Paired R as bs->Paired R as' bs'->Paired R (as++as') (bs++bs')
 |_,_,_,_,.nil,h=>h
 |_,_,_,_,.cons a b,h=>.cons a (PySem.Paired.app b h)
theorem qHv(h:n<9000):n<sizeLine:=hAn h (by decide)
noncomputable def gro(B:List Nat)(c:Nat):List Nat:=if red1 B c=0 then B else B++[red1 B c]
noncomputable def fC(S:List Nat)(i k:Nat):Option Nat:=if (S.getD k 0).testBit i=true then some (2^k) else none
theorem zDn(S:List Nat)(i j:Nat):[j].filterMap (fC S i)=if (S.getD j 0).testBit i=true then [2^j] else []:=by
 by_cases b:(S.getD j 0).testBit i=true
 ·rw[hEn b,hBr,show fC S i j=some (2^j) from hEn b];rfl
 ·rw[hEm b,hBr,show fC S i j=none from hEm b];rfl
noncomputable def qHp(S:List Nat)(i:Nat):Nat:=((List.range S.length).filterMap (fC S i)).sum
noncomputable def bsF(S:List Nat):Nat->List (List Nat)
 |0=>[[]]
 |i+1=>bsF S i++(bsF S i).map λB=>gro B (qHp S i)
noncomputable def wF(m:Nat)(S:List Nat):List Nat:=(bsF S m).map List.length
theorem zDg(h:∀s∈B,s≠0):∀s∈gro B c,s≠0:=by
 unfold gro;split
 ·exact h
 ·rename_i n;intro s hs;rcases hAd.mp hs with z|z
  ·exact h s z
  ·rw[hA9]at z;rw[z];exact n
theorem zBd(B:List Nat)(c:Nat):(gro B c).length<=B.length+1:=by
 unfold gro;split
 ·omega
 ·rw[hAc];exact hAa _
theorem qMd(S:List Nat):∀i,(∀B∈bsF S i,(∀s∈B,s≠0)/\B.length<=i)/\(bsF S i).length=2^i
 |0=>⟨λB hB=>by
   have:B∈[([]:List Nat)]:=hB;rw[hA9]at this;subst this;exact⟨λs hs=>(by cases hs),hAa _⟩,rfl⟩
 |i+1=>by
  obtain⟨h1,h2⟩:=qMd S i;refine⟨λB hB=>?_,?_⟩
  ·have hB:B∈bsF S i++(bsF S i).map λB=>gro B (qHp S i):=hB
   rcases hAd.mp hB with z|z
   ·exact⟨(h1 B z).1,hEa (h1 B z).2⟩
   ·obtain⟨B',hB',rfl⟩:=hAb.mp z;exact⟨zDg (h1 B' hB').1,hAw (zBd _ _) (hC9 (h1 B' hB').2)⟩
  ·show(bsF S i++(bsF S i).map λB=>gro B (qHp S i)).length=_;rw[hAc,hA1,h2,hDp];omega
def qRx:Sp:=λvs H Q _=>∃(b:Addr) (B:List Nat) (c:Nat),vs=[.ref b,iV c]/\LsN H b B/\(∀s∈B,s≠0)/\B.length<=100/\∀r H',Ext H H'->LsN H' r (gro B c)->Q (.ref r) H'
def qN9:Sp:=λvs H Q _=>∃(p:Addr) (m:Nat) (S:List Nat),vs=[.ref p,iV m]/\m<=12/\S.length<=12/\LsN H p S/\∀r H',Ext H H'->H r=none->LsN H' r (wF m S)->Q (.ref r) H'
section
variable{P:Program}{w:World}{K:PySem.W.Frag}{mg:Str->Option Value}{base:Heap}{f f1 f2 f3 f4:Addr}{fd fd1 fd2 fd3 fd4:FuncData}
theorem qR4:FnScope ["base","column","fresh"] ["base","column"] (qAc qR7):=fsk
theorem qWh(F:Fun K "grown" "grown" qR7 f fd)(G1:v9 1 f1 fd1 ["mask","kept"] qOd "lessened"):v8 2 f fd ["base","column"] qRx:=by
 refine F.okA qR4 λcdv A outer s H vs Q E hr h=>?_
 obtain⟨b,B,c,rfl,hB,nz,lB,q⟩:=h;refine⟨_,qAa (v4 2 qR4 (qAv G1 hr rfl .nil pass0 (qAe (pv 1) (pa1 (pv 0)))))
  (qAd (qAt (qEl (qAn qB4 (pv 2) qAb (nomark _)) (pv 0) (qAg qB9 (pv 0) (qA2 (pa1 (pv 2))))))),?_⟩
 refine⟨_,rfl,_,rfl,c,b,B,rfl,hB,nz,?_⟩;refine⟨_,rfl,rfl,_,rfl,qBy (λd=>?_) (λd=>?_)⟩
 ·have d':red1 B c=0:=by
   have:((red1 B c:Nat):Int)=0:=by simpa using d
   omega
  refine⟨_,rfl,q b H (Ext.refl _) ?_⟩;unfold gro;rw[hEn d'];exact hB
 ·have d':¬red1 B c=0:=λz=>d (by rw[z];decide +kernel)
  refine⟨_,rfl,_,rfl,(by show 1<=sizeLine;decide),λl hl=>?_⟩;have n1:=Ext.new hl (.lst [iV (red1 B c)]);refine⟨b,l,_,_,rfl,rfl,n1 _ _ hB,upd_same,?_,λr hr'=>q r _ (n1.trans (Ext.new hr' _)) ?_⟩
  ·rw[hA1];exact hB5 (qAf (by show B.length+1<=1000;omega))
  ·unfold gro LsN;rw[hEm d',upd_same,hA3];rfl
noncomputable abbrev wiN:List Str:=["steps","many","bases","place","column"]
theorem qFk:FnScope wiN ["steps","many"] (qAc qGe):=fsk
theorem qSw(F:Fun K "widths" "widths" qGe f fd)(G1:v9 2 f1 fd1 ["base","column"] qRx "grown")(mr:mg "range"=none)(msu:mg "sum"=none)(me:mg "enumerate"=none)(ml:mg "len"=none):v8 3 f fd ["steps","many"] qN9:=by
 refine F.okA qFk λcdv A outer s H vs Q E hr h=>?_
 obtain⟨p,m,S,rfl,m12,lS,hS,q⟩:=h;refine⟨_,qAa (v4 2 qFk (qA2 (pa1 (qA2 qAz))))
  (qAa (qBf PassesOwn.never rfl (qBg rfl mr (pa1 (pv 1))) (v7 3 qFk)
   (qAa (v6 4 qFk (qAh (qC6 rfl) rfl msu qC8 (qAe
    (qG7 (N:=wiN) (sc:=qAc qGe) (N':=["at","step","place"]) (sub:=[none,none,some 3]) rfl rfl (CmpOk.of (by decide +kernel)) rfl (qE4 rfl me (pa1 (pv 0)))
     (λC s H fp=>⟨(show PG _ _ (zBe K 2 _) from qB0 rfl (qAs (qAm (i:=0) (by show(["at","step","place"]:List Str).Nodup;decide) rfl (Or.inl rfl)) (qAs (qAm (i:=1) (by show(["at","step","place"]:List Str).Nodup;decide) rfl (Or.inl rfl)) qBc))),
      qBb (qAn qB4 (qAg qBu (qAg qG1 (pv 1) (pv 2)) qAb) qAb (nomark _)),qAg qCe qAb (pv 0)⟩)) qAz)))
   (qAd (v4 2 qFk (qAg qB9 (pv 2)
    (qA7 (N:=wiN) (sc:=qAc qGe) (N':=["base","column"]) (sub:=[none,some 4]) (qAp (pv 2)) (λC s H fp=>⟨qAw,qAv G1 hr rfl .nil pass0 (qAe (pv 0) (pa1 (pv 1)))⟩)))))))
  (qAd (qAt (qA7 (N:=wiN) (sc:=qAc qGe) (N':=["base"]) (sub:=[none]) (qAp (pv 2)) (λC s H fp=>⟨qAw,qAh (show qB2 _ _ (λxs H Q=>∃p ys,xs=[V.ref p]/\(SqL K H p ys\/SqT K H p ys)/\Q (.int ys.length) H) from qAi) rfl ml hAt (pa1 (pv 0))⟩))))),?_⟩
 refine⟨hAp _,λl0 hl0=>⟨(by show 1<=sizeLine;decide),λb0 hb0=>?_⟩⟩;have X0:=(Ext.new hl0 (.lst [])).trans (Ext.new hb0 (.lst [V.ref l0]));refine⟨_,rfl,(m:Int),rfl,by omega,by omega,?_⟩;refine qB5 (lo:=0) (n:=((m:Nat):Int).toNat) (λi σ H'=>∃(bs:Addr) (as:List Addr) (x3 x4:Option V),σ=[some (.ref p),some (iV m),some (.ref bs),x3,x4]/\Ext H H'/\H bs=none/\H' bs=some (.lst (as.map V.ref))/\Paired (λa B=>LsN H' a B) as (bsF S i)) ⟨b0,[l0],_,_,rfl,X0,(Ext.new hl0 (.lst [])).none hb0,upd_same,.cons ((Ext.new hb0 _) _ _ upd_same) .nil⟩ ?_ ?_
 ·rintro i σ H' hi ⟨bs,as,x3,x4,rfl,e,bs0,hbs,pr⟩;have hi':i<m:=by rwa [hB8]at hi
  obtain⟨bok,bln⟩:=qMd S i;have la:as.length=2^i:=by rw[pr.length,bln]
  have pi4:2^i<=2^11:=hBf (by decide) (by omega);refine⟨_,rfl,p,_,rfl,SqL.of (e _ _ hS),?_⟩;rw[hA1];refine qD4 (λj ys H2=>Ext H' H2/\ys=((List.range j).filterMap (fC S i)).map iV) ⟨Ext.refl _,rfl⟩ (λj ys H2 _ h=>SqL.of (h.1 _ _ (e _ _ hS))) ?_ ?_
  ·rintro j ys H2 T hj ⟨e2,rfl⟩ hT;have gd:(S.map iV).getD j .non=iV (S.getD j 0):=by rw[hA7,hAi,hA7,hA2 hj];rfl
   rw[gd];have e3:=e2.trans (Ext.new hT (.tup [V.int (j:Nat),iV (S.getD j 0)]));refine⟨T,_,rfl,SqT.of upd_same,rfl,_,_,rfl,_,_,rfl,rfl,?_⟩;refine⟨Sle.set _ (sls) (λu z=>by cases z),?_⟩;refine⟨_,rfl,_,rfl,_,_,rfl,rfl,(by show(0:Int)<=_;omega),_,_,rfl,rfl,rfl,_,rfl,?_⟩;have fm:((List.range (j+1)).filterMap (fC S i))=((List.range j).filterMap (fC S i))++(if (S.getD j 0).testBit i=true then [2^j] else []):=by
    rw[hCf,hD5];rw[zDn]
   have sz:=hC0 (fC S i) (List.range j);rw[hB0]at sz;have key:(decide (V.int (Builtin.bitAnd (((S.getD j 0:Nat):Int) / 2^((0:Int)+(i:Nat)).toNat) 1)=V.int 1)=true)↔(S.getD j 0).testBit i=true:=by
    rw[hEp,V.int.injEq,Int.zero_add,hB8,qGd];by_cases b:(S.getD j 0).testBit i=true
    ·simp[b]
    ·simp[b]
   refine qBy (λc=>?_) (λc=>?_)
   ·have b:=key.mp c;refine⟨_,rfl,_,_,rfl,rfl,⟨by omega,by omega,by omega⟩,by rw[hA1];exact qAf (by omega),nxt hj ⟨e3,?_⟩⟩;rw[fm,hEn b,hA3];show _=_++[iV (2^j)];rw[show iV (2^j)=V.int (1*2^((j:Nat):Int).toNat) from congrArg V.int (qBr j).symm]
   ·have b:¬(S.getD j 0).testBit i=true:=λz=>c (key.mpr z)
    refine nxt hj ⟨e3,?_⟩;rw[fm,hEm b,hC8]
  ·rintro ys H2 ⟨e2,rfl⟩ l hl;have n2:=e2.trans (Ext.new hl (.lst (((List.range S.length).filterMap (fC S i)).map iV)));refine⟨l,((List.range S.length).filterMap (fC S i)).map (λn:Nat=>(n:Int)),rfl,by rw[<-qCg];exact SqL.of upd_same,?_⟩;rw[qDb];rw[show((List.range S.length).filterMap (fC S i)).sum=qHp S i from rfl];have E2:=e.trans n2;refine⟨_,rfl,_,rfl,bs,rfl,⟨_,SqL.of (n2 _ _ hbs)⟩,?_⟩;have pr2:=Paired.mapP pr λa B z=>n2 _ _ z
   revert E2 n2 pr2;generalize upd H2 l (.lst (((List.range S.length).filterMap (fC S i)).map iV))=H3;intro n2 E2 pr2;refine qAq (xs:=as.map V.ref) (λj ys H4=>Ext H3 H4/\∃cs:List Addr,ys=cs.map V.ref/\Paired (λa B=>LsN H4 a B) cs (((bsF S i).take j).map λB=>gro B (qHp S i))) ⟨Ext.refl _,[],rfl,.nil⟩ (λj ys H4 _ h=>SqL.of (h.1 _ _ (n2 _ _ hbs))) ?_ ?_
   ·rintro j v ys H4 hx ⟨e4,cs',rfl,pc⟩;obtain⟨a,rfl,ha⟩:=qA5 hx;obtain⟨B,hB,hBa⟩:=qAr pr2 ha;have hj:=qAu ha;have bm:=bok B (hAh hB);have lc:=pc.length;rw[hA1,hAk]at lc;refine⟨sls,iteT (B:=False) ⟨_,rfl,_,rfl,a,B,qHp S i,rfl,e4 _ _ hBa,bm.1,by omega,λr H5 e5 h5=>⟨?_,nxt (qAu hx) ⟨e4.trans e5,cs'++[r],by rw[hA3];rfl,?_⟩⟩⟩⟩
    ·rw[hA1];exact qHv (by omega)
    ·rw[qAl hB,hA3];exact Paired.snoc (Paired.mapP pc λa B z=>e5 _ _ z) h5
   ·rintro ys H4 ⟨e4,cs',rfl,pc⟩ l2 hl2;rw[hA1,show(bsF S i).take as.length=bsF S i from hA5 (by rw[bln,la];exact hAa _)]at pc;have n5:=Ext.new hl2 (.lst (cs'.map V.ref));have lc:=pc.length;rw[hA1,bln]at lc;have E5:=n2.trans (e4.trans n5);refine⟨bs,l2,_,_,rfl,rfl,E5 _ _ hbs,upd_same,?_,λb' hb'=>?_⟩
    ·rw[hA1,hA1];exact hB5 (qHv (by omega))
    have n6:=Ext.new hb' (.lst (as.map V.ref++cs'.map V.ref));refine⟨b',as++cs',_,_,rfl,e.trans (E5.trans n6),(e.trans E5).none hb',by rw[upd_same,hA3],?_⟩;exact Paired.app (Paired.mapP pr λa B z=>(E5.trans n6) _ _ z) (Paired.mapP pc λa B z=>(n5.trans n6) _ _ z)
 ·rintro σ H' ⟨bs,as,x3,x4,rfl,e,bs0,hbs,pr⟩;rw[hB8]at pr;obtain⟨bok,bln⟩:=qMd S m;have la:as.length=2^m:=by rw[pr.length,bln]
  refine⟨_,rfl,bs,rfl,⟨_,SqL.of hbs⟩,?_⟩;refine qAq (xs:=as.map V.ref) (λj ys H2=>H2=H'/\ys=(((bsF S m).take j).map List.length).map iV) ⟨rfl,rfl⟩ (λj ys H2 _ h=>by rw[h.1];exact SqL.of hbs) ?_ ?_
  ·rintro j v ys H2 hx ⟨rfl,rfl⟩;obtain⟨a,rfl,ha⟩:=qA5 hx;obtain⟨B,hB,hBa⟩:=qAr pr ha;have hj:=qAu hB;have p4:2^m<=2^12:=hBf (by decide) m12;refine⟨sls,iteT (B:=False) ⟨_,rfl,a,_,rfl,.inl (SqL.of hBa),?_,nxt (qAu hx) ⟨rfl,?_⟩⟩⟩
   ·rw[hA1,hA1,hAk];exact qHv (by omega)
   ·rw[qAl hB,hA3,hA3,hA1];rfl
  ·rintro ys H2 ⟨rfl,rfl⟩ r hr';rw[hA1,la,show(bsF S m).take (2^m)=bsF S m from hA5 (by rw[bln];exact hAa _)];exact q r _ (e.trans (Ext.new hr' _)) (e.none hr') upd_same
end
end My
namespace L2
open PySem PySem.Spec PyProof.Rows
def zD9:TE:=λ_ _ _=>False
theorem zCt:PE X e zD9:=by
 intro aB s σ H Q I h;exact h.elim
end L2
namespace My
open PySem L2
noncomputable def prB(S:List Nat)(m x:Nat):Bool:=decide ((wF m S).getD x 0+(wF m S).getD ((2^m-1)^^^x) 0=S.length+1) && (!sgl x && !sgl ((2^m-1)^^^x))
noncomputable def fpF(S:List Nat)(m:Nat):Nat:=((List.range (2^(m-1))).find? (prB S m)).getD 0
noncomputable def kiF(S:List Nat)(m:Nat):Str:=if S.length=1 then "ring" else if S.length+1=m then "bundle" else "whole"
theorem qTp:∀ {N:Nat},i<N->p i=true->(∀x,x<i->p x=false)->(List.range N).find? p=some i:=λ{N} hi hp ho=>by
 rw[List.find?_eq_some_iff_append];refine⟨hp,List.range i,(List.range' (i+1) (N-1-i)),?_,λa ha=>?_⟩
 ·rw[List.range_eq_range',List.range_eq_range',show N=i+(1+(N-1-i)) by omega,<-List.range'_append_1];congr 1;rw[Nat.zero_add,show 1+(N-1-i)=(N-1-i)+1 by omega,List.range'_succ];congr 2;omega
 ·rw[ho a (hAy.mp ha)];rfl
theorem qTq(ho:∀x,x<N->p x=false):(List.range N).find? p=none:=by
 rw[List.find?_eq_none];intro x hx z;rw[ho x (hAy.mp hx)]at z;cases z
def qRy:Sp:=λvs H Q _=>∃(p:Addr) (m:Nat) (S:List Nat),vs=[.ref p,iV m]/\1<=m/\m<=12/\S.length<=12/\LsN H p S/\∀H',Ext H H'->Q (iV (fpF S m)) H'
def qXt:Sp:=λvs H Q _=>∃(p:Addr) (m:Nat) (S:List Nat),vs=[.ref p,iV m]/\2<=m/\LsN H p S/\Q (.str (kiF S m)) H
section
variable{P:Program}{w:World}{K:PySem.W.Frag}{mg:Str->Option Value}{base:Heap}{f f1 f2 f3 f4:Addr}{fd fd1 fd2 fd3 fd4:FuncData}
noncomputable abbrev fpN:List Str:=["steps","many","whole","met","some"]
theorem qJ6:FnScope fpN ["steps","many"] (qAc qR8):=fsk
theorem qWi(F:Fun K "first_parting" "first_parting" qR8 f fd)(G1:v9 3 f1 fd1 ["steps","many"] qN9 "widths")
  (G2:v9 2 f2 fd2 ["steps","one","rest","met"] qOa "splits") (mr:mg "range"=none):v8 4 f fd ["steps","many"] qRy:=by
 refine F.okA qJ6 λcdv A outer s H vs Q E hr h=>?_
 obtain⟨p,m,S,rfl,m1,m12,lS,hS,q⟩:=h;have hr2:=hr.mono (j:=2) (by decide);refine⟨_,(qAa (v4 2 qJ6 (qAg qCr (qAg qCe qAb (pv 1)) qAb)) (qAa (v4 3 qJ6 (qAv G1 hr rfl .nil pass0 (qAe (pv 0) (pa1 (pv 1))))) (qAa (qBf PassesOwn.never rfl (qBg rfl mr (pa1 (qAg qCe qAb (qAg qCr (pv 1) qAb)))) (v5 4 qJ6) (qAd (qBj (qDz (qAv G2 hr2 rfl .nil pass0 (qAe (pv 0) (qAe (pv 4) (qAe (qAg qDn (pv 2) (pv 4)) (pa1 (qAg qA8 (qBh qBx (pv 3) (pv 4) (λ_ _=>rfl)) (qBh qBx (pv 3) (qAg qDn (pv 2) (pv 4)) (λ_ _=>rfl))))))))) (qAd (qAt (pv 4))) qAx))) (qAd (qAt qAb))))),?_⟩;refine⟨_,rfl,_,_,rfl,rfl,⟨by omega,by omega,by decide⟩,_,_,rfl,rfl,?_⟩;refine⟨_,rfl,_,rfl,p,m,S,rfl,m12,lS,hS,λme H1 e1 me0 hme=>?_⟩;have hS1:LsN H1 p S:=e1 _ _ hS;have p1:=hCn (n:=m);have wh:(1:Int)*2^((m:Nat):Int).toNat-1=(((2^m-1:Nat)):Int):=by
  rw[qBr];omega
 refine⟨_,rfl,_,_,rfl,rfl,_,_,rfl,rfl,⟨by omega,by omega,by decide⟩,?_⟩;have rg:(1:Int)*2^(((m:Nat):Int)-1).toNat=(((2^(m-1):Nat)):Int):=by
  rw[show((m:Nat):Int)-1=((m-1:Nat):Int) by omega];exact qBr _
 have r2:2^(m-1)<=2^11:=hBf (by decide) (by omega);have lw:(wF m S).length=2^m:=by unfold wF;rw[hA1];exact(qMd S m).2
 refine⟨_,rfl,?_,?_,?_⟩
 ·show -(2^62)<=(1:Int)*2^(((m:Nat):Int)-1).toNat;rw[rg];exact Int.le_trans (by decide) (hD7 _)
 ·show(1:Int)*2^(((m:Nat):Int)-1).toNat<2^62;rw[rg];exact Int.lt_of_le_of_lt (Int.ofNat_le.mpr r2) (by decide)
 refine qB5 (lo:=0) (n:=((1:Int)*2^(((m:Nat):Int)-1).toNat).toNat) (λi σ H'=>H'=H1/\(∀x,x<i->prB S m x=false)/\∃x4:Option V,σ=[some (.ref p),some (iV m),some (.int ((1:Int)*2^((m:Nat):Int).toNat-1)),some (.ref me),x4]) ⟨rfl,λx h=>absurd h (hC5 _),_,rfl⟩ ?_ ?_
 ·rintro i σ H' hi ⟨rfl,ho,x4,rfl⟩;rw[rg,hB8]at hi;rw[wh];have z0:(0:Int)+(i:Nat)=((i:Nat):Int):=Int.zero_add _;rw[z0];have im:i<2^m:=hAn hi (hBf (by decide) (by omega));have xm:(2^m-1)^^^i<2^m:=hCd (by omega) im;have gw:∀ {k:Nat},k<2^m->((wF m S).map iV)[k]?=some (iV ((wF m S).getD k 0)):=λ{k} hk=>by
   rw[hAi,hA7,hA2 (by rw[lw];exact hk)];rfl
  have at1:atI ((wF m S).map iV) ((i:Nat):Int)=some (iV ((wF m S).getD i 0)):=qAy (gw im);have at2:atI ((wF m S).map iV) (Builtin.bitXor (((2^m-1:Nat)):Int) ((i:Nat):Int))=some (iV ((wF m S).getD ((2^m-1)^^^i) 0)):=by
   rw[qCh];exact qAy (gw xm)
  refine⟨_,rfl,_,rfl,_,rfl,_,rfl,_,_,rfl,rfl,_,rfl,_,rfl,me,_,_,_,rfl,rfl,SqL.of hme,at1,_,rfl,_,rfl,_,rfl,_,_,rfl,rfl,me,_,_,_,rfl,rfl,SqL.of hme,at2,_,_,rfl,rfl,?_⟩;refine⟨p,S,i,(2^m-1)^^^i,(wF m S).getD i 0+(wF m S).getD ((2^m-1)^^^i) 0,?_,hS1,prB S m i,rfl,qBy (λc=>?_) (λc=>?_)⟩
  ·show [V.ref p,V.int (i:Nat),V.int (Builtin.bitXor (((2^m-1:Nat)):Int) ((i:Nat):Int)),V.int ((((wF m S).getD i 0:Nat):Int)+(((wF m S).getD ((2^m-1)^^^i) 0:Nat):Int))]=_;rw[qCh,<-Int.natCast_add]
  ·refine⟨_,rfl,?_⟩;have e:fpF S m=i:=by unfold fpF;rw[qTp hi c ho];rfl
   have:=q _ e1;rw[e]at this;exact this
  ·refine⟨rfl,λx hx=>?_,_,rfl⟩;by_cases e:x=i
   ·rw[e];cases h:prB S m i with|false=>rfl|true=>exact absurd h c
   ·exact ho x (by omega)
 ·rintro σ H' ⟨rfl,ho,x4,rfl⟩;rw[rg,hB8]at ho;have e:fpF S m=0:=by unfold fpF;rw[qTq ho];rfl
  have:=q _ e1;rw[e]at this;exact this
theorem zCg:FnScope ["steps","many"] ["steps","many"] (qAc qZl):=fsk
theorem zAs(F:Fun K "kind_of" "kind_of" qZl f fd)(ml:mg "len"=none):v8 1 f fd ["steps","many"] qXt:=by
 refine F.okA zCg λcdv A outer s H vs Q E hr h=>?_
 obtain⟨p,m,S,rfl,m2,hS,q⟩:=h;refine⟨_,(qAa (qBj (qAn qB4 (pv 1) qAb (nomark _)) (qAd (qAt zCt)) qAx) (qAa (qBj (qAn qB4 (qAh qAi rfl ml hAt (pa1 (pv 0))) qAb (nomark _)) (qAd (qAt qEu)) qAx) (qAd (qAt (qEl (qAn qB4 (qAh qAi rfl ml hAt (pa1 (pv 0))) (qAg qCr (pv 1) qAb) (nomark _)) qEu qEu))))),?_⟩;have n1:decide (iV m=V.int 1)=false:=hEj λz=>by have:=V.int.inj z;omega
 refine⟨_,rfl,rfl,_,rfl,?_⟩;rw[show decide (iV m=V.int 1)=false from n1];refine qFz ?_;refine⟨_,rfl,p,_,rfl,.inl (SqL.of hS),rfl,_,rfl,?_⟩;unfold kiF at q;rw[show decide (V.int (((S.map iV).length:Nat):Int)=V.int 1)=decide (S.length=1) from decide_eq_decide.mpr ⟨λh=>by have:=V.int.inj h;rw[hA1]at this;omega,λh=>by rw[hA1,h];rfl⟩];refine qBy (λc=>?_) (λc=>?_)
 ·rw[hEn (hEl c)]at q;exact q
 have c':¬S.length=1:=λz=>c (hEi z)
 rw[hEm c']at q;refine⟨_,rfl,p,_,rfl,.inl (SqL.of hS),_,rfl,_,_,rfl,rfl,rfl,_,rfl,?_⟩;rw[show decide (V.int (((S.map iV).length:Nat):Int)=V.int (((m:Nat):Int)-1))=decide (S.length+1=m) from decide_eq_decide.mpr ⟨λh=>by have:=V.int.inj h;rw[hA1]at this;omega,λh=>by rw[hA1];congr 1;omega⟩];refine qBy (λd=>?_) (λd=>?_)
 ·rw[hEn (hEl d)]at q;exact q
 ·rw[hEm (λz=>d (hEi z))]at q;exact q
end
structure Pt(w:Nat)(gs:List Nat):Prop where
 nz:∀g∈gs,g≠0
 di:Dis gs
 su:gs.sum=w
theorem Dis.perm(h:Dis a)(p:a.Perm b):Dis b:=(p.pairwise_iff (λ{x y} z=>by rw[Nat.and_comm];exact z)).mp h
theorem Pt.perm(h:Pt w a)(p:a.Perm b):Pt w b:=⟨λg hg=>h.nz g (p.mem_iff.mpr hg),h.di.perm p,by rw[<-p.sum_nat];exact h.su⟩
theorem zDq(nz:∀g∈gs,g≠0)(d:Dis gs):gs.Nodup:=hBp (λ{a b} ha hb z e=>by rw[<-e,Nat.and_self]at z;exact nz a ha z) d
theorem Pt.nd(h:Pt w gs):gs.Nodup:=zDq h.nz h.di
theorem qLm:∀ {l:List α},l.Nodup->∀ {i j:Nat} {a:α},l[i]?=some a->l[j]?=some a->i=j
 |x :: l,nd,0,0,a,_,_=>rfl
 |x :: l,nd,0,j+1,a,h1,h2=>by
  cases hAq h1;exact absurd (hAh (l:=l) (i:=j) h2) (hBe.mp nd).1
 |x :: l,nd,i+1,0,a,h1,h2=>by
  cases hAq h2;exact absurd (hAh (l:=l) (i:=i) h1) (hBe.mp nd).1
 |x :: l,nd,i+1,j+1,a,h1,h2=>congrArg (· + 1) (qLm (hBe.mp nd).2 (i:=i) (j:=j) h1 h2)
theorem qJq(h:sgl x=false):∃i j,i≠j/\x.testBit i=true/\x.testBit j=true:=by
 have x0:x≠0:=λz=>by rw[z]at h;exact absurd h (by decide)
 have hl:=hBt x0;by_cases c:∃j,j≠x.log2/\x.testBit j=true
 ·obtain⟨j,h1,h2⟩:=c;exact⟨x.log2,j,Ne.symm h1,hl,h2⟩
 ·have e:x=2^x.log2:=hAl λi=>by
   rw[hB4];by_cases z:x.log2=i
   ·rw[<-z,hl,hEi rfl]
   ·rw[hEj z];cases q:x.testBit i with
    |false=>rfl
    |true=>exact absurd ⟨i,Ne.symm z,q⟩ c
  have:sgl x=true:=by rw[e];exact hEi (qEb _)
  rw[this]at h;cases h
theorem qPt{α β:Type}{f g:α->Option β}(h:∀a,f a=none\/f a=g a):∀l:List α,(l.filterMap f).Sublist (l.filterMap g)
 |[]=>.slnil
 |a :: l=>by
  have ih:=qPt h l;rw[hBr,hBr];rcases h a with e|e
  ·rw[e];cases g a with
   |none=>exact ih
   |some b=>exact ih.cons b
  ·rw[e];cases g a with
   |none=>exact ih
   |some b=>exact ih.cons₂ b
theorem qPv:∀l:List α,(List.range l.length).filterMap (λi=>l[i]?)=l
 |[]=>rfl
 |a :: l=>by
  rw[hCb,hE5,hBr,List.filterMap_map];show a :: (List.range l.length).filterMap (λi=>(a :: l)[i+1]?)=_;congr 1;exact qPv l
theorem qJ9(gs:List Nat)(x:Nat):(rowI gs x).Sublist gs:=by
 have:=qPt (f:=λi=>if x.testBit (gs.length-1-i)=true then gs[i]? else none) (g:=λi=>gs[i]?) (λi=>by
  by_cases c:x.testBit (gs.length-1-i)=true
  ·exact .inr (hEn c)
  ·exact .inl (hEm c)) (List.range gs.length)
 rw[qPv]at this;exact this
theorem qHg:g∈rowI gs x↔∃i,i<gs.length/\gs[i]?=some g/\x.testBit (gs.length-1-i)=true:=by
 unfold rowI;rw[hD6];constructor
 ·rintro⟨i,hi,h⟩;by_cases c:x.testBit (gs.length-1-i)=true
  ·rw[hEn c]at h;exact⟨i,hAy.mp hi,h,c⟩
  ·rw[hEm c]at h;cases h
 ·rintro⟨i,hi,h,c⟩;exact⟨i,hAy.mpr hi,by rw[hEn c];exact h⟩
noncomputable def outF(gs inn:List Nat):List Nat:=gs.filter λg=>!decide (g∈inn)
theorem qCk{gs:List Nat}(nd:gs.Nodup)(x:Nat):gs.Perm (rowI gs x++outF gs (rowI gs x)):=by
 have ni:(rowI gs x).Nodup:=nd.sublist (qJ9 gs x);refine(hBq nd ?_).mpr λg=>?_
 ·rw[hCl];refine⟨ni,nd.filter _,λa ha b hb e=>?_⟩;have:=(hAj.mp hb).2;rw[<-e,hEi ha]at this;cases this
 ·rw[hAd];constructor
  ·intro h;by_cases c:g∈rowI gs x
   ·exact .inl c
   ·exact .inr (hAj.mpr ⟨h,by rw[hEj c];rfl⟩)
  ·rintro(h|h)
   ·exact(qJ9 gs x).subset h
   ·exact(hAj.mp h).1
theorem qXd{l:List Nat}{a b:Nat}(ha:a∈l)(hb:b∈l)(ne:a≠b):2<=l.length:=by
 match l,ha,hb with
 |[c],ha,hb=>exact absurd ((hA9.mp ha).trans (hA9.mp hb).symm) ne
 |_ :: _ :: _,_,_=>simp
theorem qYw{gs:List Nat}(nd:gs.Nodup){i j:Nat}(hi:i<gs.length)(hj:j<gs.length)(ne:i≠j):gs[gs.length-1-i]?=some (gs[gs.length-1-i]'(by omega))/\gs[gs.length-1-j]?=some (gs[gs.length-1-j]'(by omega))/\gs[gs.length-1-i]'(by omega)≠gs[gs.length-1-j]'(by omega):=by
 refine⟨hA2 _,hA2 _,λe=>?_⟩;have:=qLm nd (i:=gs.length-1-i) (j:=gs.length-1-j) (hA2 _) (by rw[e];exact hA2 _);omega
theorem qG4(h:x<2^m)(hb:x.testBit i=true):i<m:=by
 by_cases c:i<m
 ·exact c
 ·rw[hDj (hAn h (hBf (by decide) (by omega)))]at hb;cases hb
theorem qD5{gs:List Nat}(nd:gs.Nodup){x:Nat}(lt:x<2^gs.length)(h1:sgl x=false)(h2:sgl ((2^gs.length-1)^^^x)=false):2<=(rowI gs x).length/\2<=(outF gs (rowI gs x)).length/\(rowI gs x).length+(outF gs (rowI gs x)).length=gs.length:=by
 refine⟨?_,?_,?_⟩
 ·obtain⟨i,j,ne,hi,hj⟩:=qJq h1;have li:=qG4 lt hi;have lj:=qG4 lt hj;obtain⟨a,b,c⟩:=qYw nd li lj ne;exact qXd (qHg.mpr ⟨_,by omega,a,by rw[show gs.length-1-(gs.length-1-i)=i by omega];exact hi⟩) (qHg.mpr ⟨_,by omega,b,by rw[show gs.length-1-(gs.length-1-j)=j by omega];exact hj⟩) c
 ·obtain⟨i,j,ne,hi,hj⟩:=qJq h2;have lt2:(2^gs.length-1)^^^x<2^gs.length:=hCd (by have:=hCn (n:=gs.length);omega) lt;have li:=qG4 lt2 hi;have lj:=qG4 lt2 hj;obtain⟨a,b,c⟩:=qYw nd li lj ne;have no:∀ {k:Nat},k<gs.length->((2^gs.length-1)^^^x).testBit k=true->∀g,gs[gs.length-1-k]?=some g->g∈outF gs (rowI gs x):=λ{k} hk hb g hg=>by
   refine hAj.mpr ⟨hAh hg,?_⟩;have:g∉rowI gs x:=λz=>by
    obtain⟨u,hu,hg',hx⟩:=qHg.mp z;have eu:u=gs.length-1-k:=qLm nd hg' hg;rw[eu,show gs.length-1-(gs.length-1-k)=k by omega]at hx;rw[hAo,hx,hBz,hEi hk]at hb;cases hb
   rw[hEj this];rfl
  exact qXd (no li hi _ a) (no lj hj _ b) c
 ·have:=(qCk nd x).length_eq;rw[hAc]at this;exact this.symm
noncomputable def beF(gs os:List Nat):List Nat:=(gs++[os.sum]).mergeSort λa b=>decide (b<=a)
theorem qDy(gs os:List Nat):(beF gs os).Perm (gs++[os.sum]):=hCr _ _
theorem qBk(gs os:List Nat):(beF gs os).length=gs.length+1:=by rw[(qDy gs os).length_eq,hAc];rfl
theorem Pt.beside(h:Pt w (a++b))(nb:b≠[]):Pt w (beF a b):=by
 refine Pt.perm ?_ (qDy a b).symm;obtain⟨d1,d2,d3⟩:=hBc.mp h.di;refine⟨λg hg=>?_,hBc.mpr ⟨d1,hBw _ _,λx hx y hy=>?_⟩,?_⟩
 ·rcases hAd.mp hg with z|z
  ·exact h.nz g (hAe _ z)
  ·rw[hA9.mp z];cases b with
   |nil=>exact absurd rfl nb
   |cons c r =>
    have:=h.nz c (hA8 _ hA6);rw[hDd];omega
 ·rw[hA9.mp hy];refine qGq λi h1 h2=>?_
  obtain⟨c,hc,hb⟩:=(qB1 d2 i).mp h2;exact qBl (d3 x hx c hc) h1 hb
 ·have:=h.su;rw[hE1]at this;rw[hE1,List.sum_singleton];exact this
noncomputable def paF(S:List Nat):Nat->List Nat->List (Str×List Nat)
 |0,_=>[]
 |k+1,gs=>if fpF (shF S gs) gs.length=0 then [(kiF (shF S gs) gs.length,gs)] else
   paF S k (beF (rowI gs (fpF (shF S gs) gs.length)) (outF gs (rowI gs (fpF (shF S gs) gs.length))))++paF S k (beF (outF gs (rowI gs (fpF (shF S gs) gs.length))) (rowI gs (fpF (shF S gs) gs.length)))
theorem qL1(h:fpF S m≠0):fpF S m<2^m/\sgl (fpF S m)=false/\sgl ((2^m-1)^^^fpF S m)=false:=by
 unfold fpF at h ⊢;cases e:(List.range (2^(m-1))).find? (prB S m) with
 |none=>rw[e]at h;exact absurd rfl h
 |some x =>
  have h1:=List.find?_some e;have h2:=hAy.mp (List.mem_of_find?_eq_some e);unfold prB at h1;rw[hCi,hCi,Bool.not_eq_true',Bool.not_eq_true']at h1;exact⟨hAn h2 (hBf (by decide) (by omega)),h1.2.1,h1.2.2⟩
def PtL(H:Hp)(L:Addr)(ps:List (Str×List Nat)):Prop:=∃as:List Addr,H L=some (.lst (as.map V.ref))/\Paired (λa e=>∃g,H a=some (.tup [.str e.1,.ref g])/\LsN H g e.2) as ps
theorem PtL.ext(h:PtL H L ps)(e:Ext H H'):PtL H' L ps:=by
 obtain⟨as,h1,h2⟩:=h;exact⟨as,e _ _ h1,Paired.mapP h2 λa x ⟨g,z1,z2⟩=>⟨g,e _ _ z1,e _ _ z2⟩⟩
theorem qKi(S:List Nat):∀(k:Nat) (gs:List Nat),(paF S k gs).length<=2^k
 |0,gs=>hAp _
 |k+1,gs=>by
  unfold paF;split
  ·show 1<=_;exact hCn
  ·rw[hAc,hDp];have h1:=qKi S k (beF (rowI gs (fpF (shF S gs) gs.length)) (outF gs (rowI gs (fpF (shF S gs) gs.length))));have h2:=qKi S k (beF (outF gs (rowI gs (fpF (shF S gs) gs.length))) (rowI gs (fpF (shF S gs) gs.length)));omega
theorem qZb(S gs:List Nat):(shF S gs).length<=S.length:=by
 unfold shF;rw[qTu];have:=qSi (S.map λe=>qDo gs (gs.filter (crB S e)));rw[hA1]at this;exact this
theorem qOw{l:List Nat}{ns:List Int}(pm:ns.Perm (l.map λn:Nat=>(n:Int)))(od:ns.Pairwise λa b=>a >= b):ns.map V.int=(l.mergeSort λa b=>decide (b<=a)).map iV:=by
 obtain⟨M,rfl⟩:∃M:List Nat,ns=M.map (λn:Nat=>(n:Int)):=by
  refine⟨ns.map Int.toNat,?_⟩;rw[hB6];refine(List.map_id _).symm.trans (hBs λa ha=>?_);obtain⟨n,_,rfl⟩:=hAb.mp (pm.mem_iff.mp ha);simp
 have pm':M.Perm l:=by
  have:=pm.map Int.toNat;rw[hB6,hB6]at this;have idn:(Int.toNat∘λn:Nat=>(n:Int))=id:=by funext n;simp
  rw[idn,List.map_id,List.map_id]at this;exact this
 rw[<-qCg];rw[hBb]at od;exact congrArg _ (qNu pm' (hEb (λ{a b} h=>by omega) od))
def qOf:Sp:=λvs H Q _=>∃(g o:Addr) (gs os:List Nat),vs=[.ref g,.ref o]/\LsN H g gs/\LsN H o os/\gs.length<=12/\∀r H',Ext H H'->LsN H' r (beF gs os)->Q (.ref r) H'
def qOb(n:Nat):Sp:=λvs H Q _=>∃(p g:Addr) (S gs:List Nat) (w:Nat),vs=[.ref p,.ref g]/\LsN H p S/\LsN H g gs/\(∀s∈S,s≠0)/\S.length<=12/\Pt w gs/\3<=gs.length/\gs.length<=12/\gs.length<=n+2/\n<=10/\∀L H',Ext H H'->PtL H' L (paF S n gs)->Q (.ref L) H'
section
variable{P:Program}{w:World}{K:PySem.W.Frag}{mg:Str->Option Value}{base:Heap}{f f1 f2 f3 f4 f5:Addr}{fd fd1 fd2 fd3 fd4 fd5:FuncData}
theorem qVi:FnScope ["groups","others"] ["groups","others"] (qAc qM7):=fsk
theorem qS1(F:Fun K "beside" "beside" qM7 f fd)(mso:mg "sorted"=none)(msu:mg "sum"=none):v8 1 f fd ["groups","others"] qOf:=by
 refine F.okA qVi λcdv A outer s H vs Q E hr h=>?_
 obtain⟨g,o,gs,os,rfl,hg,ho,lg,q⟩:=h;refine⟨_,(qAd (qAt (qGh rfl mso (pa1 (qAg qB9 (pv 0) (qA2 (pa1 (qAh (qC6 rfl) rfl msu qC8 (pa1 (pv 1)))))))))),?_⟩;refine⟨_,rfl,_,rfl,o,os.map (λn:Nat=>(n:Int)),rfl,by rw[<-qCg];exact SqL.of ho,?_⟩;rw[qDb];refine⟨(by show 1<=sizeLine;decide),λl hl=>?_⟩;have n1:=Ext.new hl (.lst [iV os.sum]);refine⟨g,l,_,_,rfl,rfl,n1 _ _ hg,upd_same,?_,λr0 hr0=>?_⟩
 ·rw[hA1];exact hB5 (qAf (by show gs.length+1<=1000;omega))
 have n2:=n1.trans (Ext.new hr0 (.lst (gs.map iV++[iV os.sum])));refine⟨r0,(gs++[os.sum]).map (λn:Nat=>(n:Int)),rfl,?_,by rw[hA1,hAc];show gs.length+1<64;omega,λr ns hr' pm od=>?_⟩
 ·rw[<-qCg,hA3];exact SqL.of upd_same
 ·refine q r _ (n2.trans (Ext.new hr' _)) ?_;unfold LsN beF;rw[upd_same,qOw pm od]
noncomputable abbrev paN:List Str:=["steps","groups","own","some","inner","outer"]
theorem qEi:FnScope paN ["steps","groups"] (qAc qJ7):=fsk
theorem qLk(F:Fun K "parted" "parted" qJ7 f fd)(G1:v9 4 f1 fd1 ["steps","groups"] qRm "share_masks")
  (G2:v9 4 f2 fd2 ["steps","many"] qRy "first_parting")
  (G3:v9 1 f3 fd3 ["steps","many"] qXt "kind_of")
  (G4:v9 1 f4 fd4 ["names","mask"] qXg "row_of")
  (G5:v9 1 f5 fd5 ["groups","others"] qOf "beside")
  (bF:qN5 K fd ["steps","groups"] []) (kF:PySem.W.keepIn K (.ref f)=true) (mF:mg "parted"=some (.ref f)) (ml:mg "len"=none):∀n:Nat,v8 (5+n) f fd ["steps","groups"] (qOb n)
 |0=>by
  refine F.ok qEi (λvs H Q E h=>?_) (λcdv A outer s H vs Q E hr h=>?_)
  ·obtain⟨p,g,S,gs,w,rfl,_⟩:=h;rfl
  ·obtain⟨p,g,S,gs,w,rfl,_,_,_,_,_,l3,_,l2,_⟩:=h;omega
 |n+1=>by
  have ih:=qLk F G1 G2 G3 G4 G5 bF kF mF ml n;refine F.ok (k:=5+n) qEi (λvs H Q E h=>?_) (λcdv A outer s H vs Q E hr h=>?_)
  ·obtain⟨p,g,S,gs,w,rfl,_⟩:=h;rfl
  obtain⟨p,g,S,gs,w,rfl,hp,hg,nz,lS,pt,l3,l12,ln,n10,q⟩:=h;have hr4:=hr.mono (j:=4) (by omega);have hr1:=hr.mono (j:=1) (by omega);refine⟨_,(qAa (v4 2 qEi (qAv G1 hr4 rfl .nil pass0 (qAe (pv 0) (pa1 (pv 1))))) (qAa (v4 3 qEi (qAv G2 hr4 rfl .nil pass0 (qAe (pv 2) (pa1 (qAh qAi rfl ml hAt (pa1 (pv 1))))))) (qAa (qBj (qAn qB4 (pv 3) qAb (nomark _)) (qAd (qAt (qA2 (pa1 (qA6 (qAe (qAv G3 hr1 rfl .nil pass0 (qAe (pv 2) (pa1 (qAh qAi rfl ml hAt (pa1 (pv 1)))))) (pa1 (pv 1)))))))) qAx) (qAa (v6 4 qEi (qAv G4 hr1 rfl .nil pass0 (qAe (pv 1) (pa1 (pv 3))))) (qAa (qD0 (i:=5) (N:=paN) (sc:=qAc qJ7) (N':=["group","inner"]) (sub:=[none,some 4]) (qAp (pv 1)) (λC s H fp=>⟨qBb (qAn (show OpR _ (compareOp .NotIn) (rIn K true) from qCs) (pv 0) (pv 1) (by with_unfolding_all rfl)),pv 0⟩) qEi.nd rfl (Or.inl rfl)) (qAd (qAt (qAg qB9 (qNf ih hr rfl mF kF bF .nil pass0 (qAe (pv 0) (pa1 (qAv G5 hr1 rfl .nil pass0 (qAe (pv 4) (pa1 (pv 5))))))) (qNf ih hr rfl mF kF bF .nil pass0 (qAe (pv 0) (pa1 (qAv G5 hr1 rfl .nil pass0 (qAe (pv 5) (pa1 (pv 4))))))))))))))),?_⟩;refine⟨_,rfl,_,rfl,p,g,S,gs,rfl,hp,hg,nz,lS,l12,λow H1 e1 ow0 how=>?_⟩;have lo:=qZb S gs;have lgi:(((gs.map iV).length:Nat):Int)=((gs.length:Nat):Int):=by rw[hA1]
  refine⟨_,rfl,_,rfl,g,_,rfl,.inl (SqL.of (e1 _ _ hg)),ow,gs.length,shF S gs,(by rw[lgi];rfl),by omega,l12,by omega,how,λH2 e2=>?_⟩;have E2:=e1.trans e2;have hg2:=E2 _ _ hg;refine⟨_,rfl,rfl,_,rfl,?_⟩;rw[show decide (iV (fpF (shF S gs) gs.length)=V.int 0)=decide (fpF (shF S gs) gs.length=0) from iv0 _];unfold paF at q;refine qBy (λc=>?_) (λc=>?_)
  ·rw[hEn (hEl c)]at q;refine⟨_,rfl,_,rfl,g,_,rfl,.inl (SqL.of hg2),ow,gs.length,shF S gs,(by rw[lgi];rfl),by omega,e2 _ _ how,?_⟩;refine⟨_,rfl,(by show 2<=sizeLine;decide),λT hT=>⟨(by show 1<=sizeLine;decide),λL hL=>?_⟩⟩;have X3:=Ext.new hT (.tup [V.str (kiF (shF S gs) gs.length),.ref g]);have X4:=Ext.new hL (.lst [V.ref T]);exact q L _ (E2.trans (X3.trans X4)) ⟨[T],upd_same,.cons ⟨g,X4 _ _ upd_same,(X3.trans X4) _ _ hg2⟩ .nil⟩
  have c':¬fpF (shF S gs) gs.length=0:=λz=>c (hEi z)
  rw[hEm c']at q;obtain⟨xl,s1,s2⟩:=qL1 c';revert q xl s1 s2;generalize fpF (shF S gs) gs.length=x;intro q xl s1 s2;obtain⟨t1,t2,t3⟩:=qD5 pt.nd xl s1 s2;have sp:=qCk pt.nd x;refine⟨_,rfl,_,rfl,g,gs,x,rfl,hg2,l12,λi H3 e3 i0 hi=>?_⟩;have E3:=E2.trans e3;refine⟨_,rfl,g,rfl,⟨_,SqL.of (E3 _ _ hg)⟩,?_⟩;refine qBd (λz=>!decide (z∈rowI gs x)) (λz=>z) (E3 _ _ hg) (by omega) (λz hz C B cc bb=>⟨sls,?_⟩) ?_
  ·refine⟨_,rfl,_,rfl,i,_,rfl,.inl (SqL.of hi),rfl,qDp _,_,rfl,?_⟩;rw[show(if true=true then !inV (iV z) ((rowI gs x).map iV) else inV (iV z) ((rowI gs x).map iV))=!decide (z∈rowI gs x) from congrArg (! ·) (qIm z _)];exact qBy (λc=>⟨_,rfl,cc c⟩) (λc=>bb (hDb _▸c))
  intro o ho;rw[hDr];have ho':upd H3 o (.lst ((outF gs (rowI gs x)).map iV)) o=some (.lst ((outF gs (rowI gs x)).map iV)):=upd_same;have X4:=Ext.new ho (.lst ((outF gs (rowI gs x)).map iV));have E4:=E3.trans X4;have hi4:=X4 _ _ hi;have hp4:=E4 _ _ hp;refine⟨_,rfl,_,rfl,_,rfl,i,o,rowI gs x,outF gs (rowI gs x),rfl,hi4,ho',by omega,λr1 H5 e5 hr1'=>?_⟩;have E5:=E4.trans e5;have pn:∀ {l:List Nat},2<=l.length->l≠[]:=λ{l} h z=>by rw[z]at h;exact absurd h (by decide)
  refine⟨p,r1,S,beF (rowI gs x) (outF gs (rowI gs x)),w,rfl,E5 _ _ hp,hr1',nz,lS,(pt.perm sp).beside (pn t2),by rw[qBk];omega,by rw[qBk];omega,by rw[qBk];omega,by omega,λL1 H6 e6 hL1=>?_⟩;have E6:=E5.trans e6;have X6:=e5.trans e6;refine⟨_,rfl,_,rfl,_,rfl,o,i,outF gs (rowI gs x),rowI gs x,rfl,X6 _ _ ho',X6 _ _ hi4,by omega,λr2 H7 e7 hr2'=>?_⟩;have E7:=E6.trans e7;refine⟨p,r2,S,beF (outF gs (rowI gs x)) (rowI gs x),w,rfl,E7 _ _ hp,hr2',nz,lS,(pt.perm (sp.trans hE9)).beside (pn t1),by rw[qBk];omega,by rw[qBk];omega,by rw[qBk];omega,by omega,λL2 H8 e8 hL2=>?_⟩;obtain⟨as1,ha1,pa1⟩:=hL1.ext (e7.trans e8);obtain⟨as2,ha2,pa2⟩:=id hL2;have la1:=pa1.length;have la2:=pa2.length;have lp1:=qKi S n (beF (rowI gs x) (outF gs (rowI gs x)));have lp2:=qKi S n (beF (outF gs (rowI gs x)) (rowI gs x));have p10:2^n<=2^10:=hBf (by decide) (by omega);refine⟨L1,L2,_,_,rfl,rfl,ha1,ha2,?_,λL hL=>?_⟩
  ·rw[hA1,hA1];exact hB5 (qHv (by omega))
  have X9:=Ext.new hL (.lst (as1.map V.ref++as2.map V.ref));refine q L _ (E7.trans (e8.trans X9)) ⟨as1++as2,by rw[upd_same,hA3],Paired.app (Paired.mapP pa1 λa x ⟨g,z1,z2⟩=>⟨g,X9 _ _ z1,X9 _ _ z2⟩) (Paired.mapP pa2 λa x ⟨g,z1,z2⟩=>⟨g,X9 _ _ z1,X9 _ _ z2⟩)⟩
end
theorem Pt.bit(h:Pt w gs)(i:Nat):w.testBit i=true↔∃g∈gs,g.testBit i=true:=by
 rw[<-h.su];exact qB1 h.di i
theorem Pt.len(h:Pt w gs)(hw:w<2^n):gs.length<=n:=by
 have nd:(gs.map Nat.log2).Nodup:=by
  rw[List.Nodup,hBb];exact hBp (λ{a b} ha hb z e=>qBl z (hBt (h.nz a ha)) (by rw[e];exact hBt (h.nz b hb))) h.di
 have:=qPi nd (m:=n) λx hx=>by
  obtain⟨g,hg,rfl⟩:=hAb.mp hx;exact qG4 hw ((h.bit _).mpr ⟨g,hg,hBt (h.nz g hg)⟩)
 rw[hA1]at this;exact this
theorem qO7(h:g≠0):∃i,g.testBit i=true:=⟨_,hBt h⟩
theorem qU2{gs:List Nat}(nd:gs.Nodup)(l:3<=gs.length)(a b:Nat):∃c∈gs,c≠a/\c≠b:=by
 match gs,nd,l with
 |p :: q :: r :: t,nd,_ =>
  obtain⟨h1,h2⟩:=hBe.mp nd;obtain⟨h3,h4⟩:=hBe.mp h2;have pq:p≠q:=λz=>h1 (by rw[z];simp)
  have pr:p≠r:=λz=>h1 (by rw[z];simp)
  have qr:q≠r:=λz=>h3 (by rw[z];simp)
  by_cases hp:p≠a/\p≠b
  ·exact⟨p,by simp,hp⟩
  ·by_cases hq:q≠a/\q≠b
   ·exact⟨q,by simp,hq⟩
   ·exact⟨r,by simp,by omega,by omega⟩
theorem Pt.two{w:Nat}{gs:List Nat}(h:Pt w gs)(l:3<=gs.length){a b:Nat}(ha:a∈gs)(hb:b∈gs):a ||| b≠w:=λe=>by
 obtain⟨c,hc,n1,n2⟩:=qU2 h.nd l a b;obtain⟨i,hi⟩:=qO7 (h.nz c hc);have:=(h.bit i).mpr ⟨c,hc,hi⟩;rw[<-e,hCk,hE7]at this;rcases this with z|z
 ·exact qBl (qF0 h.di hc ha n1) hi z
 ·exact qBl (qF0 h.di hc hb n2) hi z
theorem Pt.sub(h:Pt w gs)(hg:g∈gs)(hi:g.testBit i=true):w.testBit i=true:=(h.bit i).mpr ⟨g,hg,hi⟩
theorem qP7{w g i:Nat}(hs:∀i,g.testBit i=true->w.testBit i=true):(w^^^g).testBit i=true↔w.testBit i=true/\g.testBit i=false:=by
 rw[hAo];have:=hs i;cases h1:w.testBit i <;> cases h2:g.testBit i <;> simp_all
theorem xx(w g:Nat):w^^^(w^^^g)=g:=by rw[<-hBu,hC1,hCg]
def Spr(w:Nat)(a b:List Nat):Prop:=∃x∈a,∃y∈b,x ||| y=w
theorem Spr.symm(h:Spr w a b):Spr w b a:=by
 obtain⟨x,hx,y,hy,e⟩:=h;exact⟨y,hy,x,hx,by rw[Nat.or_comm];exact e⟩
structure Sh(w:Nat)(gs:List Nat):Prop where
 pt:Pt w gs
 l3:3<=gs.length
theorem Spr.no(h:Spr w a b)(ha:Sh w a)(hb:Sh w b)(h1:g∈a)(h2:g∈b):False:=by
 obtain⟨x,hx,y,hy,e⟩:=h;by_cases c:x=g
 ·subst c;exact hb.pt.two hb.l3 h2 hy e
 ·by_cases d:y=g
  ·subst d;exact ha.pt.two ha.l3 hx h1 e
  ·obtain⟨i,hi⟩:=qO7 (ha.pt.nz g h1);have:=ha.pt.sub h1 hi;rw[<-e,hCk,hE7]at this;rcases this with z|z
   ·exact qBl (qF0 ha.pt.di hx h1 c) z hi
   ·exact qBl (qF0 hb.pt.di hy h2 d) z hi
theorem qUa{w:Nat}{a b:List Nat}(ha:Sh w a)(hb:Sh w b){g h:Nat}(hg:g∈a)(hg':w^^^g∈b)(hh:h∈a)(hh':w^^^h∈b):g=h:=by
 by_cases c:g=h
 ·exact c
 ·exfalso;obtain⟨k,hk,n1,n2⟩:=qU2 ha.pt.nd ha.l3 g h;obtain⟨i,hi⟩:=qO7 (ha.pt.nz k hk);have wi:=ha.pt.sub hk hi;have f1:g.testBit i=false:=by
   cases q:g.testBit i with|false=>rfl|true=>exact(qBl (qF0 ha.pt.di hk hg n1) hi q).elim
  have f2:h.testBit i=false:=by
   cases q:h.testBit i with|false=>rfl|true=>exact(qBl (qF0 ha.pt.di hk hh n2) hi q).elim
  have e1:=(qP7 λj=>ha.pt.sub hg).mpr ⟨wi,f1⟩;have e2:=(qP7 λj=>ha.pt.sub hh).mpr ⟨wi,f2⟩;have ne:w^^^g≠w^^^h:=λz=>c (by rw[<-xx w g,z,xx])
  exact qBl (qF0 hb.pt.di hg' hh' ne) e1 e2
noncomputable def keF(w:Nat)(a b:List Nat):List Nat:=a.filter λg=>!decide (w^^^g∈b)
noncomputable def meF(w:Nat)(a b:List Nat):List Nat:=(keF w a b++keF w b a).mergeSort λa b=>decide (b<=a)
theorem qEo(w:Nat)(a b:List Nat):(meF w a b).Perm (keF w a b++keF w b a):=hCr _ _
theorem qPn(ha:Sh w a)(hb:Sh w b)(hg:g∈a)(hg':w^^^g∈b):a.Perm (g :: keF w a b):=by
 refine(hBq ha.pt.nd ?_).mpr λh=>?_
 ·rw[hBe];refine⟨λz=>?_,ha.pt.nd.filter _⟩;have:=(hAj.mp z).2;rw[hEi hg']at this;cases this
 ·rw[hAg];constructor
  ·intro z;by_cases c:w^^^h∈b
   ·exact .inl (qUa ha hb z c hg hg')
   ·exact .inr (hAj.mpr ⟨z,by rw[hEj c];rfl⟩)
  ·rintro(z|z)
   ·rw[z];exact hg
   ·exact(hAj.mp z).1
theorem zC3{w:Nat}{a b:List Nat}(ha:Sh w a)(hb:Sh w b){g:Nat}(hg:g∈a)(hg':w^^^g∈b):Sh w (meF w a b):=by
 have pa:=qPn ha hb hg hg';have pb:=qPn hb ha hg' (by rw[xx];exact hg);have d1:=ha.pt.di.perm pa;have d2:=hb.pt.di.perm pb;obtain⟨a1,a2⟩:=hAr.mp d1;obtain⟨b1,b2⟩:=hAr.mp d2;have s1:=pa.sum_nat;have s2:=pb.sum_nat;have l1:=pa.length_eq;have l2:=pb.length_eq;rw[hDd,ha.pt.su]at s1;rw[hDd,hb.pt.su]at s2;rw[hCb]at l1 l2;have gs:∀i,g.testBit i=true->w.testBit i=true:=λi=>ha.pt.sub hg
 have sg:g+(w^^^g)=w:=by
  rw[qN4 _ _ _ (hAa _) (qGq λi h1 h2=>by rw[((qP7 gs).mp h2).2]at h1;cases h1)];refine hAl λi=>?_
  rw[hCk,hAo];have:=gs i;cases h1:w.testBit i <;> cases h2:g.testBit i
  ·rfl
  ·rw[this h2]at h1;cases h1
  ·rfl
  ·rfl
 have k3:=ha.l3;have k4:=hb.l3;refine⟨Pt.perm ⟨λh hh=>?_,hBc.mpr ⟨a2,b2,λx hx y hy=>?_⟩,?_⟩ (qEo w a b).symm,?_⟩
 ·rcases hAd.mp hh with z|z
  ·exact ha.pt.nz h (hAj.mp z).1
  ·exact hb.pt.nz h (hAj.mp z).1
 ·refine qGq λi h1 h2=>?_
  have wi:=ha.pt.sub (hAj.mp hx).1 h1;have f1:g.testBit i=false:=by
   cases q:g.testBit i with|false=>rfl|true=>exact(qBl (a1 x hx) q h1).elim
  exact qBl (b1 y hy) ((qP7 gs).mpr ⟨wi,f1⟩) h2
 ·rw[hE1];omega
 ·rw[(qEo w a b).length_eq,hAc];omega
theorem zAz(ha:Sh w a)(hb:Sh w b)(ht:Sh w t)(h1:Spr w a t)(h2:Spr w b t):Spr w (meF w a b) t:=by
 obtain⟨x,hx,y,hy,e⟩:=h1;obtain⟨x',hx',y',hy',e'⟩:=h2;by_cases c:w^^^x∈b
 ·by_cases c':w^^^x'∈a
  ·exfalso;have ex:w^^^x'=x:=qUa ha hb c' (by rw[xx];exact hx') hx c;refine ht.pt.two ht.l3 hy hy' (hAl λi=>?_);have wy:∀ {z j:Nat},z∈t->z.testBit j=true->w.testBit j=true:=λ{z j}=>ht.pt.sub
   rw[hCk];cases hw:w.testBit i with
   |false =>
    cases q1:y.testBit i with
    |true=>rw[wy hy q1]at hw;cases hw
    |false =>
     cases q2:y'.testBit i with
     |true=>rw[wy hy' q2]at hw;cases hw
     |false=>rfl
   |true =>
    have b1:=congrArg (λz=>Nat.testBit z i) e;have b2:=congrArg (λz=>Nat.testBit z i) e';simp only[hCk,hw]at b1 b2;cases q1:x.testBit i with
    |false=>rw[q1,Bool.false_or]at b1;rw[b1];rfl
    |true =>
     have q2:x'.testBit i=false:=by
      rw[<-ex,hAo,hw]at q1;cases q:x'.testBit i with|false=>rfl|true=>rw[q]at q1;cases q1
     rw[q2,Bool.false_or]at b2;rw[b2];cases y.testBit i <;> rfl
  ·exact⟨x',(qEo w a b).mem_iff.mpr (hA8 _ (hAj.mpr ⟨hx',by rw[hEj c'];rfl⟩)),y',hy',e'⟩
 ·exact⟨x,(qEo w a b).mem_iff.mpr (hAe _ (hAj.mpr ⟨hx,by rw[hEj c];rfl⟩)),y,hy,e⟩
def Cz(gs s:List Nat):Prop:=∀g∈gs,∃h∈s,∀i,g.testBit i=true->h.testBit i=true
structure PsI(w:Nat)(gs:List Nat)(L:List (Str×List Nat)):Prop where
 sh:∀e∈L,Sh w e.2
 kd:∀e∈L,e.1 = "ring"\/e.1 = "bundle"\/e.1 = "whole"
 cz:∀e∈L,Cz gs e.2
 ap:L.Pairwise λa b=>Spr w a.2 b.2
theorem zC5(S:List Nat)(m:Nat):kiF S m = "ring"\/kiF S m = "bundle"\/kiF S m = "whole":=by
 unfold kiF;split
 ·exact .inl rfl
 ·split
  ·exact .inr (.inl rfl)
  ·exact .inr (.inr rfl)
theorem qKj(S:List Nat):∀(k:Nat) {gs:List Nat},Sh w gs->gs.length<=k+2->PsI w gs (paF S k gs)
 |0,gs,h,l=>absurd h.l3 (by omega)
 |k+1,gs,h,l=>by
  unfold paF;split
  ·refine⟨λe he=>?_,λe he=>?_,λe he=>?_,hBw _ _⟩
   ·rw[hA9.mp he];exact h
   ·rw[hA9.mp he];exact zC5 _ _
   ·rw[hA9.mp he];exact λg hg=>⟨g,hg,λ_ z=>z⟩
  ·rename_i c;obtain⟨xl,s1,s2⟩:=qL1 c;revert xl s1 s2;generalize fpF (shF S gs) gs.length=x;intro xl s1 s2;obtain⟨t1,t2,t3⟩:=qD5 h.pt.nd xl s1 s2;have sp:=qCk h.pt.nd x;revert t1 t2 t3 sp;generalize outF gs (rowI gs x)=out;generalize rowI gs x=inn;intro t1 t2 t3 sp;have pn:∀ {l:List Nat},2<=l.length->l≠[]:=λ{l} h z=>by rw[z]at h;exact absurd h (by decide)
   have P1:=h.pt.perm sp;have P2:=h.pt.perm (sp.trans hE9);have A:=qKj (w:=w) S k (gs:=beF inn out) ⟨P1.beside (pn t2),by rw[qBk];omega⟩ (by rw[qBk];omega);have B:=qKj (w:=w) S k (gs:=beF out inn) ⟨P2.beside (pn t1),by rw[qBk];omega⟩ (by rw[qBk];omega);obtain⟨d1,d2,d3⟩:=hBc.mp P1.di;have co:∀ {a b:List Nat},Dis b->(∀g∈gs,g∈a\/g∈b)->∀ {s:List Nat},Cz (beF a b) s->Cz gs s:=λ{a b} db cov {s} cz g hg=>by
    rcases cov g hg with z|z
    ·exact cz g ((qDy a b).mem_iff.mpr (hAe _ z))
    ·obtain⟨h',hh,hi⟩:=cz b.sum ((qDy a b).mem_iff.mpr (hA8 _ (hA9.mpr rfl)));exact⟨h',hh,λi q=>hi i ((qB1 db i).mpr ⟨g,z,q⟩)⟩
   refine⟨λe he=>?_,λe he=>?_,λe he=>?_,hBc.mpr ⟨A.ap,B.ap,λs hs t ht=>?_⟩⟩
   ·rcases hAd.mp he with z|z
    ·exact A.sh e z
    ·exact B.sh e z
   ·rcases hAd.mp he with z|z
    ·exact A.kd e z
    ·exact B.kd e z
   ·rcases hAd.mp he with z|z
    ·exact co d2 (λg hg=>hAd.mp (sp.mem_iff.mp hg)) (A.cz e z)
    ·exact co d1 (λg hg=>(hAd.mp (sp.mem_iff.mp hg)).symm) (B.cz e z)
   ·obtain⟨u,hu,iu⟩:=A.cz s hs out.sum ((qDy inn out).mem_iff.mpr (hA8 _ (hA9.mpr rfl)));obtain⟨v,hv,iv⟩:=B.cz t ht inn.sum ((qDy out inn).mem_iff.mpr (hA8 _ (hA9.mpr rfl)));refine⟨u,hu,v,hv,hAl λi=>?_⟩;rw[hCk];cases hw:w.testBit i with
    |false =>
     cases q1:u.testBit i with
     |true=>rw[(A.sh s hs).pt.sub hu q1]at hw;cases hw
     |false =>
      cases q2:v.testBit i with
      |true=>rw[(B.sh t ht).pt.sub hv q2]at hw;cases hw
      |false=>rfl
    |true =>
     obtain⟨g,hg,gi⟩:=(h.pt.bit i).mp hw;rcases hAd.mp (sp.mem_iff.mp hg) with z|z
     ·rw[iv i ((qB1 d1 i).mpr ⟨g,z,gi⟩)];cases u.testBit i <;> rfl
     ·rw[iu i ((qB1 d2 i).mpr ⟨g,z,gi⟩)];rfl
end My
namespace L2
open PySem PySem.Spec PyProof.Rows PySem.SeqAt
def qSk(K:PySem.W.Frag):R2:=λx y H Q=>∃ds d,DR K H y (.list ds)/\DR K H x d/\shaped (.list ds)=true/\shaped d=true/\Q (.bl (!ds.any λz=>PyData.eqv z d)) H
theorem qSu{X:Cx}(hu:X.A.units+65<cLine):OpR X (compareOp .NotIn) (qSk X.K):=by
 intro aB s σ H x y v u Q I rx ry h;obtain⟨ds,d,hy,hx,sy,sx,q⟩:=h;obtain⟨a1,r1⟩:=DR.reads I hx rx;obtain⟨a2,r2⟩:=DR.reads I hy ry;exact notIn_list_reads r2 r1 (canLay_of_shaped sy) (canLay_of_shaped sx) (room_in_shaped sx hu) ⟨.bl _,H,I,rfl,q⟩
end L2
namespace My
open PySem L2
abbrev PE1:=Str×List Nat
noncomputable def mtB(w:Nat)(a b:PE1):Bool:=if a.1≠b.1\/a.1 = "whole" then false else a.2.any λg=>decide (w^^^g∈b.2)
theorem zC2{w:Nat}{a b:PE1}(h:mtB w a b=true):∃g∈a.2,w^^^g∈b.2:=by
 unfold mtB at h;split at h
 ·cases h
 ·obtain⟨g,hg,z⟩:=List.any_eq_true.mp h;exact⟨g,hg,hEl z⟩
noncomputable def mtsF(w:Nat)(told:List PE1)(e:PE1):List PE1:=told.filter λt=>mtB w t e
noncomputable def rsF(w:Nat)(told:List PE1)(e:PE1):List PE1:=told.filter λt=>!decide (t∈mtsF w told e)
noncomputable def foF(w:Nat)(ms:List PE1)(gs:List Nat):List Nat:=ms.foldl (λg m=>meF w m.2 g) gs
noncomputable def joS(w:Nat)(told:List PE1)(e:PE1):List PE1:=rsF w told e++[(e.1,foF w (mtsF w told e) e.2)]
noncomputable def joF(w:Nat)(ps:List PE1):List PE1:=ps.foldl (joS w) []
theorem qHm(w:Nat)(ps:List PE1)(e:PE1):joF w (ps++[e])=joS w (joF w ps) e:=by unfold joF;rw[hBm];rfl
structure MI(w:Nat)(ms:List PE1)(gs:List Nat)(ts:List (List Nat)):Prop where
 sh:Sh w gs
 sm:∀m∈ms,Sh w m.2
 co:∀m∈ms,∃g∈m.2,w^^^g∈gs
 ap:ms.Pairwise λa b=>Spr w a.2 b.2
 st:∀t∈ts,Sh w t
 gt:∀t∈ts,Spr w gs t
 mt:∀m∈ms,∀t∈ts,Spr w m.2 t
theorem MI.step{w:Nat}{m:PE1}{ms:List PE1}{gs:List Nat}{ts:List (List Nat)}(h:MI w (m :: ms) gs ts):MI w ms (meF w m.2 gs) ts:=by
 obtain⟨a1,a2⟩:=hAr.mp h.ap;have hm:=h.sm m hA6;obtain⟨g,hg,hg'⟩:=h.co m hA6;refine⟨zC3 hm h.sh hg hg',λn hn=>h.sm n (hA4 _ hn),λn hn=>?_,a2,h.st,λt ht=>zAz hm h.sh (h.st t ht) (h.mt m hA6 t ht) (h.gt t ht),λn hn t ht=>h.mt n (hA4 _ hn) t ht⟩;obtain⟨k,hk,hk'⟩:=h.co n (hA4 _ hn);refine⟨k,hk,(qEo w m.2 gs).mem_iff.mpr (hA8 _ (hAj.mpr ⟨hk',?_⟩))⟩;rw[xx,hEj λz=>(a1 n hn).no hm (h.sm n (hA4 _ hn)) z hk];rfl
theorem MI.all{w:Nat}{ts:List (List Nat)}:∀ {ms:List PE1} {gs:List Nat},MI w ms gs ts->MI w [] (foF w ms gs) ts
 |[],_,h=>h
 |m :: ms,gs,h=>MI.all (ms:=ms) (gs:=meF w m.2 gs) h.step
structure JI(w:Nat)(told rest:List PE1):Prop where
 sh:∀e∈told++rest,Sh w e.2
 kd:∀e∈told++rest,e.1 = "ring"\/e.1 = "bundle"\/e.1 = "whole"
 ap:(told++rest).Pairwise λa b=>Spr w a.2 b.2
theorem qV4{α:Type}{R:α->α->Prop}(sy:∀ {a b},R a b->R b a):∀ {l:List α},l.Pairwise R->∀ {a b:α},a∈l->b∈l->a≠b->R a b
 |h :: l,d,a,b,ha,hb,ne=>by
  obtain⟨d1,d2⟩:=hAr.mp d;rcases hAg.mp ha with z1|z1
  ·rcases hAg.mp hb with z2|z2
   ·exact(ne (z1.trans z2.symm)).elim
   ·rw[z1];exact d1 b z2
  ·rcases hAg.mp hb with z2|z2
   ·rw[z2];exact sy (d1 a z1)
   ·exact qV4 sy d2 z1 z2 ne
theorem qFm{w:Nat}{told:List PE1}{e t:PE1}(h:t∈rsF w told e):t∈told/\t∉mtsF w told e:=by
 obtain⟨h1,h2⟩:=hAj.mp h;exact⟨h1,λz=>by rw[hEi z]at h2;cases h2⟩
theorem JI.mi{w:Nat}{told rest:List PE1}{e:PE1}(h:JI w told (e :: rest)):MI w (mtsF w told e) e.2 ((rsF w told e++rest).map (·.2)):=by
 obtain⟨a1,a2,a3⟩:=hBc.mp h.ap;obtain⟨b1,b2⟩:=hAr.mp a2;have mm:∀ {m:PE1},m∈mtsF w told e->m∈told:=λ{m} hm=>(hAj.mp hm).1
 refine⟨h.sh e (hA8 _ hA6),λm hm=>h.sh m (hAe _ (mm hm)),λm hm=>zC2 (hAj.mp hm).2,a1.filter _,λt ht=>?_,λt ht=>?_,λm hm t ht=>?_⟩
 ·obtain⟨u,hu,rfl⟩:=hAb.mp ht;rcases hAd.mp hu with z|z
  ·exact h.sh u (hAe _ (qFm z).1)
  ·exact h.sh u (hA8 _ (hA4 _ z))
 ·obtain⟨u,hu,rfl⟩:=hAb.mp ht;rcases hAd.mp hu with z|z
  ·exact(a3 u (qFm z).1 e hA6).symm
  ·exact b1 u z
 ·obtain⟨u,hu,rfl⟩:=hAb.mp ht;rcases hAd.mp hu with z|z
  ·exact qV4 (R:=λa b:PE1=>Spr w a.2 b.2) (λ{a b} q=>q.symm) a1 (mm hm) (qFm z).1 (λq=>(qFm z).2 (by rw[<-q];exact hm))
  ·exact a3 m (mm hm) u (hA4 _ z)
theorem JI.step{w:Nat}{told rest:List PE1}{e:PE1}(h:JI w told (e :: rest)):JI w (joS w told e) rest:=by
 have M:=h.mi.all;obtain⟨a1,a2,a3⟩:=hBc.mp h.ap;obtain⟨b1,b2⟩:=hAr.mp a2;have cs:∀u∈joS w told e++rest,u∈rsF w told e\/u=(e.1,foF w (mtsF w told e) e.2)\/u∈rest:=λu hu=>by
  rcases hAd.mp hu with z|z
  ·rcases hAd.mp z with y|y
   ·exact .inl y
   ·exact .inr (.inl (hA9.mp y))
  ·exact .inr (.inr z)
 refine⟨λu hu=>?_,λu hu=>?_,?_⟩
 ·rcases cs u hu with z|z|z
  ·exact h.sh u (hAe _ (qFm z).1)
  ·rw[z];exact M.sh
  ·exact h.sh u (hA8 _ (hA4 _ z))
 ·rcases cs u hu with z|z|z
  ·exact h.kd u (hAe _ (qFm z).1)
  ·rw[z];exact h.kd e (hA8 _ hA6)
  ·exact h.kd u (hA8 _ (hA4 _ z))
 ·unfold joS;rw[List.append_assoc];refine hBc.mpr ⟨a1.filter _,hAr.mpr ⟨λt ht=>M.gt t.2 (hAb.mpr ⟨t,hA8 _ ht,rfl⟩),b2⟩,λu hu t ht=>?_⟩;rcases hAg.mp ht with z|z
  ·rw[z];exact(M.gt u.2 (hAb.mpr ⟨u,hAe _ hu,rfl⟩)).symm
  ·exact a3 u (qFm hu).1 t (hA4 _ z)
theorem JI.all{w:Nat}{ps:List PE1}(h:JI w [] ps):∀i,JI w (joF w (ps.take i)) (ps.drop i)
 |0=>h
 |i+1=>by
  have ih:=JI.all h i;cases hi:ps[i]? with
  |none =>
   have l:ps.length<=i:=List.getElem?_eq_none_iff.mp hi;rw[hCz l]at ih;rw[hA5 l]at ih;rw[hA5 (by omega),hCz (by omega)];exact ih
  |some e =>
   have hl:=qAu hi;have ee:ps[i]=e:=by have:=hA2 hl;rw[hi]at this;exact(hAq this).symm
   rw[hCp hl,ee]at ih;rw[qAl hi,qHm];exact ih.step
theorem PsI.ji{w:Nat}{gs:List Nat}{L:List PE1}(h:PsI w gs L):JI w [] L:=⟨h.sh,h.kd,h.ap⟩
noncomputable def qDm(e:PE1):PyData:=.tuple [.str e.1,.list (e.2.map λn:Nat=>PyData.int (n:Int))]
theorem qPz:∀a b:List Nat,PyData.eqvAll (a.map λn:Nat=>PyData.int (n:Int)) (b.map λn:Nat=>PyData.int (n:Int))=decide (a=b)
 |[],[]=>rfl
 |[],_ :: _=>rfl
 |_ :: _,[]=>rfl
 |x :: a,y :: b=>by
  show(((x:Int) == (y:Int)) && PyData.eqvAll (a.map λn:Nat=>PyData.int (n:Int)) (b.map λn:Nat=>PyData.int (n:Int)))=_;rw[qPz a b];by_cases e:x=y
  ·subst e;simp
  ·have e':¬((x:Int)=(y:Int)):=λz=>e (by omega)
   rw[show((x:Int) == (y:Int))=false from beq_eq_false_iff_ne.mpr e',hEj (λz=>e (List.cons.inj z).1)];rfl
theorem qPy(a b:PE1):PyData.eqv (qDm a) (qDm b)=decide (a=b):=by
 show(a.1 == b.1 && (PyData.eqvAll (a.2.map λn:Nat=>PyData.int (n:Int)) (b.2.map λn:Nat=>PyData.int (n:Int)) && true))=_;rw[qPz,Bool.and_true];obtain⟨a1,a2⟩:=a;obtain⟨b1,b2⟩:=b;by_cases e:a1=b1
 ·by_cases e2:a2=b2
  ·subst e e2;simp
  ·simp[e,e2]
 ·simp[e]
theorem zDb{k:Str}(h:k = "ring"\/k = "bundle"\/k = "whole"):PyData.strOk k=true:=by
 rcases h with rfl|rfl|rfl <;> decide +kernel
theorem qLv:∀ {L:List PE1},(∀e∈L,e.1 = "ring"\/e.1 = "bundle"\/e.1 = "whole")->PyData.canLayAll0 (L.map qDm)=true/\PyData.depthAll (L.map qDm)<=2
 |[],_=>⟨rfl,hAp _⟩
 |e :: L,h=>by
  obtain⟨h1,h2⟩:=qLv (L:=L) λx hx=>h x (hA4 _ hx)
  obtain⟨i1,i2⟩:=qHl e.2;have ks:=zDb (h e hA6);refine⟨?_,?_⟩
  ·show((PyData.strOk e.1 && (PyData.canLayAll0 (e.2.map λn:Nat=>PyData.int (n:Int)) && true)) && PyData.canLayAll0 (L.map qDm))=true;rw[ks,i1,h1];rfl
  ·show max (max 0 (max (PyData.depthAll (e.2.map λn:Nat=>PyData.int (n:Int))+1) 0)+1) (PyData.depthAll (L.map qDm))<=2;rw[i2];omega
theorem qK4{L:List PE1}(h:∀e∈L,e.1 = "ring"\/e.1 = "bundle"\/e.1 = "whole"):SeqAt.shaped (.list (L.map qDm))=true:=by
 obtain⟨h3,h4⟩:=qLv h;show(PyData.canLayAll0 (L.map qDm) && decide (PyData.depthAll (L.map qDm)+1<=64))=true;rw[h3,hEi (by omega)];rfl
theorem qMy{e:PE1}(h:e.1 = "ring"\/e.1 = "bundle"\/e.1 = "whole"):SeqAt.shaped (qDm e)=true:=by
 obtain⟨i1,i2⟩:=qHl e.2;show((PyData.strOk e.1 && (PyData.canLayAll0 (e.2.map λn:Nat=>PyData.int (n:Int)) && true)) && decide (max 0 (max (PyData.depthAll (e.2.map λn:Nat=>PyData.int (n:Int))+1) 0)+1<=64))=true;rw[zDb h,i1,i2];rfl
def PtE(H:Hp)(a:Addr)(e:PE1):Prop:=∃g,H a=some (.tup [.str e.1,.ref g])/\LsN H g e.2
theorem PtE.ext{H H':Hp}{a:Addr}{e:PE1}(h:PtE H a e)(x:Ext H H'):PtE H' a e:=by
 obtain⟨g,h1,h2⟩:=h;exact⟨g,x _ _ h1,x _ _ h2⟩
theorem qTx{K:PySem.W.Frag}{H:Hp}{a:Addr}{e:PE1}(h:PtE H a e):DR K H (.ref a) (qDm e):=by
 obtain⟨g,h1,h2⟩:=h;exact .tup (SqT.of h1) (.cons (.str _) (.cons (.lst (SqL.of h2) (qNt _)) .nil))
theorem qL6{K:PySem.W.Frag}{H:Hp}:∀ {as:List Addr} {L:List PE1},Paired (PtE H) as L->DRs K H (as.map V.ref) (L.map qDm)
 |_,_,.nil=>.nil
 |_,_,.cons a b=>.cons (qTx a) (qL6 b)
def qRq:Sp:=λvs H Q _=>∃(a b:Addr) (e1 e2:PE1) (w:Nat),vs=[.ref a,.ref b,iV w]/\PtE H a e1/\PtE H b e2/\e1.2.length<=12/\∀H',Ext H H'->Q (.bl (mtB w e1 e2)) H'
def qOc:Sp:=λvs H Q _=>∃(a b:Addr) (g1 g2:List Nat) (w:Nat),vs=[.ref a,.ref b,iV w]/\LsN H a g1/\LsN H b g2/\g1.length<=12/\g2.length<=12/\∀r H',Ext H H'->H r=none->LsN H' r (meF w g1 g2)->Q (.ref r) H'
def qOe:Sp:=λvs H Q _=>∃(fo:Addr) (ps:List PE1) (w n:Nat),vs=[.ref fo,iV w]/\PtL H fo ps/\JI w [] ps/\w<2^n/\n<=12/\ps.length<=2000/\∀L H',Ext H H'->PtL H' L (joF w ps)->Q (.ref L) H'
theorem qUm:bootBuiltins "any"=some (.builtin "any"):=by decide +kernel
theorem zCj(hr:Room k A):A.units+65<cLine:=by have:=hr.un;omega
theorem zDm(p:α->Bool)(t:α):[t].filter p=if p t=true then [t] else []:=by
 by_cases c:p t=true
 ·rw[hEn c,hDz c];rfl
 ·rw[hEm c,hE0 c];rfl
theorem qNo(w:Nat):∀(told ps:List PE1),(ps.foldl (joS w) told).length<=told.length+ps.length
 |told,[]=>hAa _
 |told,e :: ps=>by
  have h:=qNo w (joS w told e) ps;have h2:(joS w told e).length<=told.length+1:=by
   unfold joS rsF;rw[hAc];exact hC9 (hAs _ _)
  show(ps.foldl (joS w) (joS w told e)).length<=told.length+(ps.length+1);omega
section
variable{P:Program}{w:World}{K:PySem.W.Frag}{mg:Str->Option Value}{base:Heap}{f f1 f2 f3 f4 f5:Addr}{fd fd1 fd2 fd3 fd4 fd5:FuncData}
noncomputable abbrev mtN:List Str:=["one","other","whole"]
theorem qZg:FnScope mtN ["one","other","whole"] (qAc qOp):=fsk
theorem qWc(F:Fun K "are_mates" "are_mates" qOp f fd)(man:mg "any"=none):v8 1 f fd ["one","other","whole"] qRq:=by
 refine F.okA qZg λcdv A outer s H vs Q E hr h=>?_
 obtain⟨a,b,⟨k1,g1⟩,⟨k2,g2⟩,w,rfl,⟨ga,ha,hga⟩,⟨gb,hb,hgb⟩,l1,q⟩:=h;have l1:g1.length<=12:=l1;refine⟨_,(qAa (qBj (PW.pt (qLc (qAn qFp (qBh qBq (pv 0) qAb (λ_ _=>rfl)) (qBh qBq (pv 1) qAb (λ_ _=>rfl)) (nomark _)) (qJb (qAn qB4 (qBh qBq (pv 0) qAb (λ_ _=>rfl)) qEu (nomark _))))) (qAd (qAt qE5)) qAx) (qAd (qAt (qAh (qUf rfl) rfl man qUm (pa1 (qA7 (N:=mtN) (sc:=qAc qOp) (N':=["group","whole","other"]) (sub:=[none,some 2,some 1]) (qAp (qBh qBq (pv 0) qAb (λ_ _=>rfl))) (λC s H fp=>⟨qAw,qDf (show OpR _ (compareOp .In) (rIn K false) from qFr) (qAg qDn (pv 1) (pv 0)) (qBh (show IxR _ (qO2 K) from qBq) (pv 2) qAb (λ_ _=>rfl)) (by with_unfolding_all rfl)⟩))))))),?_⟩;have q':=q H (Ext.refl _);unfold mtB at q q';have at0:∀ {x:Str} {y:Addr},atI [V.str x,V.ref y] 0=some (V.str x):=λ{x y}=>qAy (j:=0) rfl
 refine⟨_,rfl,a,_,_,_,rfl,rfl,SqT.of ha,at0,_,rfl,b,_,_,_,rfl,rfl,SqT.of hb,at0,rfl,_,rfl,?_⟩;rw[show(!decide (V.str k1=V.str k2))=decide (k1≠k2) by
  by_cases e:k1=k2
  ·rw[hEi (by rw[e]),hEj (λz=>z e)];rfl
  ·rw[hEj (λz=>e (V.str.inj z)),hEi e];rfl]
 refine qBy (λc=>?_) (λc=>?_)
 ·rw[hEn (.inl (hEl c))]at q';exact q'
 have c':k1=k2:=by
  by_cases e:k1=k2
  ·exact e
  ·exact absurd (hEi e) c
 refine⟨_,rfl,a,_,_,_,rfl,rfl,SqT.of ha,at0,rfl,_,rfl,?_⟩;rw[show(decide (V.str k1=V.str "whole"))=decide (k1 = "whole") from decide_eq_decide.mpr ⟨λz=>V.str.inj z,λz=>by rw[z]⟩];refine qBy (λd=>?_) (λd=>?_)
 ·rw[hEn (.inr (hEl d))]at q';exact q'
 have d':¬(k1≠k2\/k1 = "whole"):=λz=>by
  rcases z with z|z
  ·exact z c'
  ·exact d (hEi z)
 rw[hEm d']at q;refine⟨_,rfl,a,_,_,_,rfl,rfl,SqT.of ha,qAy (j:=1) rfl,ga,rfl,⟨_,SqL.of hga⟩,?_⟩;refine qAq (xs:=g1.map iV) (λi ys H'=>H'=H/\ys=((g1.take i).map λg=>decide (w^^^g∈g2)).map V.bl) ⟨rfl,rfl⟩ (λi ys H' _ h=>by rw[h.1];exact SqL.of hga) ?_ ?_
 ·rintro i v ys H' hx ⟨rfl,rfl⟩;obtain⟨x,rfl,hx'⟩:=qCj hx;have hi:=qAu hx';refine⟨sls,iteT (B:=False) ?_⟩;refine⟨_,rfl,_,rfl,_,_,rfl,rfl,_,rfl,b,_,_,_,rfl,rfl,SqT.of hb,qAy (j:=1) rfl,gb,_,rfl,.inl (SqL.of hgb),rfl,qDp _,?_⟩;rw[show(if false=true then !inV (V.int (Builtin.bitXor (w:Int) (x:Int))) (g2.map iV) else inV (V.int (Builtin.bitXor (w:Int) (x:Int))) (g2.map iV))=decide (w^^^x∈g2) by rw[qCh];exact qIm _ _];refine⟨by rw[hA1,hA1,hAk];exact qAf (by omega),nxt (qAu hx) ⟨rfl,?_⟩⟩;rw[qAl hx',hA3,hA3];rfl
 ·rintro ys H' ⟨rfl,rfl⟩ l hl;rw[hA1,hA5 (hAa _)];refine⟨l,g1.map (λg=>decide (w^^^g∈g2)),rfl,SqL.of upd_same,?_⟩;rw[show(g1.map λg=>decide (w^^^g∈g2)).any id=g1.any λg=>decide (w^^^g∈g2) by rw[List.any_map];rfl];exact q _ (Ext.new hl _)
noncomputable abbrev meN:List Str:=["one","other","whole","kept"]
theorem qOj:FnScope meN ["one","other","whole"] (qAc qH1):=fsk
theorem qSz(F:Fun K "melded" "melded" qH1 f fd)(mso:mg "sorted"=none):v8 1 f fd ["one","other","whole"] qOc:=by
 refine F.okA qOj λcdv A outer s H vs Q E hr h=>?_
 obtain⟨a,b,g1,g2,w,rfl,ha,hb,l1,l2,q⟩:=h;refine⟨_,(qAa (qD0 (i:=3) (N:=meN) (sc:=qAc qH1) (N':=["group","whole","other"]) (sub:=[none,some 2,some 1]) (qAp (pv 0)) (λC s H fp=>⟨qBb (qAn (show OpR _ (compareOp .NotIn) (rIn K true) from qCs) (qAg qDn (pv 1) (pv 0)) (pv 2) (by with_unfolding_all rfl)),pv 0⟩) qOj.nd rfl (Or.inl rfl)) (qAd (qAt (qGh rfl mso (pa1 (qAg qB9 (pv 3) (qA7 (N:=meN) (sc:=qAc qH1) (N':=["group","whole","one"]) (sub:=[none,some 2,some 0]) (qAp (pv 1)) (λC s H fp=>⟨qBb (qAn (show OpR _ (compareOp .NotIn) (rIn K true) from qCs) (qAg qDn (pv 1) (pv 0)) (pv 2) (by with_unfolding_all rfl)),pv 0⟩)))))))),?_⟩;have key:∀(z:Nat) (g:List Nat),(if true=true then !inV (V.int (Builtin.bitXor (w:Int) (z:Int))) (g.map iV) else inV (V.int (Builtin.bitXor (w:Int) (z:Int))) (g.map iV))=!decide (w^^^z∈g):=λz g=>by
  rw[qCh];exact congrArg (! ·) (qIm _ _)
 refine⟨_,rfl,a,rfl,⟨_,SqL.of ha⟩,?_⟩;refine qBd (λz=>!decide (w^^^z∈g2)) (λz=>z) ha (by omega) (λz hz C B cc bb=>⟨sls,?_⟩) ?_
 ·refine⟨_,rfl,_,rfl,_,_,rfl,rfl,_,rfl,b,_,rfl,.inl (SqL.of hb),rfl,qDp _,_,rfl,?_⟩;rw[key z g2];exact qBy (λc=>⟨_,rfl,cc c⟩) (λc=>bb (hDb _▸c))
 intro k hk;rw[hDr];have X1:=Ext.new hk (.lst ((keF w g1 g2).map iV));refine⟨_,rfl,_,rfl,b,rfl,⟨_,SqL.of (X1 _ _ hb)⟩,?_⟩;refine qBd (λz=>!decide (w^^^z∈g1)) (λz=>z) (X1 _ _ hb) (by omega) (λz hz C B cc bb=>⟨sls,?_⟩) ?_
 ·refine⟨_,rfl,_,rfl,_,_,rfl,rfl,_,rfl,a,_,rfl,.inl (SqL.of (X1 _ _ ha)),rfl,qDp _,_,rfl,?_⟩;rw[key z g1];exact qBy (λc=>⟨_,rfl,cc c⟩) (λc=>bb (hDb _▸c))
 intro k2 hk2;rw[hDr];have Y2:=Ext.new hk2 (.lst ((keF w g2 g1).map iV));have X2:=X1.trans Y2;have s1:(keF w g1 g2).length<=12:=hAw (hAs _ _) l1;have s2:(keF w g2 g1).length<=12:=hAw (hAs _ _) l2;refine⟨k,k2,_,_,rfl,rfl,Y2 _ _ upd_same,upd_same,?_,λr0 hr0=>?_⟩
 ·show((keF w g1 g2).map iV).length+((keF w g2 g1).map iV).length<=_;rw[hA1,hA1];exact hB5 (qAf (by omega))
 have X3:=X2.trans (Ext.new hr0 (.lst ((keF w g1 g2).map iV++(keF w g2 g1).map iV)));refine⟨r0,(keF w g1 g2++keF w g2 g1).map (λn:Nat=>(n:Int)),rfl,?_,by rw[hA1,hAc];omega,λr ns hr' pm od=>?_⟩
 ·rw[<-qCg,hA3];exact SqL.of upd_same
 ·refine q r _ (X3.trans (Ext.new hr' _)) (X3.none hr') ?_;unfold LsN meF;rw[upd_same,qOw pm od]
noncomputable abbrev joN:List Str:=["found","whole","told","kind","groups","mates","mate"]
theorem qDc:FnScope joN ["found","whole"] (qAc qH2):=fsk
theorem qS0(F:Fun K "joined" "joined" qH2 f fd)(G1:v9 1 f1 fd1 ["one","other","whole"] qRq "are_mates")
  (G2:v9 1 f2 fd2 ["one","other","whole"] qOc "melded"):v8 2 f fd ["found","whole"] qOe:=by
 refine F.okA qDc λcdv A outer s H vs Q E hr h=>?_
 obtain⟨fo,ps,w,n,rfl,⟨fs,hfo,pf⟩,ji,wn,n12,lps,q⟩:=h;have lfs:=pf.length;refine⟨_,(qAa (v4 2 qDc (qA2 qAz)) (qAa (qBf PassesOwn.never rfl (qAp (pv 0)) (qB0 rfl (qAs (v7 3 qDc) (qAs (v7 4 qDc) qBc))) (qAa (v6 5 qDc (qA7 (N:=joN) (sc:=qAc qH2) (N':=["part","kind","groups","whole"]) (sub:=[none,some 3,some 4,some 1]) (qAp (pv 2)) (λC s H fp=>⟨qBb (qDz (qAv G1 hr rfl .nil pass0 (qAe (pv 0) (qAe (qA6 (qAe (pv 1) (pa1 (pv 2)))) (pa1 (pv 3)))))),pv 0⟩))) (qAa (qD0 (i:=2) (N:=joN) (sc:=qAc qH2) (N':=["part","mates"]) (sub:=[none,some 5]) (qAp (pv 2)) (λC s H fp=>⟨qBb (qAn (show OpR _ (compareOp .NotIn) (qSk K) from qSu (zCj hr)) (pv 0) (pv 1) (by with_unfolding_all rfl)),pv 0⟩) qDc.nd rfl (Or.inl rfl)) (qAa (qBf PassesOwn.never rfl (qAp (pv 5)) (v5 6 qDc) (qAd (v6 4 qDc (qAv G2 hr rfl .nil pass0 (qAe (qBh qBq (pv 6) qAb (λ_ _=>rfl)) (qAe (pv 4) (pa1 (pv 1)))))))) (qAd (qCd (qDu hAx hBn hBo qBw (pv 2) (pa1 (qA6 (qAe (pv 3) (pa1 (pv 4)))))))))))) (qAd (qAt (pv 2))))),?_⟩;refine⟨hAp _,λt0 ht0=>?_⟩;have X0:=Ext.new ht0 (.lst []);refine⟨_,rfl,fo,rfl,⟨_,SqL.of (X0 _ _ hfo)⟩,qBm (K:=K) (a:=fo) (xs:=fs.map V.ref) (λi σ H'=>∃(tl:Addr) (x3 x4 x5 x6:Option V),σ=[some (.ref fo),some (iV w),some (.ref tl),x3,x4,x5,x6]/\Ext H H'/\PtL H' tl (joF w (ps.take i)))
  ⟨t0,none,none,none,none,rfl,X0,[],upd_same,.nil⟩ (λi σ H' _ h=>by obtain⟨_,_,_,_,_,_,e,_⟩:=h;exact SqL.of (e _ _ hfo)) ?_ ?_⟩
 ·rintro i v σ H1 hv ⟨tl,x3,x4,x5,x6,rfl,e1,ts,htl,pt⟩;obtain⟨a,rfl,ha⟩:=qA5 hv;obtain⟨e,he,hae⟩:=qAr pf ha;have hi:=qAu he;obtain⟨g,ha',hg'⟩:=hae;have J:=ji.all i;rw[hCp hi,show ps[i]=e by have:=hA2 hi;rw[he]at this;exact(hAq this).symm]at J;have lt:(joF w (ps.take i)).length<=2000:=by
   have:=qNo w [] (ps.take i);rw[hAk]at this;show((ps.take i).foldl (joS w) []).length<=2000;simp only[List.length_nil]at this;omega
  have sn:joF w (ps.take (i+1))=joS w (joF w (ps.take i)) e:=by rw[qAl he,qHm]
  revert pt J lt sn;generalize joF w (ps.take i)=told;intro pt J lt sn;have lts:=pt.length;have shT:∀t∈told,Sh w t.2:=λt ht=>J.sh t (hAe _ ht)
  have kdT:∀t∈told,t.1 = "ring"\/t.1 = "bundle"\/t.1 = "whole":=λt ht=>J.kd t (hAe _ ht)
  have l12:∀ {gs:List Nat},Sh w gs->gs.length<=12:=λ{gs} h=>hAw (h.pt.len wn) n12
  have ha1:=e1 _ _ ha';have hg1:LsN H1 g e.2:=e1 _ _ hg';refine⟨a,_,rfl,SqT.of ha1,rfl,_,_,rfl,_,_,rfl,rfl,?_⟩;refine⟨_,rfl,tl,rfl,⟨_,SqL.of htl⟩,?_⟩;refine qAq (xs:=ts.map V.ref) (λj ys H2=>Ext H1 H2/\∃ms:List Addr,ys=ms.map V.ref/\Paired (PtE H2) ms ((told.take j).filter λt=>mtB w t e)) ⟨Ext.refl _,[],rfl,.nil⟩ (λj ys H2 _ h=>SqL.of (h.1 _ _ htl)) ?_ ?_
  ·rintro j v ys H2 hx ⟨e2,ms,rfl,pm⟩;obtain⟨b,rfl,hb⟩:=qA5 hx;obtain⟨t,ht,hbt⟩:=qAr pt hb;have hj:=qAu ht;have lm:=pm.length;have sz:=hAs (λt=>mtB w t e) (told.take j);rw[hAk]at sz;refine⟨sls,_,rfl,_,rfl,_,rfl,(by show 2<=sizeLine;decide),λT hT=>?_⟩;have XT:=Ext.new hT (.tup [V.str e.1,.ref g]);refine⟨_,rfl,b,T,t,e,w,rfl,(PtE.ext hbt e2).ext XT,⟨g,upd_same,XT _ _ (e2 _ _ hg1)⟩,l12 (shT t (hAh ht)),λH3 e3=>⟨mtB w t e,rfl,?_⟩⟩;have E3:=XT.trans e3;have tk:(told.take (j+1)).filter (λt=>mtB w t e)=(told.take j).filter (λt=>mtB w t e)++(if mtB w t e=true then [t] else []):=by
    rw[qAl ht,hCe,zDm]
   refine qBy (λc=>?_) (λc=>?_)
   ·refine⟨_,rfl,by rw[hA1];exact qHv (by omega),nxt (qAu hx) ⟨e2.trans E3,ms++[b],by rw[hA3];rfl,?_⟩⟩;rw[tk,hEn c];exact Paired.snoc (Paired.mapP pm λ_ _ z=>z.ext E3) ((PtE.ext hbt e2).ext E3)
   ·refine nxt (qAu hx) ⟨e2.trans E3,ms,rfl,?_⟩;rw[tk,hEm c,hC8];exact Paired.mapP pm λ_ _ z=>z.ext E3
  rintro ys H2 ⟨e2,ms,rfl,pm⟩ mt hmt;rw[hA1,hA5 (by omega)]at pm;have XM:=Ext.new hmt (.lst (ms.map V.ref));have hmt3:upd H2 mt (.lst (ms.map V.ref)) mt=some (.lst (ms.map V.ref)):=upd_same;have E3:=e2.trans XM;have pm3:Paired (PtE (upd H2 mt (.lst (ms.map V.ref)))) ms (mtsF w told e):=Paired.mapP pm λ_ _ z=>z.ext XM
  revert XM hmt3 E3 pm3;generalize upd H2 mt (.lst (ms.map V.ref))=H3;intro XM hmt3 E3 pm3;clear pm XM e2;have kdM:∀t∈mtsF w told e,t.1 = "ring"\/t.1 = "bundle"\/t.1 = "whole":=λt ht=>kdT t (hAj.mp ht).1
  have pt3:=Paired.mapP pt λ_ _ z=>PtE.ext z E3
  refine⟨_,rfl,tl,rfl,⟨_,SqL.of (E3 _ _ htl)⟩,?_⟩;refine qAq (xs:=ts.map V.ref) (λj ys H4=>H4=H3/\∃rs:List Addr,ys=rs.map V.ref/\Paired (PtE H3) rs ((told.take j).filter λt=>!decide (t∈mtsF w told e))) ⟨rfl,[],rfl,.nil⟩ (λj ys H4 _ h=>by rw[h.1];exact SqL.of (E3 _ _ htl)) ?_ ?_
  ·rintro j v ys H4 hx ⟨rfl,rs,rfl,pr⟩;obtain⟨b,rfl,hb⟩:=qA5 hx;obtain⟨t,ht,hbt⟩:=qAr pt3 hb;have hj:=qAu ht;have lm:=pr.length;have sz:=hAs (λt=>!decide (t∈mtsF w told e)) (told.take j);rw[hAk]at sz;refine⟨sls,_,rfl,_,rfl,(mtsF w told e).map qDm,qDm t,.lst (SqL.of hmt3) (qL6 pm3),qTx hbt,qK4 kdM,qMy (kdT t (hAh ht)),_,rfl,?_⟩;have ea:((mtsF w told e).map qDm).any (λz=>PyData.eqv z (qDm t))=decide (t∈mtsF w told e):=by
    rw[List.any_map,hE6,List.any_eq_true,hEp];constructor
    ·rintro⟨u,hu,z⟩;have z':PyData.eqv (qDm u) (qDm t)=true:=z;rw[qPy]at z';rw[<-hEl z'];exact hu
    ·intro z;exact⟨t,z,by show PyData.eqv (qDm t) (qDm t)=true;rw[qPy];exact hEi rfl⟩
   rw[ea];have tk:(told.take (j+1)).filter (λt=>!decide (t∈mtsF w told e))=(told.take j).filter (λt=>!decide (t∈mtsF w told e))++(if (!decide (t∈mtsF w told e))=true then [t] else []):=by
    rw[qAl ht,hCe,zDm]
   refine qBy (λc=>?_) (λc=>?_)
   ·refine⟨_,rfl,by rw[hA1];exact qHv (by omega),nxt (qAu hx) ⟨rfl,rs++[b],by rw[hA3];rfl,?_⟩⟩;rw[tk,hEn c];exact Paired.snoc pr hbt
   ·refine nxt (qAu hx) ⟨rfl,rs,rfl,?_⟩;rw[tk,hEm c,hC8];exact pr
  rintro ys H4 ⟨rfl,rs,rfl,pr⟩ t2 ht2;rw[hA1,hA5 (by omega)]at pr;have prn:Paired (λa (u:PE1)=>∃g,g≠t2/\H4 a=some (.tup [.str u.1,.ref g])/\LsN H4 g u.2) rs (rsF w told e):=Paired.mapP pr λa u ⟨g,z1,z2⟩=>⟨g,qAo z2 ht2,z1,z2⟩
  have X5:=Ext.new ht2 (.lst (rs.map V.ref));have gt2:g≠t2:=qAo (E3 _ _ hg1) ht2;have E5:=E3.trans X5;have h25:upd H4 t2 (.lst (rs.map V.ref)) t2=some (.lst (rs.map V.ref)):=upd_same;have pr5:Paired (λa (u:PE1)=>∃g,g≠t2/\upd H4 t2 (.lst (rs.map V.ref)) a=some (HO.tup [.str u.1,.ref g])/\LsN (upd H4 t2 (.lst (rs.map V.ref))) g u.2) rs (rsF w told e):=Paired.mapP prn λa u ⟨g,z0,z1,z2⟩=>⟨g,z0,X5 _ _ z1,X5 _ _ z2⟩
  have pm5:=Paired.mapP pm3 λ_ _ z=>PtE.ext z X5
  have hmt5:=X5 _ _ hmt3;have nH:H t2=none:=(e1.trans E3).none ht2;revert E5 h25 pr5 pm5 hmt5;generalize upd H4 t2 (.lst (rs.map V.ref))=H5;intro E5 h25 pr5 pm5 hmt5;clear X5 pr prn pm3 hmt3 pt3 E3;have lmm:=pm5.length;refine⟨_,rfl,mt,rfl,⟨_,SqL.of hmt5⟩,qBm (K:=K) (a:=mt) (xs:=ms.map V.ref) (λj σ H6=>∃(gm:Addr) (x6:Option V),σ=[some (.ref fo),some (iV w),some (.ref t2),some (.str e.1),some (.ref gm),some (.ref mt),x6]/\Ext H5 H6/\gm≠t2/\LsN H6 gm (foF w ((mtsF w told e).take j) e.2)/\MI w ((mtsF w told e).drop j) (foF w ((mtsF w told e).take j) e.2) ((rsF w told e++ps.drop (i+1)).map (λu:PE1=>u.2)))
   ⟨g,x6,rfl,Ext.refl _,gt2,E5 _ _ hg1,J.mi⟩ (λj σ H6 _ h=>by obtain⟨_,_,_,e,_⟩:=h;exact SqL.of (e _ _ hmt5)) ?_ ?_⟩
  ·rintro j v σ H6 hx ⟨gm,y6,rfl,e6,gn,hgm,M⟩;obtain⟨b,rfl,hb⟩:=qA5 hx;obtain⟨t,ht,hbt⟩:=qAr pm5 hb;have hj:=qAu ht;obtain⟨gb,hb1,hb2⟩:=PtE.ext hbt e6;rw[hCp hj,show(mtsF w told e)[j]=t by have:=hA2 hj;rw[ht]at this;exact(hAq this).symm]at M;refine⟨_,rfl,b,_,_,_,rfl,rfl,SqT.of hb1,qAy (j:=1) rfl,_,rfl,_,rfl,gb,gm,t.2,_,w,rfl,hb2,hgm,l12 (M.sm t hA6),l12 M.sh,λr H7 e7 r0 hr7=>?_⟩;refine⟨r,_,rfl,e6.trans e7,Ne.symm (qAo (e6 _ _ h25) r0),?_,?_⟩
   ·rw[qAl ht];unfold foF;rw[hBm];exact hr7
   ·rw[qAl ht];unfold foF;rw[hBm];exact M.step
  ·rintro σ H6 ⟨gm,y6,rfl,e6,gn,hgm,M⟩;rw[hA1,hA5 (by omega)]at hgm;have h26:=e6 _ _ h25;have lr:=pr5.length;have sz:=hAs (λt=>!decide (t∈mtsF w told e)) told;have lr':(rsF w told e).length<=told.length:=sz;refine⟨_,rfl,.inl ⟨rfl,_,SqL.of h26⟩,_,rfl,_,rfl,(by show 2<=sizeLine;decide),λT hT=>?_⟩;have XT:=Ext.new hT (.tup [V.str e.1,.ref gm]);have Tt:T≠t2:=Ne.symm (qAo h26 hT);refine⟨t2,_,_,rfl,rfl,XT _ _ h26,by rw[hA1];exact qHv (by omega),?_⟩;refine⟨t2,_,_,_,_,rfl,((e1.trans E5).trans (e6.trans XT)).over nH _,rs++[T],by rw[upd_same,hA3];rfl,?_⟩;rw[sn];refine Paired.snoc (Paired.mapP pr5 λa u ⟨g,z0,z1,z2⟩=>⟨g,?_,?_⟩) ⟨gm,?_,?_⟩
   ·have z:=(e6.trans XT) _ _ z1;rw[qAk (λq=>by rw[q,XT _ _ h26]at z;cases z)];exact z
   ·unfold LsN;rw[qAk z0];exact(e6.trans XT) _ _ z2
   ·rw[qAk Tt];exact upd_same
   ·unfold LsN;rw[qAk gn];exact XT _ _ hgm
 ·rintro σ H1 ⟨tl,x3,x4,x5,x6,rfl,e1,pt⟩;rw[hA1,hA5 (by omega)]at pt;exact⟨_,rfl,q tl _ e1 pt⟩
end
end My
namespace L2
open PySem PySem.Spec PyProof.Rows PySem.W
noncomputable def qUu(R:Nat->Nat->Bool):KasT α->α
 |.ret a=>a
 |.ask i j k=>qUu R (k (R i j))
theorem qNn{α:Type}{R:Nat->Nat->Bool}{n:Nat}{s:Shared}{cmp:Nat->Nat->(Bool->Shared->Prop)->Shared->Prop}{Q Q':α->Shared->Prop}(hc:∀i j C,i<n->j<n->C (R i j) s->cmp i j C s):∀(t:KasT α),t.kasWp (λi j C s'=>i<n/\j<n/\C (R i j) s') Q s->(∀a,a=qUu R t->Q a s->Q' a s)->t.kasWp cmp Q' s
 |.ret a,h,q=>q a rfl h
 |.ask i j k,h,q=>hc i j _ h.1 h.2.1 (qNn hc (k (R i j)) h.2.2 q)
noncomputable def qHu(n:Nat)(R:Nat->Nat->Bool):List Nat:=if n<2 then List.range n else (qUu R (kas_sort n)).toList
theorem qU5{R:Nat->Nat->Bool}{n:Nat}{s:Shared}{cmp:Nat->Nat->(Bool->Shared->Prop)->Shared->Prop}(h2:2<=n)(hc:∀i j C,i<n->j<n->C (R i j) s->cmp i j C s):(kas_sort n).kasWp cmp (λp s'=>s'=s/\p.toList=qHu n R/\Gd n p) s:=by
 refine qNn (Q:=λp _=>Gd n p) hc (kas_sort n) (zA5 (λi j C hi hj h=>⟨hi,hj,h _⟩) (by omega) λp g=>g) λa ea g=>⟨rfl,?_,g⟩
 rw[ea];exact(hEm (by omega)).symm
noncomputable def qFv:List (List Str)->List (List Str)->Bool
 |[],[]=>false
 |[],_ :: _=>true
 |_ :: _,[]=>false
 |a :: x,b :: y=>if a=b then qFv x y else ltL a b
section
variable{P:Program}{w:World}{A:Around}{E:Value->Shared->Prop}{s:Shared}
open SeqAt in
theorem zBh(hu:A.units<cLine)(ha:s.heap.IsList a i1)(hb:s.heap.IsList b i2)(hx:StrsAre i1.toList x)(hy:StrsAre i2.toList y):EqAt A s (.ref a) (.ref b) (decide (x=y)):=by
 by_cases e:a=b
 ·subst e;obtain⟨o1,e1,c1,n1,d1⟩:=ha;obtain⟨o2,e2,c2,n2,d2⟩:=hb;rw[e1]at e2;cases e2;rw[d1]at d2;injection d2 with d2 _
  subst d2;have:x=y:=by rw[<-hx.strs,<-hy.strs]
  rw[hEi this];exact EqAt.same _
 ·have l1:i1.size=x.length:=by rw[<-hx.strs];simp
  have l2:i2.size=y.length:=by rw[<-hy.strs];simp
  by_cases hs:i1.size=i2.size
  ·have q:=RcAt.lists (e:=λj=>x.getD j "" == y.getD j "") ha hb hs hu λj h1 h2=>by
    obtain⟨t1,q1⟩:=qJu hx (i:=j) (by simpa using h1);obtain⟨t2,q2⟩:=qJu hy (i:=j) (by simpa using h2);rw[hBh,hD2 h1]at q1;rw[hBh,hD2 h2]at q2;rw[hAq q1,hAq q2];exact EqAt.str_str _ _ _ _
   have eb:(List.range i1.size).all (λj=>x.getD j "" == y.getD j "")=decide (x=y):=by
    rw[hE6];simp only[hDa,hAy,beq_iff_eq,decide_eq_true_eq];constructor
    ·intro h;refine List.ext_getElem (by omega) λj h1 h2=>?_
     have:=h j (by omega);rw[hA7,hA7,hA2 h1,hA2 h2]at this;exact this
    ·intro h j _;rw[h]
   rw[eb]at q;exact EqAt.of_refs e q
  ·have ne:x≠y:=λz=>hs (by rw[l1,l2,z])
   rw[hEj ne];exact EqAt.of_refs e (RcAt.lists_lengths ha hb (by simpa using hs) hu)
theorem qKl:∀ {vs:List Value} {ts:List (List Str)} {h:Heap},Paired (qUt h) vs ts->∀ {i:Nat},i<vs.length->∃(b:Addr) (its:Array Value),vs[i]?=some (.ref b)/\h.IsList b its/\StrsAre its.toList (ts.getD i [])
 |_,_,_,.nil,i,hi=>absurd hi (hC5 _)
 |_,_,_,.cons ⟨a,its,e,l,st⟩ r,0,_=>⟨a,its,by rw[e];rfl,l,st⟩
 |_,_,_,.cons _ r,i+1,hi=>qKl r (i:=i) (by simpa using hi)
theorem qP1{x:List (List Str)}{i:Nat}(h:i<x.length):x.drop i=x.getD i [] :: x.drop (i+1):=by
 rw[hCp h,hA7,hA2 h];rfl
open AutoSeq1 (wpAny_loadPart')
open MeetsSeq MeetsSeq2 MeetsSeq3 SeqRoads2
theorem qTa(l b:Addr)(items items2:Array Value)(n n2:Nat)(dd dd2:Option Addr)(sl sl2:Array (Option Value))(x y:List (List Str)):∀(k i:Nat),items.size-i=k->i<=items.size->i<=items2.size ->
  Meets (Builtin.«list.__eq__.loop» ⟨[.ref l,.ref b,rawInt i,rawInt 0],[]⟩)
   (λA R s=>(A.in1.units<cLine/\Paired (qUt s.heap) items.toList x/\Paired (qUt s.heap) items2.toList y/\s.heap.get? l=some { cls:=.type "list",dict:=dd,data:=.seq items n,slots:=sl }/\s.heap.get? b=some { cls:=.type "list",dict:=dd2,data:=.seq items2 n2,slots:=sl2 })/\R (.ok (.ret (.bool (qFv (x.drop i) (y.drop i))))) s):=by
 intro k
 induction k with
 |zero =>
  intro i hk h1 h2 prog w A R s h;obtain⟨hp,g,d,tk,os⟩:=s;obtain⟨⟨hu,hx,hy,hl,hb⟩,h⟩:=h;have lx:items.size=x.length:=by have:=hx.length;simpa using this
  have ly:items2.size=y.length:=by have:=hy.length;simpa using this
  have e1:i=items.size:=by omega
  have q1:items[((i:Nat):Int).toNat]?=none:=by simp;omega
  wp_walk using hEo hl,hEo hb
  rw[q1]
  wp_walk using hEo hl,hEo hb
  have dx:x.drop i=[]:=by simp;omega
  rw[dx]at h;show R (.ok (.ret (.bool (decide (items.size<items2.size))))) _;cases hd:y.drop i with
  |nil =>
   rw[hd]at h;have:y.length<=i:=by simpa using hd
   rw[hEj (by omega)];exact h
  |cons a r =>
   rw[hd]at h;have:i<y.length:=by
    have:=congrArg List.length hd;rw[List.length_drop,hCb]at this;omega
   rw[hEi (by omega)];exact h
 |succ k ih =>
  intro i hk h1 h2 prog w A R s h;obtain⟨hp,g,d,tk,os⟩:=s;obtain⟨⟨hu,hx,hy,hl,hb⟩,h⟩:=h;have lx:items.size=x.length:=by have:=hx.length;simpa using this
  have ly:items2.size=y.length:=by have:=hy.length;simpa using this
  have hlt:i<items.size:=by omega
  obtain⟨a1,its1,q1,il1,st1⟩:=qKl hx (i:=i) (by simpa using hlt);rw[hBh]at q1;have q1':items[((i:Nat):Int).toNat]?=some (.ref a1):=q1;have dx:=qP1 (x:=x) (i:=i) (by omega)
  wp_walk using hEo hl,hEo hb
  rw[q1'];by_cases hlt2:i<items2.size
  ·obtain⟨a2,its2,q2,il2,st2⟩:=qKl hy (i:=i) (by simpa using hlt2);rw[hBh]at q2;have q2':items2[((i:Nat):Int).toNat]?=some (.ref a2):=q2;have dy:=qP1 (x:=y) (i:=i) (by omega);have hc:((i:Int)+1)=((i+1:Nat):Int):=by push_cast;rfl
   rw[dx,dy]at h;unfold qFv at h;rw[q2'];refine hEh (zBh hu il1 il2 st1 st2 _ _ _ _ ?_);by_cases e:x.getD i []=y.getD i []
   ·rw[hEn e]at h;rw[hEi e]
    wp_walk
    rw[hc];exact⟨hF0 plain_eq_loop _,hEv entry_eq_loop (by
     rw[Around.under_plainId plain_eq_loop _];exact ih (i+1) (by omega) (by omega) (by omega) prog w A R _ ⟨⟨hu,hx,hy,hl,hb⟩,h⟩)⟩
   ·rw[hEm e]at h;rw[hEj e]
    wp_walk using hEo hl,hEo hb
    rw[q1',q2'];obtain⟨⟨cls,dd3,data,sl3⟩,ho,hc3,n3,hd3⟩:=il1;obtain⟨⟨cls4,dd4,data4,sl4⟩,ho4,hc4,n4,hd4⟩:=il2;simp only at hc3 hd3 hc4 hd4;subst hc3 hd3 hc4 hd4;refine hEh (richCompare_meets_room (op:=.Lt) ⟨_,ho,rfl⟩ ⟨_,ho4,rfl⟩ F.slot_list_lt F.entry_list_lt (F.args_list_lt_2 _ _) (qPh a1 a2 its1 its2 n3 n4 dd3 dd4 sl3 sl4 _ _ st1 st2) ⟨⟨ho,ho4⟩,?_⟩ hu);exact⟨(λz=>nomatch z),hEk h⟩
  ·have q2':items2[((i:Nat):Int).toNat]?=none:=by simp;omega
   rw[q2']
   wp_walk using hEo hl,hEo hb
   have dy:y.drop i=[]:=by simp;omega
   rw[dx,dy]at h;show R (.ok (.ret (.bool (decide (items.size<items2.size))))) _;rw[hEj (by omega)];exact h
theorem qTe(l b:Addr)(items items2:Array Value)(n n2:Nat)(dd dd2:Option Addr)(sl sl2:Array (Option Value))(x y:List (List Str)) :
  Meets (Builtin.«list.__lt__» ⟨[.ref l,.ref b],[]⟩)
   (λA R s=>(A.in1.units<cLine/\Paired (qUt s.heap) items.toList x/\Paired (qUt s.heap) items2.toList y/\s.heap.get? l=some { cls:=.type "list",dict:=dd,data:=.seq items n,slots:=sl }/\s.heap.get? b=some { cls:=.type "list",dict:=dd2,data:=.seq items2 n2,slots:=sl2 })/\R (.ok (.ret (.bool (qFv x y)))) s):=by
 intro prog w A R s h;obtain⟨hp,g,d,tk,os⟩:=s;obtain⟨⟨hu,hx,hy,hl,hb⟩,h⟩:=h;have f3:=AutoSeq1.sub_list_list
 wp_walk using hEo hl,hEo hb
 exact⟨hF0 plain_eq_loop _,hEv entry_eq_loop (by
  rw[Around.under_plainId plain_eq_loop _];exact qTa l b items items2 n n2 dd dd2 sl sl2 x y _ 0 rfl (hAp _) (hAp _) prog w A R _ ⟨⟨hu,hx,hy,hl,hb⟩,h⟩)⟩
def qUz(h:Heap)(v:Value)(t:List (List Str)):Prop:=∃a its,v = .ref a/\h.IsList a its/\Paired (qUt h) its.toList t
theorem qPm(hu:A.units+8<cLine){u v:Value}(h1:qUz s.heap u x)(h2:qUz s.heap v y)(h:Q (qFv x y) s):wpAny (model P w) A (keyLt' oneType' u v) Q E s:=by
 obtain⟨l,items,rfl,hl,hx⟩:=h1;obtain⟨b,items2,rfl,hb,hy⟩:=h2;obtain⟨⟨cls,dd,data,sl⟩,ho,hc,n,hd⟩:=hl;obtain⟨⟨cls2,dd2,data2,sl2⟩,ho2,hc2,n2,hd2⟩:=hb;simp only at hc hd hc2 hd2;subst hc hd hc2 hd2;rw[keyLt'_oneType,oneLt'_eq];simp only[if_true];refine hEh (wpAny_cRoomFor (by omega) ?_);refine hEh (wpAny_callSpecialIfBound?_slot (⟨_,ho,rfl⟩:s.TypeIs (.ref l) "list") F.slot_list_lt (hFc F.slot_list_lt ⟨_,ho,rfl⟩ F.entry_list_lt (F.args_list_lt_2 _ _) (qTe l b items items2 n n2 dd dd2 sl sl2 x y) ⟨⟨?_,hx,hy,ho,ho2⟩,?_⟩))
 ·exact hDo (show A.units+_<=A.units+8 from Nat.add_le_add_left (by decide) _) hu
 exact hEw h
end
abbrev Pk:=Addr×Addr×List (List Str)
noncomputable def ltP(ps:List Pk)(i j:Nat):Bool:=qFv ((ps.map λp=>p.2.2).getD i []) ((ps.map λp=>p.2.2).getD j [])
noncomputable def qQ1(ps:List Pk):List Addr:=(qHu ps.length (ltP ps)).map λi=>(ps.map λp=>p.1).getD i 0
def zBx(K:PySem.W.Frag)(H:Hp)(p:Pk):Prop:=∃k:Str,H p.1=some (.tup [.str k,.ref p.2.1])/\∃as:List Addr,H p.2.1=some (.lst (as.map V.ref))/\Paired (λa r=>H a=some (.lst (r.map V.str))) as p.2.2
theorem zFc{K:PySem.W.Frag}{H H':Hp}{P:Addr}{qs:Array Value}(hP:H P=some (.tbl qs))(e:ExtB P H H'){p:Pk}(h:zBx K H p):zBx K H' p:=by
 obtain⟨k,h1,as,h2,h3⟩:=h;exact⟨k,e _ _ (λz=>by rw[z,hP]at h1;cases h1) h1,as,e _ _ (λz=>by rw[z,hP]at h2;cases h2) h2,Paired.mapP h3 λa r z=>e _ _ (λq=>by rw[q,hP]at z;cases z) z⟩
theorem qPp:∀ {as:List Addr} {i:Nat},i<as.length->(as.map Value.ref).getD i Value.none = .ref (as.getD i 0)
 |a :: as,0,_=>rfl
 |a :: as,i+1,h=>qPp (as:=as) (i:=i) (by simpa using h)
section
variable{X:Cx}
theorem zA1{aB:List (Addr×Obj)}{σ:St}{H:Hp}{s:Shared}(I:Inv X aB σ H s){p:Pk}(h:zBx X.K H p):qUz s.heap (.ref p.2.1) p.2.2:=by
 obtain⟨k,h1,as,h2,h3⟩:=h;obtain⟨its,rv,⟨o,n,e,c,_,dt⟩,_⟩:=I.list (.inl (.inl h2));have ei:=qE1 rv;subst ei;exact⟨_,_,rfl,⟨o,e,c,n,dt⟩,qHk I (λ_ _ z=>z) (Paired.mapP h3 λa r z=>.inl (.inl z))⟩
theorem qZa{ps:List Pk}
  (I:Inv X ((kS,seqObj "list" (ps.map λp=>Value.ref p.2.1).toArray en) :: (a,seqObj "list" #[] e1) :: aB) σ H s) (hk:kS≠a) (Hk:H kS=none) (Ha:H a=none) (wa:Aw X aB a) (wk:Aw X aB kS) (hu:A.units+8<cLine)
  (keys:∀p∈ps,qUz s.heap (.ref p.2.1) p.2.2) (h64:ps.length<64)
  (h:∀(s':Shared),(qHu ps.length (ltP ps)).Perm (List.range ps.length)->Inv X aB σ (upd H a (.lst ((qQ1 ps).map V.ref))) s'->P (.done (.ret .none)) s') :
  wpAny (model X.prog X.w) A (ksk_end a false (ps.map λp=>Value.ref p.1).toArray e1 (.ref kS) (ps.map λp=>Value.ref p.2.1).toArray) P E' s:=by
 have ok:s.heap.get? kS=some (seqObj "list" (ps.map λp=>Value.ref p.2.1).toArray en):=(I.pin (kS,_) (hA8 _ (.head _))).1;have vm:(ps.map λp=>Value.ref p.1)=(ps.map λp=>p.1).map Value.ref:=by rw[hB6];rfl
 have fin:∀(st:SortSt),(arrOf st).map (·.2)=(List.toArray ((qQ1 ps).map Value.ref))->(qHu ps.length (ltP ps)).Perm (List.range ps.length)->failedOf st=none->wpAny (model X.prog X.w) A (ksk_tail a false e1 (.ref kS) st) P E' s:=by
  intro st ea pm hf;have lo:(qQ1 ps).length=ps.length:=by unfold qQ1;rw[hA1,pm.length_eq,hB0]
  have sz:(arrOf st).size=ps.length:=by
   have h1:((arrOf st).map (·.2)).size=(List.toArray ((qQ1 ps).map Value.ref)).size:=congrArg Array.size ea;rw[Array.size_map]at h1;rw[h1,hAf,hA1,lo]
  obtain⟨n1,I1,_⟩:=Inv.repinL (λ_=>(#[]:Array Value)) I.unpin (wk.cons (Ne.symm hk)) Hk ok;have oa1:(s.heap.update kS (Obj.mapSeq λ_=>(#[]:Array Value))).get? a=some (seqObj "list" #[] e1):=(I1.pin (a,_) (hA8 _ (.head _))).1;obtain⟨n2,I2,oa2⟩:=Inv.repinL (s:={ s with heap:=s.heap.update kS (Obj.mapSeq λ_=>(#[]:Array Value)) }) (λ_=>(arrOf st).map (·.2)) I1.unpin wa Ha oa1;unfold ksk_tail;try dsimp only
  refine hEh (hEr ok rfl ?_ (by rw[hAf,hA1,hEq];omega) (hAp _));refine hEh (wpAny_letGo ?_);refine hEh (hF8 oa1 rfl ?_);refine hEh (hEr oa1 rfl ?_ (hAp _) (by simp only[hCc,hFh,Array.size_map];rw[sz,hEq];omega));rw[hf];simp only[hFd,hCc,hFh];refine hEk (h _ pm ?_);refine I2.adoptL (its:=(qQ1 ps).map Value.ref) (n:=n2) wa Ha (qD3 _) (by rw[hA1,lo,hEq];omega) ?_;rw[<-ea];exact oa2
 have mapD:∀(l:List Nat),l.Perm (List.range ps.length)->l.map (λi=>(ps.map λp=>Value.ref p.1).getD i Value.none)=(l.map λi=>(ps.map λp=>p.1).getD i 0).map Value.ref:=λl pl=>by
  rw[hB6];refine hBs λi hi=>?_
  have:i<ps.length:=hAy.mp (pl.mem_iff.mp hi);rw[vm];exact qPp (by rw[hA1];exact this)
 unfold ksk_end;try dsimp only
 simp only[hCc,hFh];by_cases h2:((ps.map λp=>Value.ref p.1).toArray).size<2
 ·rw[hEn h2,hEn h2];refine hEh (hEk ?_);rw[StateT.run_pure];refine hEh (hEk ?_);try dsimp only
  rw[hAf,hA1]at h2;have es:qHu ps.length (ltP ps)=List.range ps.length:=hEn h2;refine fin _ ?_ (by rw[es]) rfl;show((ps.map λp=>Value.ref p.2.1).toArray.zip (ps.map λp=>Value.ref p.1).toArray).map (·.2)=_;apply hEd.mp;rw[Array.toList_map,Array.toList_zip];show((ps.map λp=>Value.ref p.2.1).zip (ps.map λp=>Value.ref p.1)).map Prod.snd=(qQ1 ps).map Value.ref;rw[hEe (by rw[hA1,hA1];exact hAa _)];unfold qQ1;rw[es,<-mapD _ (hDe _)];have:=qCm (ps.map λp=>Value.ref p.1);rw[hA1]at this;exact this.symm
 ·rw[hEm h2,hEm h2];rw[hAf,hA1]at h2;have l2:2<=(ps.map λp=>Value.ref p.1).length:=by rw[hA1];omega
  have lk:(ps.map λp=>Value.ref p.2.1).length=(ps.map λp=>Value.ref p.1).length:=by rw[hA1,hA1]
  have lv:(ps.map λp=>Value.ref p.1).length=ps.length:=hA1 _;refine hEh (kas_kind (T:=.type "list") (by rw[lk];exact l2) (λv hv=>?_) (by decide) (by decide) ?_)
  ·obtain⟨p,hp,rfl⟩:=hAb.mp hv;obtain⟨b,its,e,⟨o,g,c,_⟩,_⟩:=keys p hp;cases e;exact kitAt_ty _ _ ⟨o,g,c⟩
  refine hEh (hEu (kat_run (ks:=ps.map λp=>Value.ref p.2.1) (vs:=ps.map λp=>Value.ref p.1) (Q:=λst' s'=>s'=s/\(arrOf st').map (·.2)=(List.toArray ((qQ1 ps).map Value.ref))/\(qHu ps.length (ltP ps)).Perm (List.range ps.length)/\failedOf st'=none) (G:=λp s'=>s'=s/\p.toList=qHu ps.length (ltP ps)/\Gd ps.length p) lk l2 (by rw[lv];exact h64) (λp st' s' a1 a2 a3 a4=>?_) ?_) ?_ λ_ _ e=>e)
  ·obtain⟨rfl,ep,g⟩:=a4;have pm:(qHu ps.length (ltP ps)).Perm (List.range ps.length):=by
    rw[<-ep];exact hBg.mp g
   refine⟨rfl,?_,pm,a3⟩;rw[kat_snds lk a2,ep,mapD _ pm];rfl
  ·rw[lv];refine qU5 (by omega) λi j C hi hj hC=>?_
   show wpAny _ _ (keyLt' _ ((ps.map λp=>Value.ref p.2.1).getD i Value.none) ((ps.map λp=>Value.ref p.2.1).getD j Value.none)) C _ _;have gt:∀ {i:Nat} (hi:i<ps.length),(ps.map λp=>Value.ref p.2.1).getD i Value.none = .ref ps[i].2.1/\(ps.map λp=>p.2.2).getD i []=ps[i].2.2:=λ{i} hi=>by
    constructor
    ·rw[hA7,hAi,hA2 hi];rfl
    ·rw[hA7,hAi,hA2 hi];rfl
   rw[(gt hi).1,(gt hj).1];unfold ltP at hC;rw[(gt hi).2,(gt hj).2]at hC;exact qPm hu (keys _ (hC4 hi)) (keys _ (hC4 hj)) hC
  ·rintro⟨⟨⟩,st'⟩ s' ⟨rfl,q1,q2,q3⟩;exact fin st' q1 q2 q3
theorem qJz{aB:List (Addr×Obj)}{σ:St}{H1:Hp}{s1:Shared}{l f:Addr}{ps:List Pk}{Q:VK}(I1:Inv X aB σ H1 s1)(hq:SqL X.K H1 l (ps.map λp=>V.ref p.1))(hrow:∀p∈ps,zBx X.K H1 p)(h64:ps.length<64)(hu:X.A.in1.in1.units+8<cLine)
  (hcall:∀p∈ps,∀(pins':List (Addr×Obj)) (s':Shared),(∀q∈aB,q∈pins')->Inv X pins' σ H1 s'->wpAny (model X.prog X.w) X.A.in1.in1 (call (.ref f) [.ref p.1]) (EP X pins' σ (λv H=>v = .ref p.2.1/\H=H1)) (λ_ _=>False) s')
  (q:∀(r:Addr),H1 r=none->(qHu ps.length (ltP ps)).Perm (List.range ps.length)->Q (.ref r) (upd H1 r (.lst ((qQ1 ps).map V.ref)))) :
  wpAny (model X.prog X.w) X.A (call (.builtin "sorted") [.ref l] [(Str.ofString "key",.ref f)]) (EP X aB σ Q) X.xe s1:=by
 obtain⟨its,rv,pl,hz⟩:=I1.list hq;have ei:its=ps.map λp=>Value.ref p.1:=by
  have rv':qBn ((ps.map λp=>p.1).map V.ref) its:=by rw[hB6];exact rv
  have:=qE1 rv';rw[hB6]at this;exact this
 have hl:its.length=ps.length:=by rw[ei,hA1]
 refine call_function_entry_kw hFu hFo hFp (ksk_s1 _ _) ?_;unfold Builtin.«sorted»;refine hEh (m:=checkCount "sorted" 1 1 _) (hEk ?_);refine hEh (hFw pl.isList ?_ (by rw[hEq];omega));refine hEh (hEy ?_ (by rw[hEq];omega));have hsz:((s1.heap.push (seqObj "list" #[] 0)).update s1.heap.objs.size (Obj.mapSeq (·++its.toArray))).objs.size=s1.heap.objs.size+1:=by
  rw[Heap.size_update,hFn]
 have keep:∀b o,s1.heap.get? b=some o->((s1.heap.push (seqObj "list" #[] 0)).update s1.heap.objs.size (Obj.mapSeq (·++its.toArray))).get? b=some o:=λb o q=>by
  have hlt:b<s1.heap.objs.size:=Heap.lt_size q;rw[Heap.get?_update_ne _ _ _ _ (hAu hlt),Heap.get?_push_ne _ _ _ (hAu hlt)];exact q
 have hoL:(((s1.heap.push (seqObj "list" #[] 0)).update s1.heap.objs.size (Obj.mapSeq (·++its.toArray))).push (seqObj "list" its.toArray 0)).get? (s1.heap.objs.size+1)=some (seqObj "list" its.toArray 0):=by
  rw[<-hsz];exact Heap.get?_push_size _ rfl
 have I2:Inv X aB σ H1 { s1 with heap:=((s1.heap.push (seqObj "list" #[] 0)).update s1.heap.objs.size (Obj.mapSeq (·++its.toArray))).push (seqObj "list" its.toArray 0) } :=
  I1.kept (t':=s1.toks) λb o q=>Heap.get?_push_of_some _ (keep b o q)
 show wpAny _ _ _ _ _ { s1 with heap:=((s1.heap.push (seqObj "list" #[] 0)).update s1.heap.objs.size (Obj.mapSeq (·++its.toArray))).push (seqObj "list" its.toArray 0) };rw[hsz];have nA:H1 (s1.heap.objs.size+1)=none:=I1.hok.fresh (hBk _);have wA:Aw X aB (s1.heap.objs.size+1):=I1.aw (hBk _);generalize s1.heap.objs.size+1=a at hoL nA wA;generalize hS:({ s1 with heap:=((s1.heap.push (seqObj "list" #[] 0)).update s1.heap.objs.size (Obj.mapSeq (·++its.toArray))).push (seqObj "list" its.toArray 0) }:Shared)=s2 at I2;have ho2:s2.heap.get? a=some (seqObj "list" its.toArray 0):=by rw[<-hS];exact hoL
 clear hoL hS;refine hEh (hEt (wpAny_call_entry_kw slot_list_sort ⟨_,ho2,rfl⟩ entry_list_sort ?body (ksk_l1 _ _)));show wpAny (model X.prog X.w) X.A.in1.in1 (Builtin.«list.sort» ⟨[.ref a],[(Str.ofString "key",.ref f)]⟩) _ _ _;rw[ksk_t1];unfold ksk_tree;refine hEh (hFg ho2 rfl ?_);refine hEh (hEr ho2 rfl ?_ (by rw[hAf,hEq];omega) (hAp _));obtain⟨e1,I3,ho3⟩:=I2.repinL (λ_=>#[]) wA nA ho2;refine hEh (hF8 ho3 rfl ?_);refine hEh (hFe ?_ (by show its.length<=_;rw[hEq];omega));refine hEh (hEy ?_ (hAp _));refine hEt ?_;have I4:Inv X aB σ H1 { s2 with heap:=(vA 0) }:=I3.kept (t':=s2.toks) λb o q=>Heap.get?_push_of_some _ q
 have nK:=I4.fresh;have wK:=I4.aw (hAa _);have ho4:(vA 0).get? a=some (seqObj "list" #[] e1):=Heap.get?_push_of_some _ ho3;have nka:(vA 0).objs.size≠a:=hCm (Heap.lt_size ho4);have I5:Inv X aB σ H1 { s2 with heap:=(vA 0).push (seqObj "list" #[] 0) }:=I4.kept (t':=s2.toks) λb o q=>Heap.get?_push_of_some _ q
 have ho5:((vA 0).push (seqObj "list" #[] 0)).get? a=some (seqObj "list" #[] e1):=Heap.get?_push_of_some _ ho4;have hk5:((vA 0).push (seqObj "list" #[] 0)).get? (vA 0).objs.size=some (seqObj "list" #[] 0):=Heap.get?_push_size _ rfl;show wpAny _ _ (ksk_rest a (.ref f) false its.toArray e1 (.ref (vA 0).objs.size)) _ _ { s2 with heap:=(vA 0).push (seqObj "list" #[] 0) }
 change H1 (vA 0).objs.size=none at nK
 change Aw X aB (vA 0).objs.size at wK
 have I6:=(I5.pinL wA nA ho5).pinL (wK.cons (Ne.symm nka)) nK hk5;generalize (vA 0).objs.size=kS at nK wK nka I6 ⊢;generalize ({ s2 with heap:=(vA 0).push (seqObj "list" #[] 0) }:Shared)=s6 at I6 ⊢;unfold ksk_rest;refine hEh (hFz ?_)
 first
  |rw[List.forIn_toArray]
  |(rw[<-Array.forIn_toList];simp only[List.toList_toArray])
  |rw[<-Array.forIn_toList]
 refine hEh (ksk_fold (λi s'=>∃(e:Nat),Inv X ((kS,seqObj "list" ((ps.map λp=>Value.ref p.2.1).take i).toArray e) :: (a,seqObj "list" #[] e1) :: aB) σ H1 s') its 0 s6 ⟨0,I6⟩ ?step ?done)
 case step =>
  rintro j x s' hx ⟨e,I'⟩;simp only[Nat.zero_add]at I' ⊢;have hj:j<its.length:=(hAm.mp hx).1;have hjn:j<ps.length:=by omega
  have hxe:x = .ref ps[j].1:=by
   rw[ei,hAi,hA2 hjn]at hx;exact(hAq hx).symm
  subst hxe;have hz:((ps.map λp=>Value.ref p.2.1).take j).length<=its.length:=by rw[hAk,hA1];omega
  refine hEh (hFj (hEu (hcall ps[j] (hC4 hjn) _ s' (λp hp=>hA4 _ (hA4 _ hp)) I') (λv s'' he=>?_) λ_ _ (hF:False)=>hF.elim));obtain⟨w,H',I8,rw',rfl,e8⟩:=he;rw[e8]at I8;cases rw';try dsimp only
  have ok2:s''.heap.get? kS=some (seqObj "list" ((ps.map λp=>Value.ref p.2.1).take j).toArray e):=(I8.pin (kS,_) (hA8 _ (.head _))).1;obtain⟨n3,I3,ok3⟩:=I8.unpin.repinL (·.push (.ref ps[j].2.1)) (wK.cons (Ne.symm nka)) nK ok2;have ek:(ps.map λp=>Value.ref p.2.1).take (j+1)=(ps.map λp=>Value.ref p.2.1).take j++[.ref ps[j].2.1]:=by rw[List.take_add_one,hAi,hA2 hjn];rfl
  refine hEh (hEr ok2 rfl ?_ (by rw[hAf,hEq];omega) (hAw (Nat.le_of_eq (Array.size_push ..)) (by rw[hAf,hEq];omega)));have ea:((ps.map λp=>Value.ref p.2.1).take j).toArray.push (Value.ref ps[j].2.1)=((ps.map λp=>Value.ref p.2.1).take (j+1)).toArray:=by rw[ek];simp
  rw[ea]at ok3;exact hEk ⟨rfl,n3,I3.pinL (wK.cons (Ne.symm nka)) nK ok3⟩
 case done =>
  rintro s' ⟨e,I'⟩;have e3:(ps.map λp=>Value.ref p.2.1).take (0+its.length)=ps.map λp=>Value.ref p.2.1:=hA5 (by rw[hA1];omega)
  rw[e3]at I';have ok2:s'.heap.get? kS=some (seqObj "list" (ps.map λp=>Value.ref p.2.1).toArray e):=(I'.pin (kS,_) (hA8 _ (.head _))).1;try dsimp only
  refine hEh (hFg ok2 rfl ?_);subst ei;refine qZa I' nka nK nA wA wK hu (λp hp=>zA1 I' (hrow p hp)) h64 λs7 pm I7=>⟨_,rfl,?_⟩
  exact hEk ⟨_,rfl,⟨.ref a,_,I7,rfl,q a nA pm⟩⟩
end
def qRg(K:PySem.W.Frag)(P:Addr)(lpos:Pos)(q:Str)(t:TA):TE:=λσ H Q=>t σ H λvs H1=>∃(p:Addr) (ps:List Pk),vs=[.ref p]/\SqL K H1 p (ps.map λp=>V.ref p.1)/\(∀x∈ps,zBx K H1 x)/\ps.length<64/\TabW H1 P lpos q /\
 ∀(r:Addr) (H2:Hp),H1 r=none->ExtB P H1 H2->H2 r=some (.lst ((qQ1 ps).map V.ref))->(qHu ps.length (ltP ps)).Perm (List.range ps.length)->TabW H2 P lpos q->Q (.ref r) H2
section
variable{X:Cx}{k:Nat}
theorem qNe{e body:Expr}{params:Arguments}{scope:Scope}{t:TA}{te:TE}{p pos kp lpos:Pos}{x:Str}{c P:Addr}(L:LamAt X c P)(hr:Room (k+2) X.A)(hg:Gl X "sorted")(hm:X.mg "sorted"=none)(ha:PA X [e] t)
  (S:FnScope [x] [x] scope) (hcl:closureFor scope X.env=pure []) (hdef:defaultsOf params X.env=([],[]))
  (hb:∀(nm ql:Str) (pm cd ct u:Value),bindArgs { name:=nm,qualname:=ql,params,body:=.expr body,scope,globals:=mainGlobals,closure:=[],defaults:=.none,kwdefaults:=.none,doc:=.none,pyModule:=pm,annotations:=none,code:=cd,closureTuple:=ct,builtins:=builtinsNs } ⟨[u],[]⟩=pure [(x,u)])
  (hbody:∀(A:Around) (s:Shared) (H:Hp) (f:Addr) (cd:Value) (qual:Str),PE (qP4 CX0 X.prog X.w X.K X.mg X.base [x] qual scope f cd A X.stack s H E0) body te)
  (hte:∀(a g:Addr) (k:Str) (H:Hp) (Q:VK),H a=some (.tup [.str k,.ref g])->Q (.ref g) H->te [some (.ref a)] H Q)
  (he:backTo pos (starEach [e] X.env)=(false,eval e X.env) :: backTo pos (starEach [] X.env):=by rfl)
  (hplain:(backTo pos (starEach [e] X.env)).any (·.1)=false:=by rfl):PE X (.Call (.Name "sorted" p) [e] [⟨some "key",.Lambda params body scope lpos,kp⟩] pos) (qRg X.K P lpos (X.env.qual++"<lambda>") t):=by
 intro aB s σ H Q I h;refine hEz (qEw I hg hm (by decide +kernel:bootBuiltins "sorted"=some (.builtin "sorted")) ?_ (by decide) (by decide));refine PyProof.Rows.callWith_kw (thn (ha pos aB s σ H _ I h) λus s1 ⟨vs,H1,I1,r1,q1⟩=>?_) he hplain;obtain⟨l,ps,rfl,hq,hrow,h64,tw,q⟩:=q1;obtain⟨u,rfl,rx⟩:=qCy r1;cases rx;have hgs:s1.heap.Ns mainGlobals X.mg:=I1.ok.mod.glob.keeps I1.bk;obtain⟨bm,ob,b1,b2,b3,b4,b5,b6⟩:=L.bl;have rest:∀(c':Addr) (ctv:Value) (h':Heap) (tk:Nat) (H2:Hp),Inv X aB σ H2 { s1 with heap:=h'.push (PySem.W.kla_obj "<lambda>" (X.env.qual++"<lambda>") params body scope [] ((X.mg "__name__").getD .none) c' ctv),toks:=tk }->H2 c'=some (qW3 c' (X.env.qual++"<lambda>"))->H2 h'.objs.size=none->Aw X aB h'.objs.size->(∃ps,H1 P=some (.tbl ps))->ExtB P H1 H2->TabW H2 P lpos (X.env.qual++"<lambda>")->(∀r,H2 r=none->H1 r=none) ->
   wpAny (model X.prog X.w) X.A (call (.builtin "sorted") [.ref l] [(Str.ofString "key",.ref h'.objs.size)]) (EP X aB σ Q) X.xe { s1 with heap:=h'.push (PySem.W.kla_obj "<lambda>" (X.env.qual++"<lambda>") params body scope [] ((X.mg "__name__").getD .none) c' ctv),toks:=tk }:=by
  intro c' ctv h' tk H2 I2 hc' nF wF ⟨ps,hP⟩ eB tw2 back;have I3:Inv X ((h'.objs.size,PySem.W.kla_obj "<lambda>" (X.env.qual++"<lambda>") params body scope [] ((X.mg "__name__").getD .none) c' ctv) :: aB) σ H2
    { s1 with heap:=h'.push (PySem.W.kla_obj "<lambda>" (X.env.qual++"<lambda>") params body scope [] ((X.mg "__name__").getD .none) c' ctv),toks:=tk }:=I2.pins_of λp hp=>by
   rcases hAg.mp hp with rfl|hp
   ·exact⟨Heap.get?_push_size _ rfl,nF,wF.loc,wF.fs,λv z=>by cases z⟩
   ·exact I2.pin p (hA8 _ hp)
  refine hEu (qJz (Q:=Q) I3 (zDz hP eB hq) (λp hp=>zFc hP eB (hrow p hp)) h64 (by have:=(Room.in1 (Room.in1 hr)).un;omega) (λp hp pins' s' sub I'=>?_) (λr nr pm=>?_)) (λv s' ⟨y,H',J,ry,qq⟩=>⟨y,H',J.unpin,ry,qq⟩) λ_ _ z=>z
  ·have ho:=(I'.pin _ (hA8 _ (sub _ (.head _)))).1;have hcr:s'.heap.CodeRec (.ref c') (X.env.qual++"<lambda>"):=(I'.hok c' _ hc').1;obtain⟨k0,hk0,_⟩:=zFc hP eB (hrow p hp);refine wpAny_call (hFf (qSa (v:=.ref p.1) (t:=te) (Q:=λv H=>v = .ref p.2.1/\H=H2) (Room.in1 (Room.in1 hr)) I'.env0.in1.in1 ho hcr S (hb _ _ _ _ _ _) rfl (hbody _ _ _ _ _ _) (hte p.1 p.2.1 k0 H2 _ hk0 ⟨rfl,rfl⟩)) λr s'' hq=>?_);cases r with
   |error e=>exact False.elim hq
   |ok fl =>
    cases fl with
    |ret u=>exact I'.after hq
    |next=>exact False.elim hq
    |brk=>exact False.elim hq
    |cont=>exact False.elim hq
  ·refine q r _ (back r nr) (λb o hb e=>?_) upd_same pm (tw2.ext λb o e=>by rw[qAk (qAo e nr)];exact e);have:=eB b o hb e;rw[qAk (qAo this nr)];exact this
 rcases tw with hP|⟨c',hP,hc'⟩
 ·have hPh:s1.heap.get? P=some (PySem.W.tabObj #[]):=I1.hok P _ hP;have hgP:mainGlobals≠P:=λz=>by
   obtain⟨o,es,ep,e1,hd,_⟩:=hgs;rw[z,hPh]at e1;cases e1;cases hd
  refine hDq (PySem.W.kla_eval hdef (PySem.W.kla_makeFunction (mg:=X.mg) hcl I1.ok.glob hgs L.code (L.hd.keeps I1.bk) hPh trivial rfl hgP ⟨bm,ob,b1,b2,b3,b4,I1.bk _ _ b5,b6⟩ λc' ctv h' tk hx hge hlt hrec htb=>hDt ?_));have hsz:s1.heap.objs.size<=h'.objs.size:=hB5 (hDo hge hlt);have I2:=I1.grown (more:=#[rawInt lpos.line,rawInt lpos.col,.ref c']) (tk:=tk) (h':=h'.push (PySem.W.kla_obj "<lambda>" (X.env.qual++"<lambda>") params body scope [] ((X.mg "__name__").getD .none) c' ctv)) hP (λb o hb e=>Heap.get?_push_of_some _ (hx b o hb e)) (Heap.get?_push_of_some _ htb);have hPlt:P<s1.heap.objs.size:=Heap.lt_size hPh;have nC1:H1 c'=none:=I1.hok.fresh hge;have nC:upd H1 P (.tbl (#[]++#[rawInt lpos.line,rawInt lpos.col,.ref c'])) c'=none:=by
   rw[qAk (hCm (hAn hPlt hge))];exact nC1
  have wC:Aw X aB c':=I1.aw hge;have I3:=I2.adoptX wC nC (qP6 (hrec.keeps λb o e=>Heap.get?_push_of_some _ e));have nF1:H1 h'.objs.size=none:=I1.hok.fresh hsz;refine rest c' ctv h' tk _ I3 upd_same ?_ (I1.aw hsz) ⟨_,hP⟩ (λb o hb e=>?_) (.inr ⟨c',?_,upd_same⟩) λr hr0=>?_
  ·rw[qAk (hCm hlt),qAk (hCm (hAn hPlt hsz))];exact nF1
  ·rw[qAk (qAo e nC1),qAk hb];exact e
  ·rw[qAk (hAu (hAn hPlt hge)),upd_same];simp
  ·by_cases h1:r=c'
   ·rw[h1];exact nC1
   ·rw[qAk h1]at hr0;by_cases h2:r=P
    ·rw[h2,upd_same]at hr0;cases hr0
    ·rw[qAk h2]at hr0;exact hr0
 ·have hPh:s1.heap.get? P=some (PySem.W.tabObj #[rawInt lpos.line,rawInt lpos.col,.ref c']):=I1.hok P _ hP;refine hDq (PySem.W.kla_eval hdef (PySem.W.kla_makeFunctionHit (mg:=X.mg) hcl I1.ok.glob hgs L.code (L.hd.keeps I1.bk) hPh ?tri (qY1 lpos _) ⟨bm,ob,b1,b2,b3,b4,I1.bk _ _ b5,b6⟩ λctv h' tk hk hsz=>hDt ?_))
  case tri=>trivial
  have I2:Inv X aB σ H1 { s1 with heap:=h'.push (PySem.W.kla_obj "<lambda>" (X.env.qual++"<lambda>") params body scope [] ((X.mg "__name__").getD .none) c' ctv),toks:=tk }:=I1.kept (t':=tk) λb o e=>Heap.get?_push_of_some _ (hk b o e)
  exact rest c' ctv h' tk H1 I2 hc' (I1.hok.fresh hsz) (I1.aw hsz) ⟨_,hP⟩ (λb o _ e=>e) (.inr ⟨c',hP,hc'⟩) λr z=>z
end
end L2
namespace L2
open PySem PySem.Spec PyProof.Rows
section
variable{prog:Program}{w:World}{A:Around}{E:Value->Shared->Prop}{s:Shared}
theorem qEr{r:Addr}{n:Nat}{t u v:Tok}{Q:Value->Shared->Prop}(hn:1<=n/\n<=12)(hl:s.heap.get? r=some { cls:=.type "range",data:=.fields #[.int 0 t,.int n u,.int 1 v] })
  (h:Q (.ref s.heap.objs.size) { s with heap:=s.heap.push (qOx n) }):wpAny (model prog w) A (call (.builtin "range.__reversed__") [.ref r]) Q E s:=by
 have ty:s.TypeIs (.ref r) "range":=⟨_,hl,rfl⟩;refine hEs F.slot_range_reversed ty F.entry_range_reversed ?_ (F.args_range_reversed_1 _);unfold Builtin.«range.__reversed__»;refine hEh (hF6 (a:=Value.ref r) rfl ?_);have hn:n=1\/n=2\/n=3\/n=4\/n=5\/n=6\/n=7\/n=8\/n=9\/n=10\/n=11\/n=12:=by omega
 rcases hn with rfl|rfl|rfl|rfl|rfl|rfl|rfl|rfl|rfl|rfl|rfl|rfl
 all_goals
  refine hEh ?_;unfold Builtin.Range.rangeFields;refine hEh (wpAny_field hl rfl (x:=.int 0 t) rfl ?_);refine hEh (hF6 (a:=some (0:Int)) rfl ?_);refine hEh (wpAny_field hl rfl rfl ?_);refine hEh (hEk ?_);refine hEh (wpAny_field hl rfl (x:=.int 1 v) rfl ?_);refine hEh (hF6 (a:=some (1:Int)) rfl ?_);refine hEk ?_;exact hEh (hEx (hEk ⟨_,rfl,h⟩))
theorem qF2{r:Addr}{n:Nat}{t u v:Tok}{Q₁:Value->Shared->Prop}(hn:1<=n/\n<=12)(hl:s.heap.get? r=some { cls:=.type "range",data:=.fields #[.int 0 t,.int n u,.int 1 v] })
  (h:Q₁ (.ref s.heap.objs.size) { s with heap:=s.heap.push (qOx n) }) :
  codeAny (model prog w) A (.call (.builtin "reversed.__new__") ⟨[.type "reversed",.ref r],[]⟩) (wants Q₁ E) s:=by
 have ty:s.TypeIs (.ref r) "range":=⟨_,hl,rfl⟩;refine codeAny_of_tree ?_;show wpAny _ A.in1 (do checkBuiltinCall "reversed.__new__" ⟨[.type "reversed",.ref r],[]⟩;again (.builtin "reversed.__new__" ⟨[.type "reversed",.ref r],[]⟩)) _ _ s;refine hEh (hF6 (F.newCall_reversed_1 _) (hEk ⟨hF0 F.plain_reversed_new _,hEv F.entry_reversed_new ?_⟩));rw[Around.under_plainId F.plain_reversed_new _];unfold Builtin.«reversed.__new__»;refine hEh (hF6 (newClass_reversed _) ?_);try dsimp only
 refine hEh (hF6 (a:=()) (by first|rfl|kernel_rfl) ?_);refine hEh (hF6 (a:=()) (by first|rfl|kernel_rfl) ?_);try dsimp only
 refine hEh (wpAny_specialOf ty F.slot_range_reversed.lookup ?_);try dsimp only
 refine hEh (hF6 (F.slot_range_reversed.bind _) ?_);try dsimp only
 first
 |rw[hEm (show ¬((Value.builtin "range.__reversed__" == Value.none)=true) from hAz)]
 |(show wpAny _ _ (if (Value.builtin "range.__reversed__" == Value.none)=true then _ else _) _ _ _;rw[hEm (show ¬((Value.builtin "range.__reversed__" == Value.none)=true) from hAz)])
 refine hEh (hFz ?_);refine hEh (m:=runValue (.call (.builtin "range.__reversed__") ⟨[.ref r],[]⟩)) (show wpAny _ _ (call (.builtin "range.__reversed__") [.ref r]) _ _ _ from qEr hn hl ?_)
 first
 |exact hEk h
 |exact hEh (hEk (hEk h))
theorem qF4{r:Addr}{n:Nat}{t u v:Tok}{Q:Value->Shared->Prop}(hn:1<=n/\n<=12)(hl:s.heap.get? r=some { cls:=.type "range",data:=.fields #[.int 0 t,.int n u,.int 1 v] })
  (h:Q (.ref s.heap.objs.size) { s with heap:=s.heap.push (qOx n) }):wpAny (model prog w) A (call (.type "reversed") [.ref r]) Q E s:=by
 refine callType_other (U:="range_iterator") (Q₁:=λobj s₁=>obj = .ref s.heap.objs.size/\s₁={ s with heap:=s.heap.push (qOx n) }) (by decide +kernel) F.create_reversed ⟨_,_,F.mro_reversed⟩ F.made_reversed qHt (F.typeCall_reversed_1 _) (qF2 hn hl ⟨rfl,rfl⟩) ?_;rintro obj s₁ ⟨rfl,rfl⟩;exact⟨⟨_,Heap.get?_push_size _ rfl,rfl⟩,h⟩
end
section
variable{X:Cx}{tg:Expr}
def zEx(ta:TA):TI:=λσ H R=>ta σ H λvs H1=>∃(r:Addr) (n:Nat),vs=[.ref r]/\H1 r=some (.rng 0 (n:Int))/\(1<=n/\n<=12)/\R (Itd ((n:Int)-1) n) H1
theorem qZ3{e:Expr}{ta:TA}{p pos:Pos}(hg:Gl X "reversed")(hm:X.mg "reversed"=none)(ha:PA X [e] ta)(hs:starEach [e] X.env=[(false,eval e X.env)]:=by rfl):PI X tg (.Call (.Name "reversed" p) [e] [] pos) (zEx ta):=by
 intro aB s σ H R I h;refine Call_ (qEw I hg hm boot_reversed (hCt (thn (ha pos aB s σ H _ I h) λus s1 ⟨vs,H1,I1,r1,q1⟩=>?_) hs rfl));obtain⟨r,n,rfl,hr,hn,q⟩:=q1;obtain⟨u,rfl,rx⟩:=qCy r1;cases rx;obtain⟨t1,t2,t3,hl⟩:=I1.hok r _ hr;refine qF4 hn hl ?_;refine wpAny_pyIter_rangeiter (Heap.get?_push_size _ rfl) ?_;refine⟨s1.heap.objs.size,[s1.heap.objs.size],_,_,H1,rfl,I1.kept (t':=s1.toks) λb o e=>Heap.get?_push_of_some _ e,qMq _ ((n:Int)-1) n,?_,λb hb=>?_,q⟩
 ·have e1:((n:Int)-1)+((0:Nat):Int)*(-1)=(n:Int)-1:=by omega
  have e2:((n:Nat):Int)-((0:Nat):Int)=(n:Int):=by omega
  show IsRangeIter _ _ (((n:Int)-1)+((0:Nat):Int)*(-1)) (((n:Nat):Int)-((0:Nat):Int)) (-1);rw[e1,e2];exact Heap.get?_push_size _ rfl
 ·have e:b=s1.heap.objs.size:=by simpa using hb
  subst e;exact I1.fpOk (hAa _) (I1.hok.fresh (hAa _))
end
section
variable{Q:List V->Hp->Prop}{H1:Hp}{σ0:St}{g:TG}{tt:TT}{te:TE}
theorem qKx(Pv:Nat->List V->Hp->Prop)(h0:Pv 0 [] H1)
  (hs:∀i ys H,i<n->Pv i ys H->g (.int (hi-i)) σ0 H λσ2 H2=>Sle σ0 σ2/\tt σ2 H2 λb H3=>if b=true then te σ2 H3 (λv H4=>ys.length<sizeLine/\Nxt n i Pv (ys++[v]) H4) else Nxt n i Pv ys H3)
  (hd:∀ys H,Pv n ys H->Q ys H):qEf (Itd hi n) σ0 g tt te Q H1:=by
 refine⟨λi m ys H=>m=n-i/\i<=n/\Pv i ys H,⟨n,by simp,hAp _,h0⟩,?_⟩;rintro i m ys H ⟨rfl,hi,p⟩;by_cases hlt:i<n
 ·refine .inr ⟨hlt,λx H' y=>?_⟩;obtain⟨e,y⟩:=y;subst e y;exact hs i ys _ hlt p
 ·have e:i=n:=by omega
  subst e;exact .inl ⟨hAa _,hd ys H p⟩
end
end L2
namespace My
open PySem L2
noncomputable def lpP:Pos:=match (qB7 qD7).getD 4 (.Pass ⟨0,0,0,0⟩) with
 |.Return (some (.Call _ _ [⟨_,.Lambda _ _ _ p,_⟩] _)) _=>p
 |_=>⟨0,0,0,0⟩
noncomputable abbrev qL:Str:=("parts" : Str)++".<locals>."++"<lambda>"
noncomputable def singF(n:Nat):List Nat:=(List.range n).map λi=>2^(n-1-i)
theorem qFj(h:i<n):(singF n)[i]?=some (2^(n-1-i)):=by
 unfold singF;rw[hAi,hCq h];rfl
theorem qFi(n:Nat):(singF n).Perm ((List.range n).map λk=>2^k):=by
 have e:singF n=((List.range n).map λk=>2^k).reverse:=by
  refine hCs λi=>?_
  by_cases h:i<n
  ·rw[qFj h,List.getElem?_reverse (by rw[hA1,hB0];exact h),hA1,hB0,hAi,hCq (by omega)];rfl
  ·rw[hB7 (by unfold singF;rw[hA1,hB0];omega),hB7 (by rw[List.length_reverse,hA1,hB0];omega)]
 rw[e];exact List.reverse_perm _
theorem qSo:∀n:Nat,((List.range n).map λk=>2^k).sum=2^n-1
 |0=>rfl
 |n+1=>by
  rw[hCf,hA3,hE1,qSo n,hDp];have:=hCn (n:=n);show 2^n-1+(2^n+0)=_;omega
theorem qHx(n:Nat):Pt (2^n-1) (singF n):=Pt.perm ⟨λg hg=>by
  obtain⟨k,_,rfl⟩:=hAb.mp hg;exact hCm (Nat.two_pow_pos k),(BlI.first n).dis,qSo n⟩ (qFi n).symm
theorem qBt(n:Nat):(singF n).length=n:=by unfold singF;rw[hA1,hB0]
noncomputable def jF(n:Nat)(S:List Nat):List PE1:=joF (2^n-1) (paF S 10 (singF n))
theorem qKh(S:List Nat):∀(k:Nat) {gs:List Nat},Sh w gs->gs.length<=k+2->(paF S k gs).length+2<=gs.length
 |0,gs,h,l=>absurd h.l3 (by omega)
 |k+1,gs,h,l=>by
  have l3:=h.l3;unfold paF;split
  ·show 1+2<=_;omega
  ·rename_i c;obtain⟨xl,s1,s2⟩:=qL1 c;revert xl s1 s2;generalize fpF (shF S gs) gs.length=x;intro xl s1 s2;obtain⟨t1,t2,t3⟩:=qD5 h.pt.nd xl s1 s2;have sp:=qCk h.pt.nd x;have pn:∀ {l:List Nat},2<=l.length->l≠[]:=λ{l} h z=>by rw[z]at h;exact absurd h (by decide)
   have A:=qKh (w:=w) S k (gs:=beF (rowI gs x) (outF gs (rowI gs x))) ⟨(h.pt.perm sp).beside (pn t2),by rw[qBk];omega⟩ (by rw[qBk];omega);have B:=qKh (w:=w) S k (gs:=beF (outF gs (rowI gs x)) (rowI gs x)) ⟨(h.pt.perm (sp.trans hE9)).beside (pn t1),by rw[qBk];omega⟩ (by rw[qBk];omega);rw[qBk]at A B;rw[hAc];omega
structure JOk(n:Nat)(J:List PE1):Prop where
 sh:∀e∈J,Sh (2^n-1) e.2
 kd:∀e∈J,e.1 = "ring"\/e.1 = "bundle"\/e.1 = "whole"
 ln:J.length<=10
theorem zA7(S:List Nat)(h3:3<=n)(h12:n<=12):JOk n (jF n S)/\JI (2^n-1) [] (paF S 10 (singF n))/\(paF S 10 (singF n)).length<=10:=by
 have sh:Sh (2^n-1) (singF n):=⟨qHx n,by rw[qBt];exact h3⟩;have l:=qKh S 10 sh (by rw[qBt];omega);rw[qBt]at l;have ji:=(qKj S 10 sh (by rw[qBt];omega)).ji;have ja:=ji.all (paF S 10 (singF n)).length;rw[hA5 (hAa _)]at ja;have ln:=qNo (2^n-1) [] (paF S 10 (singF n));refine⟨⟨λe he=>ja.sh e (hAe _ he),λe he=>ja.kd e (hAe _ he),?_⟩,ji,by omega⟩;show((paF S 10 (singF n)).foldl (joS (2^n-1)) []).length<=10;simp only[List.length_nil]at ln;omega
noncomputable def keyJ(aA:List Str)(J:List PE1):List (List (List Str)):=J.map λe=>e.2.map (rowM aA)
noncomputable def ltJ(aA:List Str)(J:List PE1)(i j:Nat):Bool:=qFv ((keyJ aA J).getD i []) ((keyJ aA J).getD j [])
noncomputable def srtL(aA:List Str)(J:List PE1):List PE1:=(qHu J.length (ltJ aA J)).map λi=>J.getD i ("",[])
abbrev Zt:=Addr×Addr×List Addr
def PrZ(H':Hp)(aA:List Str)(z:Zt)(e:PE1):Prop:=H' z.1=some (.tup [.str e.1,.ref z.2.1])/\H' z.2.1=some (.lst (z.2.2.map V.ref))/\Paired (LsS H') z.2.2 (e.2.map (rowM aA))
theorem PrZ.ext(h:PrZ H aA z e)(x:Ext H H'):PrZ H' aA z e:=⟨x _ _ h.1,x _ _ h.2.1,Paired.mapP h.2.2 λa t y=>x _ _ y⟩
noncomputable def adr(Z:List Zt):List Addr:=Z.flatMap λz=>z.2.1 :: z.2.2
structure NewZ(H:Hp)(Z:List Zt):Prop where
 nd:(adr Z).Nodup
 fr:∀x∈adr Z,H x=none
theorem qUr:∀ {Z:List Zt} {X:List PE1},Paired (PrZ H aA) Z X->∀x∈adr Z,H x≠none
 |_,_,.nil,x,hx=>by cases hx
 |_,_,@Paired.cons _ _ _ z e Z X h t,x,hx=>by
  have hx:x∈(z.2.1 :: z.2.2)++adr Z:=hx;rcases hAd.mp hx with q|q
  ·rcases hAg.mp q with u|u
   ·rw[u,h.2.1];exact λy=>by cases y
   ·obtain⟨r,_,hr⟩:=qC3 h.2.2 x u;have hr:H x=some (.lst (r.map V.str)):=hr;rw[hr];exact λy=>by cases y
  ·exact qUr t x q
theorem qQb(Z:List Zt)(z:Zt):adr (Z++[z])=adr Z++(z.2.1 :: z.2.2):=by
 unfold adr;rw[List.flatMap_append];simp
theorem qKu(p:Z.Perm Z'):(adr Z).Perm (adr Z'):=p.flatMap_right _
def qRp(Pt:Addr):Sp:=λvs H Q _=>∃(T:Addr) (aA:List Str) (rows:List (List Str)),vs=[.ref T]/\qIt H T aA rows/\rows.length<=24/\3<=aA.length/\aA.length<=12/\TabW H Pt lpP qL /\
 ∀(L:Addr) (Z:List Zt) H',ExtB Pt H H'->H L=none->H' L=some (.lst (Z.map λz=>V.ref z.1))->Paired (PrZ H' aA) Z (srtL aA (jF aA.length (dsF (rows.map (qB6 aA)))))->NewZ H Z->L∉adr Z->TabW H' Pt lpP qL->Q (.ref L) H'
theorem qWm(rows:List (List Str)):(dsF (rows.map (qB6 aA))).length<=aA.length:=by
 rw[qTu];have lt:=qOy (xs:=rows.map (qB6 aA)) (m:=aA.length) λx hx=>by
  obtain⟨r,_,rfl⟩:=hAb.mp hx;exact qWn _ _
 have rr:=qCi (rows.map (qB6 aA));have:=qPi (zA3 rr) (m:=aA.length) λx hx=>by
  obtain⟨s,hs,rfl⟩:=hAb.mp hx;exact(hEg (rr.nz s hs)).mpr (lt s hs)
 rw[hA1]at this;exact this
theorem qE8:∀ {as:List α} {bs:List β},Paired R as bs->∀ {i:Nat},i<as.length->R (as.getD i a0) (bs.getD i b0)
 |_,_,.nil,i,h=>absurd h (hC5 _)
 |_,_,.cons a _,0,_=>a
 |_,_,.cons _ r,i+1,h=>qE8 r (i:=i) (by simpa using h)
theorem qE7:∀ {l:List Nat},(∀i∈l,R (f i) (g i))->Paired R (l.map f) (l.map g)
 |[],_=>.nil
 |i :: l,h=>.cons (h i hA6) (qE7 λj hj=>h j (hA4 _ hj))
section
variable{P:Program}{w:World}{K:PySem.W.Frag}{mg:Str->Option Value}{base:Heap}{f f1 f2 f3 f4 c Pt:Addr}{fd fd1 fd2 fd3 fd4:FuncData}
noncomputable abbrev prN:List Str:=["table","names","singles","found","told"]
theorem qHz:FnScope prN ["table"] (qAc qD7):=fsk
theorem qWa(F:Fun K "parts" "parts" qD7 f fd)(hcode:fd.code = .ref c)(hC:PySem.W.CodeHd base c Pt)(hB:base.BuiltinsAt mg Pt)
  (G1:v9 2 f1 fd1 ["found","whole"] qOe "joined")
  (G2:v9 15 f2 fd2 ["steps","groups"] (qOb 10) "parted")
  (G3:v9 3 f3 fd3 ["table"] qRl "step_masks")
  (G4:v9 1 f4 fd4 ["names","mask"] qRn "row_of")
  (ml:mg "len"=none) (mr:mg "range"=none) (mrv:mg "reversed"=none) (mso:mg "sorted"=none):v8 16 f fd ["table"] (qRp Pt):=by
 refine F.okC qHz (λvs H Q E h=>?_) (λA outer s H vs Q E hr h=>?_)
 ·obtain⟨T,aA,rows,rfl,_⟩:=h;rfl
 obtain⟨T,aA,rows,rfl,ti,lr,n3,n12,tw,q⟩:=h;have hr1:=hr.mono (j:=1) (by decide);have hr2:=hr.mono (j:=2) (by decide);have hr3:=hr.mono (j:=3) (by decide);have L:LamAt ((qP4 CX0 P w K mg base prN "parts" (qAc qD7) f fd.code A outer s H E).nox) c Pt:=⟨hcode,hC,hB⟩;refine⟨_,qAa (v6 1 qHz (qBh qBq (pv 0) qAb (λ_ _=>rfl)))
  (qAa (qD0 (i:=2) (N:=prN) (sc:=qAc qD7) (N':=["place"]) (sub:=[none]) (qZ3 rfl mrv (pa1 (qBp qG3 rfl mr (by decide +kernel) (pa1 (qAh qAi rfl ml hAt (pa1 (pv 1))))))) (λC s H fp=>⟨qAw,qAg qCe qAb (pv 0)⟩) qHz.nd rfl (Or.inl rfl))
  (qAa (v4 3 qHz (qAv G1 hr2 rfl .nil pass0 (qAe (qAv G2 hr rfl .nil pass0 (qAe (qAv G3 hr3 rfl .nil pass0 (pa1 (pv 0))) (pa1 (pv 2)))) (pa1 (qAg qCr (qAg qCe qAb (qAh qAi rfl ml hAt (pa1 (pv 1)))) qAb)))))
  (qAa (qV5 (i:=4) (N:=prN) (sc:=qAc qD7) (N':=["kind","groups","names"]) (sub:=[none,none,some 1]) rfl rfl (CmpOk.of (by decide +kernel)) rfl (qAp (pv 3))
    (λC s H fp=>⟨(show PG _ _ (zBe K 2 _) from qB0 rfl (qAs (qAm (i:=0) (by show(["kind","groups","names"]:List Str).Nodup;decide) rfl (Or.inl rfl)) (qAs (qAm (i:=1) (by show(["kind","groups","names"]:List Str).Nodup;decide) rfl (Or.inl rfl)) qBc))),qAw,
     qA6 (qAe (pv 0) (pa1 (qG7 (N:=["kind","groups","names"]) (sc:=zCl _ (qAc qD7)) (N':=["group","names"]) (sub:=[none,some 2]) rfl rfl (CmpOk.of (by decide +kernel)) rfl (show PI _ _ _ (zBa K (qRe 1)) from qAp (pv 1))
      (λC s H fp=>⟨qAm (i:=0) (by show(["group","names"]:List Str).Nodup;decide) rfl (Or.inl rfl),qAw,qAv G4 hr1 rfl .nil pass0 (qAe (pv 1) (pa1 (pv 0)))⟩))))⟩) qHz.nd rfl (Or.inl rfl))
  (qAd (qAt (qNe (k:=0) (x:="part") (te:=tOp (qO2 K) (qRe 0) (tC (.int 1))) L hr2 rfl mso (pa1 (pv 4)) ⟨rfl,rfl,rfl,by decide +kernel,rfl,by decide +kernel,by decide +kernel⟩ rfl rfl (λ_ _ _ _ _ _=>rfl) (λ_ _ _ _ _ _=>qBh (show IxR _ (qO2 K) from qBq) (pv 0) qAb (λ_ _=>rfl)) (λa g k H Q h q=>⟨_,rfl,a,_,_,_,rfl,rfl,SqT.of h,(by exact qAy (j:=1) rfl),q⟩))))))),?_⟩
 obtain⟨ta,tb,hT,hn,hb⟩:=id ti;obtain⟨m,nm⟩:∃m,aA.length=m:=⟨_,rfl⟩;rw[nm]at n3 n12 q;refine⟨_,rfl,T,_,_,_,rfl,rfl,SqT.of hT,(by exact qAy (j:=0) rfl),?_⟩;have lnm:((aA.map V.str).length:Nat)=m:=by rw[hA1];exact nm
 refine⟨_,rfl,ta,_,rfl,.inl (SqL.of hn),_,rfl,hD7 _,by rw[lnm];omega,λrg hrg=>?_⟩;have n1:=Ext.new hrg (.rng 0 ((aA.map V.str).length:Int));refine⟨rg,(aA.map V.str).length,rfl,upd_same,by rw[lnm];omega,?_⟩;rw[lnm];have lg:=qBt m;refine qKx (hi:=((m:Nat):Int)-1) (n:=m) (λi ys H2=>upd H rg (.rng 0 ((m:Nat):Int))=H2/\ys=((singF m).take i).map iV) ⟨rfl,rfl⟩ ?_ ?_
 ·rintro i ys H2 hi ⟨rfl,rfl⟩;have hi':i<(singF m).length:=by rw[lg];exact hi
  refine⟨sls,iteT (B:=False) ⟨_,rfl,_,_,rfl,rfl,⟨by omega,by omega,by decide⟩,by rw[hA1,hAk];exact qAf (by omega),nxt hi ⟨rfl,?_⟩⟩⟩;rw[qAl (hA2 hi'),hA3];show _=_++[iV (singF m)[i]];have e:(1:Int)*2^(((m:Nat):Int)-1-(i:Nat)).toNat=(((singF m)[i]:Nat):Int):=by
   rw[show((m:Nat):Int)-1-(i:Nat)=((m-1-i:Nat):Int) by omega,qBr];have gi:=qFj hi;rw[hA2 hi']at gi;rw[hAq gi]
  rw[show iV (singF m)[i]=V.int ((1:Int)*2^(((m:Nat):Int)-1-(i:Nat)).toNat) from congrArg V.int e.symm]
 ·rintro ys H2 ⟨rfl,rfl⟩ si hsi;rw[show(singF m).take m=singF m from hA5 (by rw[lg];exact hAa _)];rw[lnm]at n1;have n2:=n1.trans (Ext.new hsi (.lst ((singF m).map iV)));have hsi':upd (upd H rg (.rng 0 ((m:Nat):Int))) si (.lst ((singF m).map iV)) si=some (.lst ((singF m).map iV)):=upd_same;revert n2 hsi';generalize upd (upd H rg (.rng 0 ((m:Nat):Int))) si (.lst ((singF m).map iV))=H2;intro n2 hsi';refine⟨_,rfl,T,aA,rows,rfl,ti.ext n2,lr,λst M H3 e3 st0 hM pM dM=>?_⟩;have E3:=n2.trans e3;rw[show M=dsF (rows.map (qB6 aA)) from qNu pM dM]at hM;have lS:=qWm (aA:=aA) rows;revert q hM lS;generalize hS:dsF (rows.map (qB6 aA))=S;intro q hM lS;have nz:∀s∈S,s≠0:=by rw[<-hS];exact zE0
  obtain⟨jok,ji,lpa⟩:=zA7 S n3 n12;refine⟨_,rfl,st,si,S,singF m,2^m-1,rfl,hM,e3 _ _ hsi',nz,by omega,qHx m,by rw[lg];exact n3,by rw[lg];exact n12,by rw[lg];omega,by omega,λL1 H4 e4 hL1=>?_⟩;have E4:=E3.trans e4;refine⟨_,rfl,ta,_,rfl,.inl (SqL.of (E4 _ _ hn)),_,_,rfl,rfl,⟨by rw[lnm];omega,by rw[lnm];omega,by decide⟩,_,_,rfl,rfl,?_⟩;have p1:=hCn (n:=m);have wh:(1:Int)*2^(((aA.map V.str).length:Nat):Int).toNat-1=(((2^m-1:Nat)):Int):=by
   rw[lnm,qBr];omega
  refine⟨L1,paF S 10 (singF m),2^m-1,m,(by show [V.ref L1,V.int ((1:Int)*2^(((aA.map V.str).length:Nat):Int).toNat-1)]=_;rw[wh]),hL1,ji,by omega,n12,by omega,λL2 H5 e5 hL2=>?_⟩;have E5:=E4.trans e5;obtain⟨js,hj,pj⟩:=hL2;have lj:=pj.length;have jl:=jok.ln;have jJ:joF (2^m-1) (paF S 10 (singF m))=jF m S:=rfl;rw[jJ]at pj lj;refine⟨_,rfl,L2,rfl,⟨_,SqL.of hj⟩,?_⟩;refine qAq (xs:=js.map V.ref) (λi ys H6=>Ext H5 H6/\∃Z:List Zt,ys=Z.map (λz=>V.ref z.1)/\Paired (PrZ H6 aA) Z ((jF m S).take i)/\NewZ H Z) ⟨Ext.refl _,[],rfl,.nil,⟨.nil,λx h=>by cases h⟩⟩ (λi ys H6 _ h=>SqL.of (h.1 _ _ hj)) ?_ ?_
  ·rintro i x ys H6 hx ⟨e6,Z,rfl,pt,nz⟩;obtain⟨a,rfl,ha⟩:=qA5 hx;obtain⟨e,he,g,hag,hg⟩:=qAr pj ha;have hi:=qAu ha;have l12:e.2.length<=12:=hAw ((jok.sh e (hAh he)).pt.len (n:=m) (by omega)) n12;refine⟨a,_,rfl,SqT.of (e6 _ _ hag),rfl,_,_,rfl,_,_,rfl,rfl,?_⟩;refine⟨Sle.set _ (sls) (λu z=>by cases z),iteT (B:=False) ?_⟩;refine⟨_,rfl,_,rfl,g,rfl,⟨_,SqL.of (e6 _ _ hg)⟩,?_⟩;refine qAq (xs:=e.2.map iV) (λj ys H7=>Ext H6 H7/\∃gs:List Addr,ys=gs.map V.ref/\Paired (λa r=>LsS H7 a r) gs ((e.2.take j).map (rowM aA))/\gs.Nodup/\∀g∈gs,H6 g=none) ⟨Ext.refl _,[],rfl,.nil,.nil,λg h=>by cases h⟩ (λj ys H7 _ h=>SqL.of (h.1 _ _ (e6 _ _ hg))) ?_ ?_
   ·rintro j v ys H7 hy ⟨e7,gs,rfl,pg,gnd,gfr⟩;obtain⟨x,rfl,hx'⟩:=qCj hy;have hj':=qAu hx';have lgs:=pg.length;rw[hA1,hAk]at lgs;have E7:=E5.trans (e6.trans e7);refine⟨sls,iteT (B:=False) ⟨_,rfl,_,rfl,ta,aA,x,rfl,E7 _ _ hn,by omega,λr H8 e8 r0 h8=>⟨by rw[hA1];exact qAf (by omega),nxt (qAu hy) ⟨e7.trans e8,gs++[r],by rw[hA3];rfl,?_,?_,?_⟩⟩⟩⟩
    ·rw[qAl hx',hA3];exact Paired.snoc (Paired.mapP pg λa t z=>e8 _ _ z) h8
    ·rw[hCl];refine⟨gnd,hBw _ _,λa ha b hb z=>?_⟩;rw[hA9]at hb;subst hb;obtain⟨q,_,hq⟩:=qC3 pg a ha;have hq:H7 a=some (.lst (q.map V.str)):=hq;rw[z,r0]at hq;cases hq
    ·intro g hg;rcases hAd.mp hg with z|z
     ·exact gfr g z
     ·rw[hA9.mp z];exact e7.none r0
   ·rintro ys H7 ⟨e7,gs,rfl,pg,gnd,gfr⟩ G hG;rw[hA1,hA5 (hAa _)]at pg;have E7:=E5.trans (e6.trans e7);have n8:=Ext.new hG (.lst (gs.map V.ref));have lts:=pt.length;rw[hAk]at lts;refine⟨(by show 2<=sizeLine;decide),λT' hT'=>?_⟩;have n9:=Ext.new hT' (.tup [V.str e.1,V.ref G]);have n79:=e7.trans (n8.trans n9);refine⟨by rw[hA1];exact qAf (by omega),nxt (qAu hx) ⟨e6.trans n79,Z++[(T',G,gs)],by rw[hA3];rfl,?_,?_⟩⟩
    ·rw[qAl he];exact Paired.snoc (Paired.mapP pt λa u y=>y.ext n79) ⟨upd_same,n9 _ _ upd_same,Paired.mapP pg λa t z=>(n8.trans n9) _ _ z⟩
    ·have fresh:∀x∈G :: gs,H6 x=none:=λx hx=>by
      rcases hAg.mp hx with q|q
      ·rw[q];exact e7.none hG
      ·exact gfr x q
     refine⟨?_,λx hx=>?_⟩
     ·rw[qQb,hCl];refine⟨nz.nd,hBe.mpr ⟨λq=>?_,gnd⟩,λa ha b hb z=>?_⟩
      ·obtain⟨u,_,hu⟩:=qC3 pg G q;have hu:H7 G=some (.lst (u.map V.str)):=hu;rw[hG]at hu;cases hu
      ·exact qUr pt a ha (by rw[z];exact fresh b hb)
     ·rw[qQb]at hx;rcases hAd.mp hx with q|q
      ·exact nz.fr x q
      ·exact(E5.trans e6).none (fresh x q)
  ·rintro ys H6 ⟨e6,Z,rfl,pt,nz⟩ to hto;rw[hA1,hA5 (by omega)]at pt;have lts:=pt.length;have eZ:(Z.map λz=>V.ref z.1)=(Z.map (·.1)).map V.ref:=by rw[hB6];rfl
   rw[eZ];have n7:=Ext.new hto (.lst ((Z.map (·.1)).map V.ref));have E7:=E5.trans (e6.trans n7);have tw7:=My.TabW.extE tw E7;have pt7:Paired (PrZ (upd H6 to (.lst ((Z.map (·.1)).map V.ref))) aA) Z (jF m S):=Paired.mapP pt λa u y=>y.ext n7
   have ad7:=qUr pt7;obtain⟨ks,hks1,hks2,hks3⟩:∃ks:List Pk,(ks.map λp=>p.1)=Z.map (·.1)/\(ks.map λp=>p.2.2)=keyJ aA (jF m S)/\∀x∈ks,zBx K (upd H6 to (.lst ((Z.map (·.1)).map V.ref))) x:=by
    clear lts tw7 E7 pt q n7 hto eZ nz ad7;revert pt7;unfold keyJ;generalize jF m S=J;generalize (upd H6 to (.lst ((Z.map (·.1)).map V.ref)))=H7;intro pt7
    induction pt7 with
    |nil=>exact⟨[],rfl,rfl,λx h=>by cases h⟩
    |@cons zz ee l1 l2 h t ih =>
     obtain⟨ks,k1,k2,k3⟩:=ih;obtain⟨z1,z2,z3⟩:=h;refine⟨(zz.1,zz.2.1,ee.2.map (rowM aA)) :: ks,by rw[hBj,hBj,k1],by rw[hBj,k2];rfl,λx hx=>?_⟩;rcases hAg.mp hx with z|z
     ·rw[z];exact⟨_,z1,_,z2,z3⟩
     ·exact k3 x z
   have lks:ks.length=(jF m S).length:=by have:=congrArg List.length hks2;unfold keyJ at this;rw[hA1,hA1]at this;exact this
   refine⟨_,rfl,to,ks,rfl,?_,hks3,by omega,tw7,λr H8 r0 eB hr8 pm tw8=>?_⟩
   ·rw[show(ks.map λp=>V.ref p.1)=(Z.map (·.1)).map V.ref by rw[<-hks1,hB6];rfl];exact SqL.of upd_same
   ·obtain⟨ps,hP⟩:=My.TabW.tb tw7;have ne:∀ {a:Addr} {o:HO},upd H6 to (.lst ((Z.map (·.1)).map V.ref)) a=some o->(∀ps,o≠.tbl ps)->H8 a=some o:=λ{a o} h n=>eB _ _ (λz=>by
     rw[z,hP]at h;exact n _ (hAq h).symm) h
    have el:ltP ks=ltJ aA (jF m S):=by
     funext i j
     unfold ltP ltJ;rw[hks2]
    have pt8:Paired (PrZ H8 aA) Z (jF m S):=Paired.mapP pt7 λa u ⟨z1,z2,z3⟩=>⟨ne z1 (λ_ z=>by cases z),ne z2 (λ_ z=>by cases z),Paired.mapP z3 λa t y=>ne y (λ_ z=>by cases z)⟩
    rw[el,lks]at pm;have lZ:Z.length=(jF m S).length:=pt8.length;have pz:((qHu (jF m S).length (ltJ aA (jF m S))).map λi=>Z.getD i (0,0,[])).Perm Z:=by
     have q:=pm.map λi=>Z.getD i (0,0,[])
     refine q.trans (hDg ?_);rw[<-lZ];refine hCs λi=>?_
     by_cases hi:i<Z.length
     ·rw[hAi,hCq hi,hA2 hi];show some (Z.getD i _)=_;rw[hA7,hA2 hi];rfl
     ·rw[hB7 (by simp;omega),hB7 (by omega)]
    refine q r ((qHu (jF m S).length (ltJ aA (jF m S))).map λi=>Z.getD i (0,0,[])) H8 (E7.toB.trans eB) (E7.none r0) ?_ ?_ ⟨(qKu pz).symm.nodup nz.nd,λx hx=>nz.fr x ((qKu pz).mem_iff.mp hx)⟩ (λx=>ad7 r ((qKu pz).mem_iff.mp x) r0) tw8
    ·rw[hr8];unfold qQ1;rw[el,lks,hks1,hB6,hB6];congr 2;refine hBs λi hi=>?_
     have hi':i<Z.length:=by rw[lZ];exact hAy.mp (pm.mem_iff.mp hi)
     show V.ref ((Z.map (·.1)).getD i 0)=V.ref (Z.getD i (0,0,[])).1;rw[hA7,hA7,hAi,hA2 hi'];rfl
    ·unfold srtL;exact qE7 λi hi=>qE8 pt8 (by rw[lZ];exact hAy.mp (pm.mem_iff.mp hi))
end
theorem qCw(a b x:Nat):(a^^^b)&&&x=(a&&&x)^^^(b&&&x):=hAl λi=>by
 simp only[hAv,hAo];cases a.testBit i <;> cases b.testBit i <;> cases x.testBit i <;> rfl
theorem qT5:Spn (S.map λz=>z&&&x) u↔∃z,Spn S z/\z&&&x=u:=by
 constructor
 ·intro h
  induction h with
  |zero=>exact⟨0,.zero,Nat.zero_and x⟩
  |add hm _ ih =>
   obtain⟨z,h1,h2⟩:=ih;obtain⟨s,hs,rfl⟩:=hAb.mp hm;exact⟨s^^^z,.add hs h1,by rw[qCw,h2]⟩
 ·rintro⟨z,h,rfl⟩
  induction h with
  |zero=>rw[Nat.zero_and];exact .zero
  |add hm _ ih =>
   rw[qCw];exact .add (hB3 (f:=λz=>z&&&x) hm) ih
theorem qKo:Spn ((sumF S).filter λz=>decide (z&&&x=0)) k↔Spn S k/\k&&&x=0:=by
 constructor
 ·intro h
  induction h with
  |zero=>exact⟨.zero,Nat.zero_and x⟩
  |add hm _ ih =>
   obtain⟨h1,h2⟩:=hAj.mp hm;refine⟨Spn.xor ((qBe S _).mp h1) ih.1,?_⟩;rw[qCw,hEl h2,ih.2];rfl
 ·rintro⟨h1,h2⟩;exact .mem (hAj.mpr ⟨(qBe S k).mpr h1,hEi h2⟩)
theorem qPw{α β:Type}{g:α->List β}{c:Nat}:∀ {l:List α},(∀a∈l,(g a).length=c)->(l.flatMap g).length=l.length*c
 |[],_=>by simp
 |a :: l,h=>by
  rw[List.flatMap_cons,hAc,h a hA6,qPw λb hb=>h b (hA4 _ hb),hCb,Nat.succ_mul];omega
theorem qSj{S:List Nat}(r:RR S)(x:Nat):(red (S.map λz=>z&&&x)).length+(red ((sumF S).filter λz=>decide (z&&&x=0))).length=S.length:=by
 have nR:=qEz _ (qCi (S.map λz=>z&&&x));have nK:=qEz _ (qCi ((sumF S).filter λz=>decide (z&&&x=0)));have nS:=qEz _ r;have mR:∀u,u∈sumF (red (S.map λz=>z&&&x))↔∃z,Spn S z/\z&&&x=u:=λu=>(qBe _ u).trans ((qBs _ u).trans qT5)
 have mK:∀k,k∈sumF (red ((sumF S).filter λz=>decide (z&&&x=0)))↔Spn S k/\k&&&x=0:=λk=>(qBe _ k).trans ((qBs _ k).trans qKo)
 have lR:=qCz (red (S.map λz=>z&&&x));have lK:=qCz (red ((sumF S).filter λz=>decide (z&&&x=0)));have lS:=qCz S;revert nR nK mR mK lR lK;generalize sumF (red (S.map λz=>z&&&x))=A;generalize sumF (red ((sumF S).filter λz=>decide (z&&&x=0)))=B;intro nR nK mR mK lR lK;have ch:∃p:Nat->Nat,∀u∈A,Spn S (p u)/\p u&&&x=u:=by
  refine⟨λu=>Classical.epsilon λz=>Spn S z/\z&&&x=u,λu hu=>?_⟩;exact Classical.epsilon_spec ((mR u).mp hu)
 obtain⟨p,hp⟩:=ch;have perm:(A.flatMap λu=>B.map λk=>p u^^^k).Perm (sumF S):=by
  refine(hBq ?_ nS).mpr λz=>?_
  ·refine List.pairwise_flatMap.mpr ⟨λu hu=>?_,?_⟩
   ·refine hBb.mpr (nK.imp λ{a b} ne e=>ne ?_);have:=congrArg (λz=>p u^^^z) e;simp only[<-hBu,hC1,hCg]at this;exact this
   ·have:A.Pairwise λa b=>a∈A/\b∈A/\a≠b:=by
     refine hBp (λ{a b} ha hb ne=>⟨ha,hb,ne⟩) nR
    refine this.imp λ{u v} h c hc d hd e=>h.2.2 ?_
    obtain⟨k,hk,rfl⟩:=hAb.mp hc;obtain⟨k',hk',rfl⟩:=hAb.mp hd;have:=congrArg (λz=>z&&&x) e;simp only[qCw,(hp u h.1).2,(hp v h.2.1).2,((mK k).mp hk).2,((mK k').mp hk').2,Nat.xor_zero]at this;exact this
  ·rw[hDm,qBe];constructor
   ·rintro⟨u,hu,hz⟩;obtain⟨k,hk,rfl⟩:=hAb.mp hz;exact Spn.xor (hp u hu).1 ((mK k).mp hk).1
   ·intro hz;have hu:z&&&x∈A:=(mR _).mpr ⟨z,hz,rfl⟩;refine⟨_,hu,hAb.mpr ⟨p (z&&&x)^^^z,(mK _).mpr ⟨Spn.xor (hp _ hu).1 hz,?_⟩,?_⟩⟩
    ·rw[qCw,(hp _ hu).2,hC1]
    ·rw[<-hBu,hC1,hCg]
 have:=perm.length_eq;rw[qPw (c:=B.length) (λa _=>hA1 _),lR,lK,lS,<-Nat.pow_add]at this;exact hDi ((hDw (by decide)).mp (Nat.le_of_eq this)) ((hDw (by decide)).mp (Nat.le_of_eq this.symm))
noncomputable def dm(xs:List Nat):Nat:=(red xs).length
theorem qEq(h:∀z∈a,Spn b z):dm a<=dm b:=qVu (qCi a) (qCi b) λz hz=>(qBs b z).mpr (Spn.mono h ((qBs a z).mp (.mem hz)))
theorem qFc(xs:List Nat)(e:Nat):(Spn xs e->dm (xs++[e])=dm xs)/\(¬Spn xs e->dm (xs++[e])=dm xs+1):=by
 have rr:=qCi xs;have key:red1 (red xs) e=0↔Spn xs e:=⟨λz=>by
  have:=qEk (red xs) (red xs) (λs h=>h) e;rw[z,hCg]at this;exact(qBs xs e).mp this,λh=>qN8 rr ((qBs xs e).mpr h)⟩
 unfold dm;rw[qEj];unfold qQr;refine⟨λh=>by rw[hEn (key.mpr h)],λh=>?_⟩;rw[hEm (λz=>h (key.mp z)),hAc,hA1];rfl
theorem zBl(r:RR S):dm S=S.length:=hDi (qVu (qCi S) r λz hz=>(qBs S z).mp (.mem hz)) (qVu r (qCi S) λz hz=>(qBs S z).mpr (.mem hz))
noncomputable def kr(S:List Nat)(x:Nat):List Nat:=red ((sumF S).filter λz=>decide (z&&&x=0))
theorem qBv:Spn (kr S x) k↔Spn S k/\k&&&x=0:=(qBs _ k).trans qKo
theorem zEu(S:List Nat)(x:Nat):RR (kr S x):=qCi _
theorem qNl(S:List Nat)(x:Nat):dm (kr S x)=(kr S x).length:=zBl (zEu S x)
def Prt(S:List Nat)(x:Nat):Prop:=∃e0,Spn S e0/\¬Spn S (e0&&&x)/\∀e,Spn S e->Spn S (e&&&x)\/Spn S ((e^^^e0)&&&x)
theorem qGa(he:e<2^m):e=(e&&&x)^^^(e&&&((2^m-1)^^^x)):=hAl λi=>by
 rw[hAo,hAv,hAv,hAo,hBz];by_cases c:i<m
 ·rw[hEi c];cases e.testBit i <;> cases x.testBit i <;> rfl
 ·rw[qDs he (by omega)];rfl
theorem qGt(he:e<2^m):e&&&((2^m-1)^^^x)=0↔e&&&x=e:=by
 have h:=qGa (x:=x) he;constructor
 ·intro z;rw[z,Nat.xor_zero]at h;exact h.symm
 ·intro z;rw[z]at h;have:=congrArg (λy=>e^^^y) h;simp only[hC1]at this;rw[<-hBu,hC1,hCg]at this;exact this.symm
section
variable{S:List Nat}{m:Nat}
theorem qK0(lt:∀s∈S,s<2^m)(x e:Nat):Spn (kr S x++kr S ((2^m-1)^^^x)) e↔Spn S e/\Spn S (e&&&x):=by
 constructor
 ·intro h;obtain⟨a,b,ha,hb,rfl⟩:=qI3 h;obtain⟨a1,a2⟩:=qBv.mp ha;obtain⟨b1,b2⟩:=qBv.mp hb;have b3:=(qGt (Spn.lt lt b1)).mp b2;refine⟨a1.xor b1,?_⟩;rw[qCw,a2,b3,hCg];exact b1
 ·rintro⟨h1,h2⟩;have lt1:=Spn.lt lt h1;have e1:Spn S (e&&&((2^m-1)^^^x)):=by
   have:=h1.xor h2;rw[show e^^^(e&&&x)=e&&&((2^m-1)^^^x) by
    have h:=qGa (x:=x) lt1
    conv=>lhs;lhs;rw[h]
    rw[hDf (e&&&x),hBu,hC1,Nat.xor_zero]]at this
   exact this
  rw[qGa (x:=x) lt1];refine Spn.xor (Spn.mono (λz hz=>.mem (hA8 _ hz)) (qBv.mpr ⟨h2,?_⟩)) (Spn.mono (λz hz=>.mem (hAe _ hz)) (qBv.mpr ⟨e1,?_⟩))
  ·exact(qGt (Spn.lt lt h2)).mpr (by rw[Nat.and_assoc,Nat.and_self])
  ·rw[Nat.and_assoc,Nat.and_comm _ x];refine hAl λi=>?_
   rw[hAv,hAv,hAo,hBz,hBl];by_cases c:i<m
   ·rw[hEi c];cases e.testBit i <;> cases x.testBit i <;> rfl
   ·rw[qDs lt1 (by omega)];rfl
theorem qU8(lt:∀s∈S,s<2^m)(x:Nat):dm (kr S x++kr S ((2^m-1)^^^x))=(kr S x).length+(kr S ((2^m-1)^^^x)).length:=by
 have sp:=qK0 lt x;revert sp;have lA:∀z∈kr S x++kr S ((2^m-1)^^^x),z<2^m:=λz hz=>by
  rcases hAd.mp hz with h|h
  ·exact Spn.lt lt (qBv.mp (.mem h)).1
  ·exact Spn.lt lt (qBv.mp (.mem h)).1
 generalize kr S x++kr S ((2^m-1)^^^x)=A at lA;intro sp;have rn:=qSj (qCi A) x;have r1:(red ((red A).map λz=>z&&&x)).length=(kr S ((2^m-1)^^^x)).length:=by
  rw[<-qNl];refine hDi (qEq λz hz=>?_) (qEq λz hz=>?_)
  ·obtain⟨e,he,rfl⟩:=hAb.mp hz;obtain⟨e1,e2⟩:=(sp e).mp ((qBs A e).mp (.mem he));exact qBv.mpr ⟨e2,(qGt (Spn.lt lt e2)).mpr (by rw[Nat.and_assoc,Nat.and_self])⟩
  ·obtain⟨h1,h2⟩:=qBv.mp (.mem hz);have h3:=(qGt (Spn.lt lt h1)).mp h2;exact qT5.mpr ⟨z,(qBs A z).mpr ((sp z).mpr ⟨h1,by rw[h3];exact h1⟩),h3⟩
 have r2:(red ((sumF (red A)).filter λz=>decide (z&&&x=0))).length=(kr S x).length:=by
  rw[<-qNl];refine hDi (qEq λz hz=>?_) (qEq λz hz=>?_)
  ·obtain⟨h1,h2⟩:=qKo.mp (.mem hz);exact qBv.mpr ⟨((sp z).mp ((qBs A z).mp h1)).1,h2⟩
  ·obtain⟨h1,h2⟩:=qBv.mp (.mem hz);exact qKo.mpr ⟨(qBs A z).mpr ((sp z).mpr ⟨h1,by rw[h2];exact .zero⟩),h2⟩
 have e:dm A=(red A).length:=rfl;omega
theorem qX3(r:RR S)(lt:∀s∈S,s<2^m)(x:Nat):Prt S x↔(kr S x).length+(kr S ((2^m-1)^^^x)).length+1=S.length:=by
 have sp:=qK0 lt x;rw[<-qU8 lt x];revert sp;have inn:∀z∈kr S x++kr S ((2^m-1)^^^x),Spn S z:=λz hz=>by
  rcases hAd.mp hz with h|h
  ·exact(qBv.mp (.mem h)).1
  ·exact(qBv.mp (.mem h)).1
 generalize kr S x++kr S ((2^m-1)^^^x)=A at inn;intro sp;rw[<-zBl r];constructor
 ·rintro⟨e0,h0,h1,h2⟩;have n0:¬Spn A e0:=λz=>h1 ((sp e0).mp z).2
  rw[<-(qFc A e0).2 n0];refine hDi (qEq λz hz=>?_) (qEq λz hz=>?_)
  ·rcases hAd.mp hz with q|q
   ·exact inn z q
   ·rw[hA9.mp q];exact h0
  ·rcases h2 z (.mem hz) with q|q
   ·exact Spn.mono (λy hy=>.mem (hAe _ hy)) ((sp z).mpr ⟨.mem hz,q⟩)
   ·refine qDt.mpr (.inr ((sp _).mpr ⟨Spn.xor (.mem hz) h0,q⟩))
 ·intro d;have ex:∃e0,e0∈S/\¬Spn A e0:=by
   refine hD4 λno=>?_
   have:dm S<=dm A:=qEq λz hz=>hD4 λq=>no ⟨z,hz,q⟩
   omega
  obtain⟨e0,h0,n0⟩:=ex;refine⟨e0,.mem h0,λz=>n0 ((sp e0).mpr ⟨.mem h0,z⟩),λe he=>?_⟩;have d2:=(qFc A e0).2 n0;have q:Spn (A++[e0]) e:=hD4 λq=>by
   have d3:=(qFc (A++[e0]) e).2 q;have d4:dm (A++[e0]++[e])<=dm S:=qEq λz hz=>by
    rcases hAd.mp hz with y|y
    ·rcases hAd.mp y with u|u
     ·exact inn z u
     ·rw[hA9.mp u];exact .mem h0
    ·rw[hA9.mp y];exact he
   omega
  rcases qDt.mp q with u|u
  ·exact .inl ((sp e).mp u).2
  ·exact .inr ((sp _).mp u).2
theorem qP5(S:List Nat)(i k:Nat):(qHp S i).testBit k=decide (k<S.length/\(S.getD k 0).testBit i=true):=by
 have e:∀l:List Nat,l.filterMap (fC S i)=(l.filter λk=>(S.getD k 0).testBit i).map λk=>2^k:=by
  intro l
  induction l with
  |nil=>rfl
  |cons a l ih =>
   rw[hBr,List.filter_cons,ih];unfold fC;cases(S.getD a 0).testBit i <;> rfl
 unfold qHp;rw[e,qJs _ (hEf.filter _)];exact decide_eq_decide.mpr (by rw[hAj,hAy])
theorem zBn(S:List Nat)(i:Nat):qHp S i<2^S.length:=hBx _ λj hj=>by
 rw[qP5,hEj (λz=>by omega)]
theorem zF4(h:Spn S z):∃c,∀i,z.testBit i=dot S.length c (qHp S i):=by
 induction h with
 |zero=>exact⟨0,λi=>by rw[hBl,qW0]⟩
 |add hm _ ih =>
  obtain⟨c,hc⟩:=ih;obtain⟨k,hk,rfl⟩:=hEc.mp hm;refine⟨2^k^^^c,λi=>?_⟩;rw[hAo,qW1,<-hc,zBk hk,qP5];congr 1;have g:S.getD k 0=S[k]:=by rw[hA7,hA2 hk];rfl
  rw[g];cases q:S[k].testBit i with
  |true=>exact(hEi ⟨hk,rfl⟩).symm
  |false=>exact(hEj λz=>by cases z.2).symm
structure FE(B:List Nat):Prop where
 nz:∀s∈B,s≠0
 ap:B.Pairwise λs t=>t.testBit s.log2=false
theorem FE.nil:FE []:=⟨λs h=>(by cases h),.nil⟩
theorem FE.mem:∀ {B:List Nat},FE B->∀s∈B,red1 B s=0
 |b :: B,h,s,hs=>by
  obtain⟨h1,h2⟩:=hAr.mp h.ap;have tl:FE B:=⟨λt ht=>h.nz t (hA4 _ ht),h2⟩;show red1 B (rd1 s b)=0;rcases hAg.mp hs with z|z
  ·rw[z];have:rd1 b b=0:=by unfold rd1;rw[hEn (hBt (h.nz b hA6)),hC1]
   rw[this,qEa]
  ·have:rd1 s b=s:=by unfold rd1;rw[hEm (by rw[h1 s z];decide)]
   rw[this];exact tl.mem s z
theorem FE.spn(h:FE B)(hy:Spn B y):red1 B y=0:=by
 induction hy with
 |zero=>exact qEa _
 |add hm _ ih=>rw[qKc,h.mem _ hm,ih];rfl
theorem FE.iff(h:FE B)(c:Nat):red1 B c=0↔Spn B c:=⟨λz=>by
 have:=qEk B B (λs h=>h) c;rw[z,hCg]at this;exact this,h.spn⟩
theorem FE.lead:∀ {B:List Nat},FE B->∀x,∀s∈B,(red1 B x).testBit s.log2=false
 |b :: B,h,x,s,hs=>by
  obtain⟨h1,h2⟩:=hAr.mp h.ap;have tl:FE B:=⟨λt ht=>h.nz t (hA4 _ ht),h2⟩;show(red1 B (rd1 x b)).testBit s.log2=false;rcases hAg.mp hs with z|z
  ·rw[z];have b0:(rd1 x b).testBit b.log2=false:=by
    rw[qCv,hBt (h.nz b hA6)];cases x.testBit b.log2 <;> rfl
   have:∀(B:List Nat),(∀t∈B,t.testBit b.log2=false)->∀y:Nat,y.testBit b.log2=false->(red1 B y).testBit b.log2=false:=by
    intro B
    induction B with
    |nil=>intro _ y hy;exact hy
    |cons t B ih =>
     intro ht y hy;refine ih (λu hu=>ht u (hA4 _ hu)) (rd1 y t) ?_;rw[qCv,hy,ht t hA6,hE3];rfl
   exact this B h1 _ b0
  ·exact tl.lead _ s z
theorem FE.gro(h:FE B)(c:Nat):FE (gro B c):=by
 unfold My.gro;split
 ·exact h
 ·rename_i n;refine⟨λs hs=>?_,hBc.mpr ⟨h.ap,hBw _ _,λs hs t ht=>?_⟩⟩
  ·rcases hAd.mp hs with z|z
   ·exact h.nz s z
   ·rw[hA9.mp z];exact n
  ·rw[hA9.mp ht];exact h.lead c s hs
theorem zBc(c y:Nat):Spn (gro B c) y↔Spn (B++[c]) y:=by
 have k:=qEk B B (λs h=>h) c;unfold gro;split
 ·rename_i z;rw[z,hCg]at k;exact⟨Spn.mono λx hx=>.mem (hAe _ hx),Spn.mono λx hx=>by
   rcases hAd.mp hx with q|q
   ·exact .mem q
   ·rw[hA9.mp q];exact k⟩
 ·have up:∀ {l:List Nat} {y:Nat},Spn B y->Spn (B++l) y:=λh=>Spn.mono (λx hx=>.mem (hAe _ hx)) h
  constructor <;> refine Spn.mono λx hx=>?_
  ·rcases hAd.mp hx with q|q
   ·exact .mem (hAe _ q)
   ·rw[hA9.mp q];have:=(up (l:=[c]) k).xor (.mem (hA8 _ (hA9.mpr rfl)));rw[qA1]at this;exact this
  ·rcases hAd.mp hx with q|q
   ·exact .mem (hAe _ q)
   ·rw[hA9.mp q];have:=(up (l:=[red1 B c]) k).xor (.mem (hA8 _ (hA9.mpr rfl)));rw[hDf (red1 B c) c,qA1]at this;exact this
theorem FE.len(h:FE B)(lt:∀s∈B,s<2^d):B.length<=d:=by
 have nd:(B.map Nat.log2).Nodup:=by
  rw[List.Nodup,hBb];refine hBp (λ{a b} ha hb n e=>?_) h.ap;rw[e,hBt (h.nz b hb)]at n;cases n
 have:=qPi nd (m:=d) λx hx=>by
  obtain⟨s,hs,rfl⟩:=hAb.mp hx;exact(hEg (h.nz s hs)).mpr (lt s hs)
 rw[hA1]at this;exact this
noncomputable def bC(S cs:List Nat):List Nat:=cs.foldl (λB j=>gro B (qHp S j)) []
theorem qN0(S cs:List Nat)(j:Nat):bC S (cs++[j])=gro (bC S cs) (qHp S j):=by unfold bC;rw[hBm];rfl
theorem zDx(S cs:List Nat):FE (bC S cs)/\(∀y,Spn (bC S cs) y↔Spn (cs.map (qHp S)) y):=by
 refine qFh (P:=λcs=>FE (bC S cs)/\∀y,Spn (bC S cs) y↔Spn (cs.map (qHp S)) y) ⟨FE.nil,λy=>Iff.rfl⟩ (λl t ih=>?_) cs;rw[qN0];refine⟨ih.1.gro _,λy=>?_⟩;rw[zBc,hA3];show Spn (bC S l++[qHp S t]) y↔Spn (l.map (qHp S)++[qHp S t]) y;rw[qDt,qDt,ih.2,ih.2]
noncomputable def mC(cs:List Nat):Nat:=cs.foldl (λx j=>x ||| 2^j) 0
theorem qLp(cs:List Nat)(i:Nat):(mC cs).testBit i=decide (i∈cs):=by
 refine qFh (P:=λcs=>(mC cs).testBit i=decide (i∈cs)) (by show Nat.testBit 0 i=_;rw[hBl];rfl) (λl t ih=>?_) cs;have:mC (l++[t])=mC l ||| 2^t:=by unfold mC;rw[hBm];rfl
 rw[this,hCk,ih,hB4];by_cases h1:i∈l
 ·rw[hEi h1,hEi (hAe _ h1)];rfl
 ·by_cases h2:t=i
  ·rw[hEi h2,hEi (hA8 _ (hA9.mpr h2.symm))];cases decide (i∈l) <;> rfl
  ·rw[hEj h1,hEj h2,hEj (λz=>by
    rcases hAd.mp z with q|q
    ·exact h1 q
    ·exact h2 (hA9.mp q).symm)];rfl
theorem and_zero:z&&&x=0↔∀i,z.testBit i=true->x.testBit i=false:=by
 constructor
 ·intro h i hi;have:=congrArg (λy:Nat=>y.testBit i) h;simp only[hAv,hBl,hi,hCv]at this;exact this
 ·intro h;refine hAl λi=>?_
  rw[hAv,hBl];cases q:z.testBit i with
  |false=>rfl
  |true=>rw[h i q];rfl
theorem qQz(S cs:List Nat)(j:Nat):(kr S (mC cs)).length+(bC S cs).length<=(kr S (mC (cs++[j]))).length+(bC S (cs++[j])).length:=by
 obtain⟨fe,sp⟩:=zDx S cs;have mz:∀z,z&&&mC cs=0->z.testBit j=false->z&&&mC (cs++[j])=0:=λz h hj=>and_zero.mpr λi hi=>by
  rw[qLp];refine hEj λq=>?_
  rcases hAd.mp q with q|q
  ·have:=and_zero.mp h i hi;rw[qLp,hEi q]at this;cases this
  ·rw[hA9.mp q,hj]at hi;cases hi
 rw[<-qNl,<-qNl,qN0];by_cases c:Spn (bC S cs) (qHp S j)
 ·have e:gro (bC S cs) (qHp S j)=bC S cs:=hEn ((fe.iff _).mpr c);rw[e];refine Nat.add_le_add_right (qEq λz hz=>?_) _;obtain⟨h1,h2⟩:=qBv.mp (.mem hz);refine qBv.mpr ⟨h1,mz z h2 ?_⟩;obtain⟨k,hk⟩:=zF4 h1;rw[hk];refine qY8 (l:=cs.map (qHp S)) (λs hs=>?_) ((sp _).mp c);obtain⟨i,hi,rfl⟩:=hAb.mp hs;rw[<-hk];cases q:z.testBit i with
  |false=>rfl
  |true =>
   have:=and_zero.mp h2 i q;rw[qLp,hEi hi]at this;cases this
 ·have e:(gro (bC S cs) (qHp S j)).length=(bC S cs).length+1:=by
   unfold gro;rw[hEm (λz=>c ((fe.iff _).mp z)),hAc];rfl
  rw[e];have:dm (kr S (mC cs))<=dm (kr S (mC (cs++[j])))+1:=by
   by_cases ex:∃s,Spn S s/\s&&&mC cs=0/\s.testBit j=true
   ·obtain⟨s,h1,h2,h3⟩:=ex;refine hAw (qEq (b:=kr S (mC (cs++[j]))++[s]) λz hz=>?_) ?_
    ·obtain⟨k1,k2⟩:=qBv.mp (.mem hz);cases q:z.testBit j with
     |false=>exact qDt.mpr (.inl (qBv.mpr ⟨k1,mz z k2 q⟩))
     |true=>exact qDt.mpr (.inr (qBv.mpr ⟨k1.xor h1,mz _ (by rw[qCw,k2,h2];rfl) (by rw[hAo,q,h3];rfl)⟩))
    ·by_cases q:Spn (kr S (mC (cs++[j]))) s
     ·rw[(qFc _ s).1 q];omega
     ·rw[(qFc _ s).2 q];exact hAa _
   ·refine hEa (qEq λz hz=>?_);obtain⟨k1,k2⟩:=qBv.mp (.mem hz);refine qBv.mpr ⟨k1,mz z k2 ?_⟩;cases q:z.testBit j with
    |false=>rfl
    |true=>exact absurd ⟨z,k1,k2,q⟩ ex
  omega
theorem qJm(S cs:List Nat):∀ds:List Nat,(kr S (mC cs)).length+(bC S cs).length<=(kr S (mC (cs++ds))).length+(bC S (cs++ds)).length:=by
 intro ds;refine qFh (P:=λds=>(kr S (mC cs)).length+(bC S cs).length<=(kr S (mC (cs++ds))).length+(bC S (cs++ds)).length) (by rw[hC8];exact hAa _) (λl t ih=>?_) ds;rw[<-List.append_assoc];exact hAw ih (qQz S (cs++l) t)
theorem qW4(r:RR S)(lt:∀s∈S,s<2^m)(cs:List Nat):(kr S (mC cs)).length+(bC S cs).length=S.length:=by
 have h1:=qJm S [] cs;have h2:=qJm S cs (List.range m);have z1:(kr S (mC [])).length=S.length:=by
  rw[<-qNl,<-zBl r];refine hDi (qEq λz hz=>(qBv.mp (.mem hz)).1) (qEq λz hz=>qBv.mpr ⟨.mem hz,by show z&&&0=0;exact Nat.and_zero _⟩)
 have z2:(kr S (mC (cs++List.range m))).length=0:=by
  rw[<-qNl];have:dm (kr S (mC (cs++List.range m)))<=dm []:=qEq λz hz=>by
   obtain⟨k1,k2⟩:=qBv.mp (.mem hz);have:z=0:=hAl λi=>by
    rw[hBl];cases q:z.testBit i with
    |false=>rfl
    |true =>
     have:=and_zero.mp k2 i q;rw[qLp]at this;have hi:i<m:=by
      by_cases c:i<m
      ·exact c
      ·rw[qDs (Spn.lt lt k1) (by omega)]at q;cases q
     rw[hEi (hA8 _ (hAy.mpr hi))]at this;cases this
   rw[this];exact .zero
  exact Nat.le_zero.mp this
 have b2:(bC S (cs++List.range m)).length<=S.length:=by
  obtain⟨fe,sp⟩:=zDx S (cs++List.range m);refine fe.len λs hs=>?_
  refine Spn.lt (l:=(cs++List.range m).map (qHp S)) (λx hx=>?_) ((sp s).mp (.mem hs));obtain⟨i,_,rfl⟩:=hAb.mp hx;exact zBn S i
 have b0:(bC S []).length=0:=rfl;rw[List.nil_append]at h1;omega
noncomputable def zBw(m x:Nat):List Nat:=(List.range m).filter λi=>x.testBit i
theorem qUh(S:List Nat):∀(m x:Nat),x<2^m->(bsF S m).getD x []=bC S (zBw m x)
 |0,x,h=>by
  have:x=0:=by omega
  subst this;rfl
 |m+1,x,h=>by
  have l:=(qMd S m).2;show(bsF S m++(bsF S m).map λB=>gro B (qHp S m)).getD x []=_;unfold zBw;rw[hCf,hCe];by_cases c:x<2^m
  ·rw[hA7,hD1 (by rw[l];exact c),<-hA7,qUh S m x c];have:x.testBit m=false:=qDs c (hAa _);rw[hE0 (by rw[this];decide),List.filter_nil,hC8];rfl
  ·have b:x.testBit m=true:=by
    rw[hCy];have:x / 2^m=1:=Nat.div_eq_of_lt_le (by omega) (by rw[hDp]at h;omega);rw[this];rfl
   have xs:x-2^m<2^m:=by rw[hDp]at h;omega
   rw[hDz (by rw[b]),List.filter_nil,qN0];rw[hA7,hDk (by rw[l];omega),l,hAi];have g:(bsF S m)[x-2^m]?=some ((bsF S m).getD (x-2^m) []):=by
    rw[hA7,hA2 (by rw[l];exact xs)];rfl
   rw[g,qUh S m _ xs];show gro (bC S (zBw m (x-2^m))) (qHp S m)=_;congr 2;refine List.filter_congr λi hi=>?_
   have hi':=hAy.mp hi;rw[show x=2^m+(x-2^m) by omega,Nat.testBit_two_pow_add_gt hi'];rw[show 2^m+(x-2^m)-2^m=x-2^m by omega]
theorem zA0(h:x<2^m):mC (zBw m x)=x:=hAl λi=>by
 rw[qLp];unfold zBw;by_cases c:i<m
 ·cases q:x.testBit i with
  |true=>exact hEi (hAj.mpr ⟨hAy.mpr c,q⟩)
  |false=>exact hEj λz=>by rw[(hAj.mp z).2]at q;cases q
 ·rw[qDs h (by omega)];exact hEj λz=>c (hAy.mp (hAj.mp z).1)
theorem qXb(r:RR S)(lt:∀s∈S,s<2^m)(hx:x<2^m):(wF m S).getD x 0+(kr S x).length=S.length:=by
 have h:=qW4 r lt (zBw m x);rw[zA0 hx,<-qUh S m x hx]at h;have:(wF m S).getD x 0=((bsF S m).getD x []).length:=by
  unfold wF;rw[hA7,hA7,hAi];cases(bsF S m)[x]? <;> rfl
 rw[this];omega
theorem qN6(hx:x<2^m):(2^m-1)^^^x<2^m:=hCd (by have:=hCn (n:=m);omega) hx
theorem qZ0(r:RR S)(lt:∀s∈S,s<2^m)(hx:x<2^m):(wF m S).getD x 0+(wF m S).getD ((2^m-1)^^^x) 0=S.length+1↔Prt S x:=by
 rw[qX3 r lt x];have h1:=qXb r lt hx;have h2:=qXb r lt (qN6 hx);omega
end
theorem qLn(row:List Nat)(gs:List Nat):∀j,(qDo gs row).testBit j=(decide (j<gs.length) && decide (∃g,gs[gs.length-1-j]?=some g/\g∈row)):=by
 refine qFh (P:=λgs=>∀j,(qDo gs row).testBit j=(decide (j<gs.length) && decide (∃g,gs[gs.length-1-j]?=some g/\g∈row))) (λj=>by show Nat.testBit 0 j=_;rw[hBl];rfl) (λl t ih j=>?_) gs;rw[qGl,hAc];cases j with
 |zero =>
  have g:(l++[t])[l.length+1-1-0]?=some t:=by rw[show l.length+1-1-0=l.length by omega,hDk (hAa _),Nat.sub_self];rfl
  show(2*qDo l row+if t∈row then 1 else 0).testBit 0=(decide (0<l.length+1) && decide (∃g,(l++[t])[l.length+1-1-0]?=some g/\g∈row));rw[g,hEi (Nat.succ_pos _),hCv,hB1];by_cases c:t∈row
  ·have q:decide (∃g,some t=some g/\g∈row)=true:=hEi ⟨t,rfl,c⟩;rw[hEn c,q];exact hEi (by omega)
  ·have q:decide (∃g,some t=some g/\g∈row)=false:=hEj λ⟨g,h1,h2⟩=>c (by cases h1;exact h2)
   rw[hEm c,q];exact hEj (by omega)
 |succ j =>
  have d:(2*qDo l row+if t∈row then 1 else 0) / 2=qDo l row:=by split <;> omega
  rw[hCj,d,ih];have e:decide (j+1<l.length + [t].length)=decide (j<l.length):=decide_eq_decide.mpr (by show j+1<l.length+1↔_;omega);rw[e];by_cases c:j<l.length
  ·have g:(l++[t])[l.length + [t].length-1-(j+1)]?=l[l.length-1-j]?:=by
    rw[show l.length + [t].length-1-(j+1)=l.length-1-j by show l.length+1-1-(j+1)=_;omega,hD1 (by omega)]
   rw[g]
  ·rw[hEj c];rfl
noncomputable def phF(S gs:List Nat)(e:Nat):Nat:=qDo gs (gs.filter (crB S e))
theorem qJe(S gs:List Nat)(e:Nat):phF S gs e<2^gs.length:=hBx _ λj hj=>by
 unfold phF;rw[qLn,hEj (by omega)];rfl
theorem qSs(hi:gs[i]?=some g):(phF S gs e).testBit (gs.length-1-i)=crB S e g:=by
 have hl:=qAu hi;unfold phF;rw[qLn,hEi (by omega),hCv,show gs.length-1-(gs.length-1-i)=i by omega,hi];cases c:crB S e g with
 |true=>exact hEi ⟨g,rfl,hAj.mpr ⟨hAh hi,c⟩⟩
 |false =>
  refine hEj λz=>?_
  obtain⟨g',h1,h2⟩:=z;cases h1;have:=(hAj.mp h2).2;rw[this]at c;cases c
theorem qM1(h:sgl g=true)(nz:g≠0):g=2^g.log2:=by
 refine hAl λi=>?_
 rw[hB4];by_cases c:g.log2=i
 ·rw[hEi c,<-c,hBt nz]
 ·rw[hEj c];cases q:g.testBit i with
  |false=>rfl
  |true =>
   have z:g&&&(g-1)=0:=hEl h;exfalso;have lt:i<g.log2:=by have:=zBz q;omega
   have b:(g-1).testBit g.log2=true:=by
    have h1:2^g.log2<=g:=qY5 (hBt nz);have h2:2^g.log2≠g:=λe=>by
     have q':(2^g.log2).testBit i=true:=by rw[e];exact q
     rw[hB4]at q';exact c (hEl q')
    have h3:g<2^(g.log2+1):=hDl;rw[hCy,Nat.div_eq_of_lt_le (k:=1) (by omega) (by rw[hDp]at h3;omega)];rfl
   have:=congrArg (λy:Nat=>y.testBit g.log2) z;simp only[hAv,hBl,hBt nz,b]at this;cases this
section
variable{S:List Nat}{m:Nat}
def Gok(S:List Nat)(g:Nat):Prop:=g≠0/\(sgl g=true\/Prt S g)
theorem qD2(r:RR S)(ng:sgl g=false):crB S e g=false↔Spn S (e&&&g):=by
 unfold crB;rw[hEm (by rw[ng];decide)];have k:red1 S (e&&&g)=0↔Spn S (e&&&g):=⟨λz=>by
  have:=qEk S S (λs h=>h) (e&&&g);rw[z,hCg]at this;exact this,qN8 r⟩
 constructor
 ·intro h;refine k.mp ?_;cases q:decide (red1 S (e&&&g)=0) with
  |true=>exact hEl q
  |false=>rw[q]at h;cases h
 ·intro h;rw[hEi (k.mpr h)];rfl
theorem qT6(h:sgl g=true)(nz:g≠0):crB S e g=e.testBit g.log2:=by
 unfold crB;rw[hEn h];have e1:=qM1 h nz;cases q:e.testBit g.log2 with
 |true =>
  have:=(qN2 e g.log2).mpr q;rw[<-e1]at this;rw[hEj this];rfl
 |false =>
  have:e&&&g=0:=hD4 λz=>by
   rw[e1]at z;have:=(qN2 e _).mp z;rw[q]at this;cases this
  rw[hEi this];rfl
theorem zBm(r:RR S)(ok:g≠0)(z:e&&&g=0):crB S e g=false:=by
 cases h:sgl g with
 |true =>
  unfold crB;rw[hEn h,hEi z];rfl
 |false=>exact(qD2 r h).mpr (by rw[z];exact .zero)
theorem zDr(r:RR S)(nz:g≠0)(h:crB S e g=false):Spn S (e&&&g):=by
 cases q:sgl g with
 |true =>
  unfold crB at h;rw[hEn q]at h;have:e&&&g=0:=by
   cases d:decide (e&&&g=0) with
   |true=>exact hEl d
   |false=>rw[d]at h;cases h
  rw[this];exact .zero
 |false=>exact(qD2 r q).mp h
theorem qYr(r:RR S)(ok:Gok S g)(he:Spn S e)(he':Spn S e'):crB S (e^^^e') g=(crB S e g ^^ crB S e' g):=by
 obtain⟨nz,h⟩:=ok;cases q:sgl g with
 |true=>rw[qT6 q nz,qT6 q nz,qT6 q nz,hAo]
 |false =>
  obtain⟨e0,k0,k1,k2⟩:=h.resolve_left (by rw[q];decide);have key:∀e,Spn S e->crB S e g=true->Spn S ((e^^^e0)&&&g):=λe h c=>by
   rcases k2 e h with z|z
   ·rw[(qD2 r q).mpr z]at c;cases c
   ·exact z
  cases c1:crB S e g with
  |false =>
   have h1:=(qD2 r q).mp c1;cases c2:crB S e' g with
   |false=>exact(qD2 r q).mpr (by rw[qCw];exact h1.xor ((qD2 r q).mp c2))
   |true =>
    cases c3:crB S (e^^^e') g with
    |true=>rfl
    |false =>
     have h3:=(qD2 r q).mp c3;rw[qCw]at h3;have:=h1.xor h3;rw[<-hBu,hC1,hCg]at this;rw[(qD2 r q).mpr this]at c2;cases c2
  |true =>
   cases c2:crB S e' g with
   |false =>
    have h2:=(qD2 r q).mp c2;cases c3:crB S (e^^^e') g with
    |true=>rfl
    |false =>
     have h3:=(qD2 r q).mp c3;rw[qCw]at h3;have:=h3.xor h2;rw[qA1]at this;rw[(qD2 r q).mpr this]at c1;cases c1
   |true =>
    refine(qD2 r q).mpr ?_;have:=(key e he c1).xor (key e' he' c2);rw[<-qCw]at this;rw[show e^^^e0^^^(e'^^^e0)=e^^^e' by
     rw[hDf e' e0,<-hBu,qA1]]at this
    exact this
theorem qLf(r:RR S)(ok:∀g∈gs,Gok S g)(he:Spn S e)(he':Spn S e'):phF S gs (e^^^e')=phF S gs e^^^phF S gs e':=hAl λj=>by
 rw[hAo];by_cases c:j<gs.length
 ·have hi:gs[gs.length-1-j]?=some (gs[gs.length-1-j]'(by omega)):=hA2 _;have t:=λe=>qSs (S:=S) (e:=e) hi
  rw[show gs.length-1-(gs.length-1-j)=j by omega]at t;rw[t,t,t,qYr r (ok _ (hAh hi)) he he']
 ·rw[qDs (qJe S gs _) (by omega),qDs (qJe S gs _) (by omega),qDs (qJe S gs _) (by omega)];rfl
theorem qSr(r:RR S)(ok:∀g∈gs,Gok S g):phF S gs 0=0:=by
 have:=qLf r ok (Spn.zero (l:=S)) (Spn.zero (l:=S));rw[hC1,hC1]at this;exact this
theorem qI6(r:RR S)(ok:∀g∈gs,Gok S g)(t:Nat):Spn (shF S gs) t↔∃e,Spn S e/\phF S gs e=t:=by
 have h0:Spn (shF S gs) t↔Spn (S.map (phF S gs)) t:=by
  unfold shF dsF;have p:∀y,Spn ((red (S.map λe=>qDo gs (gs.filter (crB S e)))).mergeSort λa b=>decide (b<=a)) y↔Spn (red (S.map (phF S gs))) y:=λy =>
   ⟨Spn.mono λx hx=>.mem ((hCr _ _).mem_iff.mp hx),Spn.mono λx hx=>.mem ((hCr _ _).mem_iff.mpr hx)⟩
  rw[p,qBs]
 rw[h0];clear h0;constructor
 ·intro h
  induction h with
  |zero=>exact⟨0,.zero,qSr r ok⟩
  |add hm _ ih =>
   obtain⟨e,h1,h2⟩:=ih;obtain⟨s,hs,rfl⟩:=hAb.mp hm;exact⟨s^^^e,.add hs h1,by rw[qLf r ok (.mem hs) h1,h2]⟩
 ·rintro⟨e,h,rfl⟩
  induction h with
  |zero=>rw[qSr r ok];exact .zero
  |add hm h ih =>
   rw[qLf r ok (.mem hm) h];exact .add (hB3 hm) ih
theorem qMj(h:g&&&s=0):g+s=g ||| s:=by
 have d:Dis [g,s]:=hAr.mpr ⟨λx hx=>by rw[hA9.mp hx];exact h,hBw _ _⟩;refine hAl λi=>?_
 have:=qB1 d i;rw[show [g,s].sum=g+s by simp]at this;rw[hCk];cases a:(g+s).testBit i with
 |true =>
  obtain⟨x,hx,hb⟩:=this.mp a;rcases hAg.mp hx with z|z
  ·rw[<-z,hb];rfl
  ·rw[<-hA9.mp z,hb];cases g.testBit i <;> rfl
 |false =>
  cases b:g.testBit i with
  |true=>rw[this.mpr ⟨g,hA6,b⟩]at a;cases a
  |false =>
   cases c:s.testBit i with
   |true=>rw[this.mpr ⟨s,hA4 _ (hA9.mpr rfl),c⟩]at a;cases a
   |false=>rfl
theorem qUq(h:g&&&s=0):y&&&(g+s)=(y&&&g)^^^(y&&&s):=by
 have e:g+s=g ||| s:=qMj h
 rw[e];refine hAl λi=>?_
 have z:=congrArg (λx:Nat=>x.testBit i) h;simp only[hAv,hBl]at z;rw[hAv,hCk,hAo,hAv,hAv];revert z;cases y.testBit i <;> cases g.testBit i <;> cases s.testBit i <;> simp
theorem qMr:∀ {l:List Nat},Dis l->(∀g∈l,Spn S (y&&&g))->Spn S (y&&&l.sum)
 |[],_,_=>by show Spn S (y&&&0);rw[Nat.and_zero];exact .zero
 |g :: l,d,h=>by
  obtain⟨d1,d2⟩:=hAr.mp d;have z:g&&&l.sum=0:=and_zero.mpr λi hi=>by
   cases q:l.sum.testBit i with
   |false=>rfl
   |true =>
    obtain⟨c,hc,hb⟩:=(qB1 d2 i).mp q;exact(qBl (d1 c hc) hi hb).elim
  rw[hDd,qUq z];exact(h g hA6).xor (qMr d2 λc hc=>h c (hA4 _ hc))
theorem qGr(r:RR S)(pt:Pt w gs)(lw:∀s∈S,∀i,s.testBit i=true->w.testBit i=true)(ok:∀g∈gs,Gok S g)(x:Nat)(he:Spn S e) :
  Spn S (e&&&(rowI gs x).sum)↔Spn (shF S gs) (phF S gs e&&&x):=by
 have sp:=qCk pt.nd x;have pd:=pt.perm sp;obtain⟨d1,d2,d3⟩:=hBc.mp pd.di;have lwe:∀ {e},Spn S e->∀i,e.testBit i=true->w.testBit i=true:=λ{e} h i hi=>by
  cases q:w.testBit i with
  |true=>rfl
  |false =>
   have:=qJw (l:=S) (j:=i) (λs hs=>by
    cases z:s.testBit i with
    |false=>rfl
    |true=>rw[lw s hs i z]at q;cases q) h
   rw[this]at hi;cases hi
 have inn:∀ {i g:Nat},gs[i]?=some g->(g∈rowI gs x↔x.testBit (gs.length-1-i)=true):=λ{i g} hi=>by
  rw[qHg];constructor
  ·rintro⟨u,hu,h1,h2⟩;rw[qLm pt.nd hi h1];exact h2
  ·intro h;exact⟨i,qAu hi,hi,h⟩
 constructor
 ·intro h;refine(qI6 r ok _).mpr ⟨_,h,hAl λj=>?_⟩;rw[hAv];by_cases c:j<gs.length
  ·have hi:gs[gs.length-1-j]?=some (gs[gs.length-1-j]'(by omega)):=hA2 _;have t:=λe=>qSs (S:=S) (e:=e) hi
   have q:=inn hi;rw[show gs.length-1-(gs.length-1-j)=j by omega]at t q;rw[t,t];generalize gs[gs.length-1-j]'(by omega)=g at hi t q;have gm:g∈gs:=hAh hi;cases b:x.testBit j with
   |true =>
    rw[Bool.and_true];have:e&&&(rowI gs x).sum&&&g=e&&&g:=hAl λi=>by
     rw[hAv,hAv,hAv];cases z:g.testBit i with
     |false=>rw[hE3,hE3]
     |true=>rw[(qB1 d1 i).mpr ⟨g,q.mpr b,z⟩,Bool.and_true]
    unfold crB;rw[this]
   |false =>
    rw[hE3];refine zBm r (pt.nz g gm) ?_;rw[Nat.and_assoc];have:(rowI gs x).sum&&&g=0:=and_zero.mpr λi hi'=>by
     obtain⟨c',hc,hb⟩:=(qB1 d1 i).mp hi';cases z:g.testBit i with
     |false=>rfl
     |true =>
      have go:g∈outF gs (rowI gs x):=hAj.mpr ⟨gm,by rw[hEj (λy=>by rw[q.mp y]at b;cases b)];rfl⟩;exact(qBl (d3 c' hc g go) hb z).elim
    rw[this,Nat.and_zero]
  ·rw[qDs (qJe S gs _) (by omega),qDs (qJe S gs _) (by omega)];rfl
 ·intro h;obtain⟨e1,h1,h2⟩:=(qI6 r ok _).mp h;have bit:∀ {i g:Nat},gs[i]?=some g->crB S e1 g=(crB S e g && x.testBit (gs.length-1-i)):=λ{i g} hi=>by
   have:=congrArg (λy:Nat=>y.testBit (gs.length-1-i)) h2;simp only[hAv,qSs hi]at this;exact this
  have ix:∀ {g:Nat},g∈gs->∃i:Nat,gs[i]?=some g:=λ{g} hg=>by
   obtain⟨i,hi,e⟩:=hEc.mp hg;exact⟨i,by rw[hA2 hi,e]⟩
  have s1:Spn S ((e^^^e1)&&&(rowI gs x).sum):=qMr d1 λg hg=>by
   have gm:=(qJ9 gs x).subset hg;obtain⟨i,hi⟩:=ix gm;refine zDr r (pt.nz g gm) ?_;rw[qYr r (ok g gm) he h1,bit hi,(inn hi).mp hg,Bool.and_true];cases crB S e g <;> rfl
  have s2:Spn S (e1&&&(outF gs (rowI gs x)).sum):=qMr d2 λg hg=>by
   obtain⟨gm,hn⟩:=hAj.mp hg;obtain⟨i,hi⟩:=ix gm;refine zDr r (pt.nz g gm) ?_;rw[bit hi];cases b:x.testBit (gs.length-1-i) with
   |false=>rw[hE3]
   |true=>rw[hEi ((inn hi).mpr b)]at hn;cases hn
  have s3:Spn S (e1&&&(rowI gs x).sum):=by
   have z:(rowI gs x).sum&&&(outF gs (rowI gs x)).sum=0:=and_zero.mpr λi hi=>by
    obtain⟨c,hc,hb⟩:=(qB1 d1 i).mp hi;cases q:(outF gs (rowI gs x)).sum.testBit i with
    |false=>rfl
    |true =>
     obtain⟨c',hc',hb'⟩:=(qB1 d2 i).mp q;exact(qBl (d3 c hc c' hc') hb hb').elim
   have a:=qUq (y:=e1) z;have full:e1&&&((rowI gs x).sum+(outF gs (rowI gs x)).sum)=e1:=by
    rw[<-hE1,pd.su];refine hAl λi=>?_
    rw[hAv];cases q:e1.testBit i with
    |false=>rfl
    |true=>rw[lwe h1 i q];rfl
   rw[full]at a;have:=h1.xor s2;generalize he1:e1&&&(outF gs (rowI gs x)).sum=u at this a;rw[a,qA1]at this;exact this
  have:=s1.xor s3;rw[<-qCw,qA1]at this;exact this
theorem qZz(r:RR S)(pt:Pt w gs)(lw:∀s∈S,∀i,s.testBit i=true->w.testBit i=true)(ok:∀g∈gs,Gok S g)(x:Nat):Prt (shF S gs) x↔Prt S (rowI gs x).sum:=by
 constructor
 ·rintro⟨t0,h0,h1,h2⟩;obtain⟨e0,k0,rfl⟩:=(qI6 r ok _).mp h0;refine⟨e0,k0,λz=>h1 ((qGr r pt lw ok x k0).mp z),λe he=>?_⟩;rcases h2 _ ((qI6 r ok _).mpr ⟨e,he,rfl⟩) with z|z
  ·exact .inl ((qGr r pt lw ok x he).mpr z)
  ·exact .inr ((qGr r pt lw ok x (he.xor k0)).mpr (by rw[qLf r ok he k0];exact z))
 ·rintro⟨e0,h0,h1,h2⟩;refine⟨phF S gs e0,(qI6 r ok _).mpr ⟨e0,h0,rfl⟩,λz=>h1 ((qGr r pt lw ok x h0).mpr z),λt ht=>?_⟩;obtain⟨e,he,rfl⟩:=(qI6 r ok _).mp ht;rcases h2 e he with z|z
  ·exact .inl ((qGr r pt lw ok x he).mp z)
  ·exact .inr (by rw[<-qLf r ok he h0];exact(qGr r pt lw ok x (he.xor h0)).mp z)
theorem zCp(lt:∀s∈S,s<2^m)(h:Prt S g):Prt S ((2^m-1)^^^g):=by
 have k:∀ {e},Spn S e->(Spn S (e&&&((2^m-1)^^^g))↔Spn S (e&&&g)):=λ{e} he=>by
  have s:=qGa (x:=g) (Spn.lt lt he);constructor
  ·intro h;have:=he.xor h
   conv at this=>arg 2;lhs;rw[s]
   rw[qA1]at this;exact this
  ·intro h;have:=h.xor he
   conv at this=>arg 2;rhs;rw[s]
   rw[<-hBu,hC1,hCg]at this;exact this
 obtain⟨e0,h0,h1,h2⟩:=h;refine⟨e0,h0,λz=>h1 ((k h0).mp z),λe he=>?_⟩;rcases h2 e he with z|z
 ·exact .inl ((k he).mpr z)
 ·exact .inr ((k (he.xor h0)).mpr z)
end
theorem zBf(h:fpF S m≠0):prB S m (fpF S m)=true:=by
 unfold fpF at h ⊢;cases e:(List.range (2^(m-1))).find? (prB S m) with
 |none=>rw[e]at h;exact absurd rfl h
 |some x=>exact List.find?_some e
theorem zBj(xs:List Nat):RR (dsF xs):=(qCi xs).perm (hCr _ _)
theorem zEd(S gs:List Nat):∀t∈shF S gs,t<2^gs.length:=λt ht=>qOy (xs:=S.map (phF S gs)) (λx hx=>by
 obtain⟨e,_,rfl⟩:=hAb.mp hx;exact qJe S gs e) t (qJk.mp ht)
theorem qHn:(2^n-1).testBit i=true↔i<n:=by rw[hBz];exact hEp
section
variable{S:List Nat}{n:Nat}
structure PcI(S:List Nat)(w:Nat)(gs:List Nat)(L:List PE1):Prop where
 ok:∀e∈L,∀g∈e.2,Gok S g
 cv:∀g∈gs,∃e∈L,g∈e.2
 co:∀e∈L,∀g∈e.2,g∈gs\/∃e'∈L,w^^^g∈e'.2
theorem zDt(h:Pt w (a++b)):w^^^a.sum=b.sum/\w^^^b.sum=a.sum:=by
 obtain⟨d1,d2,d3⟩:=hBc.mp h.di;have key:∀i,w.testBit i=(a.sum.testBit i ^^ b.sum.testBit i):=λi=>by
  have hw:=h.bit i;have ha:=qB1 d1 i;have hb:=qB1 d2 i;cases p:a.sum.testBit i with
  |true =>
   obtain⟨g,hg,gb⟩:=ha.mp p;rw[hw.mpr ⟨g,hAe _ hg,gb⟩];cases q:b.sum.testBit i with
   |false=>rfl
   |true =>
    obtain⟨g',hg',gb'⟩:=hb.mp q;exact(qBl (d3 g hg g' hg') gb gb').elim
  |false =>
   cases q:b.sum.testBit i with
   |true =>
    obtain⟨g,hg,gb⟩:=hb.mp q;rw[hw.mpr ⟨g,hA8 _ hg,gb⟩];rfl
   |false =>
    cases u:w.testBit i with
    |false=>rfl
    |true =>
     obtain⟨g,hg,gb⟩:=hw.mp u;rcases hAd.mp hg with z|z
     ·rw[ha.mpr ⟨g,z,gb⟩]at p;cases p
     ·rw[hb.mpr ⟨g,z,gb⟩]at q;cases q
 constructor <;> refine hAl λi=>?_ <;> rw[hAo,key] <;> cases a.sum.testBit i <;> cases b.sum.testBit i <;> rfl
theorem qSt(r:RR S)(lt:∀s∈S,s<2^n):∀(k:Nat) {gs:List Nat},Sh (2^n-1) gs->gs.length<=k+2->(∀g∈gs,Gok S g)->PcI S (2^n-1) gs (paF S k gs)
 |0,gs,h,l,_=>absurd h.l3 (by omega)
 |k+1,gs,h,l,ok=>by
  have lw:∀s∈S,∀i,s.testBit i=true->(2^n-1).testBit i=true:=λs hs i hi=>qHn.mpr (by
   by_cases c:i<n
   ·exact c
   ·rw[qDs (lt s hs) (by omega)]at hi;cases hi)
  unfold paF;split
  ·refine⟨λe he=>?_,λg hg=>⟨_,hA9.mpr rfl,hg⟩,λe he g hg=>.inl ?_⟩
   ·rw[hA9.mp he];exact ok
   ·rw[hA9.mp he]at hg;exact hg
  ·rename_i c;obtain⟨xl,s1,s2⟩:=qL1 c;have pb:=zBf c;revert xl s1 s2 pb;generalize fpF (shF S gs) gs.length=x;intro xl s1 s2 pb;obtain⟨t1,t2,t3⟩:=qD5 h.pt.nd xl s1 s2;have sp:=qCk h.pt.nd x;have P1:=h.pt.perm sp;have P2:=h.pt.perm (sp.trans hE9);have pI:Prt S (rowI gs x).sum:=by
    refine(qZz r h.pt lw ok x).mp ((qZ0 (zBj _) (zEd S gs) xl).mp ?_);unfold prB at pb;rw[hCi]at pb;exact hEl pb.1
   obtain⟨c1,c2⟩:=zDt P1;have pO:Prt S (outF gs (rowI gs x)).sum:=by rw[<-c1];exact zCp lt pI
   have pn:∀ {l:List Nat},2<=l.length->l≠[]:=λ{l} h z=>by rw[z]at h;exact absurd h (by decide)
   have B1:=P1.beside (pn t2);have B2:=P2.beside (pn t1);have m1:∀ {a b:List Nat} {g:Nat},g∈beF a b↔g∈a\/g=b.sum:=λ{a b g}=>by
    rw[(qDy a b).mem_iff,hAd,hA9]
   have okA:∀g∈beF (rowI gs x) (outF gs (rowI gs x)),Gok S g:=λg hg=>by
    rcases m1.mp hg with z|z
    ·exact ok g (sp.mem_iff.mpr (hAe _ z))
    ·exact⟨B1.nz g hg,.inr (by rw[z];exact pO)⟩
   have okB:∀g∈beF (outF gs (rowI gs x)) (rowI gs x),Gok S g:=λg hg=>by
    rcases m1.mp hg with z|z
    ·exact ok g (sp.mem_iff.mpr (hA8 _ z))
    ·exact⟨B2.nz g hg,.inr (by rw[z];exact pI)⟩
   have A:=qSt r lt k (gs:=beF (rowI gs x) (outF gs (rowI gs x))) ⟨B1,by rw[qBk];omega⟩ (by rw[qBk];omega) okA;have B:=qSt r lt k (gs:=beF (outF gs (rowI gs x)) (rowI gs x)) ⟨B2,by rw[qBk];omega⟩ (by rw[qBk];omega) okB;refine⟨λe he=>?_,λg hg=>?_,λe he g hg=>?_⟩
   ·rcases hAd.mp he with z|z
    ·exact A.ok e z
    ·exact B.ok e z
   ·rcases hAd.mp (sp.mem_iff.mp hg) with z|z
    ·obtain⟨e,he,h2⟩:=A.cv g (m1.mpr (.inl z));exact⟨e,hAe _ he,h2⟩
    ·obtain⟨e,he,h2⟩:=B.cv g (m1.mpr (.inl z));exact⟨e,hA8 _ he,h2⟩
   ·rcases hAd.mp he with z|z
    ·rcases A.co e z g hg with q|⟨e',h1,h2⟩
     ·rcases m1.mp q with u|u
      ·exact .inl (sp.mem_iff.mpr (hAe _ u))
      ·obtain⟨e',h1,h2⟩:=B.cv (rowI gs x).sum (m1.mpr (.inr rfl));exact .inr ⟨e',hA8 _ h1,by rw[u,c2];exact h2⟩
     ·exact .inr ⟨e',hAe _ h1,h2⟩
    ·rcases B.co e z g hg with q|⟨e',h1,h2⟩
     ·rcases m1.mp q with u|u
      ·exact .inl (sp.mem_iff.mpr (hA8 _ u))
      ·obtain⟨e',h1,h2⟩:=A.cv (outF gs (rowI gs x)).sum (m1.mpr (.inr rfl));exact .inr ⟨e',hAe _ h1,by rw[u,c1];exact h2⟩
     ·exact .inr ⟨e',hA8 _ h1,h2⟩
structure CI(S:List Nat)(w n:Nat)(L:List (List Nat)):Prop where
 ok:∀l∈L,∀g∈l,Gok S g
 co:∀l∈L,∀g∈l,sgl g=true\/∃l'∈L,w^^^g∈l'
 on:∀i,i<n->∃l∈L,2^i∈l
theorem CI.of(c:CI S w n L)(h:∀l,l∈L↔l∈L'):CI S w n L':=by
 refine⟨λl hl=>c.ok l ((h l).mpr hl),λl hl g hg=>(c.co l ((h l).mpr hl) g hg).imp id λ⟨l',h1,h2⟩=>⟨l',(h l').mp h1,h2⟩,λi hi=>?_⟩;obtain⟨l,h1,h2⟩:=c.on i hi;exact⟨l,(h l).mp h1,h2⟩
theorem qGk:x∈meF w a b↔(x∈a/\w^^^x∉b)\/(x∈b/\w^^^x∉a):=by
 have k:∀ {a b:List Nat},x∈keF w a b↔x∈a/\w^^^x∉b:=λ{a b}=>by
  unfold keF;rw[hAj];refine and_congr_right λ_=>?_
  by_cases c:w^^^x∈b
  ·rw[hEi c];exact⟨λz=>(by cases z),λz=>absurd c z⟩
  ·rw[hEj c];exact⟨λ_=>c,λ_=>rfl⟩
 rw[(qEo w a b).mem_iff,hAd,k,k]
theorem qYc(h:Sh (2^n-1) gs)(hi:i<n)(hm:(2^n-1)^^^2^i∈gs):False:=by
 obtain⟨c1,h1,n1,_⟩:=qU2 h.pt.nd h.l3 ((2^n-1)^^^2^i) ((2^n-1)^^^2^i);obtain⟨c2,h2,n2,n3⟩:=qU2 h.pt.nd h.l3 ((2^n-1)^^^2^i) c1;have key:∀c∈gs,c≠(2^n-1)^^^2^i->c.testBit i=true:=λc hc ne=>by
  obtain⟨j,hj⟩:=qO7 (h.pt.nz c hc);by_cases e:j=i
  ·rw[<-e];exact hj
  ·exfalso;have jn:(2^n-1).testBit j=true:=h.pt.sub hc hj;have:((2^n-1)^^^2^i).testBit j=true:=by
    rw[hAo,jn,hB4,hEj (λz=>e z.symm)];rfl
   exact qBl (qV4 (R:=λa b:Nat=>a&&&b=0) (λ{a b} z=>by rw[Nat.and_comm];exact z) h.pt.di hc hm ne) hj this
 exact qBl (qV4 (R:=λa b:Nat=>a&&&b=0) (λ{a b} z=>by rw[Nat.and_comm];exact z) h.pt.di h1 h2 (λz=>n3 z.symm)) (key c1 h1 n1) (key c2 h2 n2)
theorem qZ7{w g:Nat}(hs:∀i,g.testBit i=true->w.testBit i=true):g ||| (w^^^g)=w:=hAl λi=>by
 rw[hCk,hAo];have:=hs i;cases q:g.testBit i with
 |true=>rw[this q];rfl
 |false=>cases w.testBit i <;> rfl
theorem CI.step{m:PE1}{ms:List PE1}{gs:List Nat}{ts:List (List Nat)}(h:MI (2^n-1) (m :: ms) gs ts)(c:CI S (2^n-1) n ((m :: ms).map (·.2)++gs :: ts)):CI S (2^n-1) n (ms.map (·.2)++meF (2^n-1) m.2 gs :: ts):=by
 obtain⟨a1,a2⟩:=hAr.mp h.ap;have hm:=h.sm m hA6;have old:∀l,l∈(m :: ms).map (·.2)++gs :: ts↔l=m.2\/l=gs\/(l∈ms.map (·.2)\/l∈ts):=λl=>by
  rw[hAd,hBj,hAg,hAg];constructor
  ·rintro((z|z)|(z|z))
   ·exact .inl z
   ·exact .inr (.inr (.inl z))
   ·exact .inr (.inl z)
   ·exact .inr (.inr (.inr z))
  ·rintro(z|z|z|z)
   ·exact .inl (.inl z)
   ·exact .inr (.inl z)
   ·exact .inl (.inr z)
   ·exact .inr (.inr z)
 have new:∀l,l∈ms.map (·.2)++meF (2^n-1) m.2 gs :: ts↔l=meF (2^n-1) m.2 gs\/(l∈ms.map (·.2)\/l∈ts):=λl=>by
  rw[hAd,hAg];constructor
  ·rintro(z|z|z)
   ·exact .inr (.inl z)
   ·exact .inl z
   ·exact .inr (.inr z)
  ·rintro(z|z|z)
   ·exact .inr (.inl z)
   ·exact .inl z
   ·exact .inr (.inr z)
 have rsh:∀l,l∈ms.map (·.2)\/l∈ts->Sh (2^n-1) l/\(∀g,g∈l->g∈m.2->False)/\(∀g,g∈l->g∈gs->False):=λl hl=>by
  rcases hl with z|z
  ·obtain⟨q,hq,rfl⟩:=hAb.mp z;have hs:=h.sm q (hA4 _ hq);obtain⟨g0,k1,k2⟩:=h.co q (hA4 _ hq);have sp:Spr (2^n-1) q.2 gs:=⟨g0,k1,_,k2,qZ7 λi hi=>hs.pt.sub k1 hi⟩;exact⟨hs,λg x y=>(a1 q hq).no hm hs y x,λg x y=>sp.no hs h.sh x y⟩
  ·have hs:=h.st l z;exact⟨hs,λg x y=>(h.mt m hA6 l z).no hm hs y x,λg x y=>(h.gt l z).no h.sh hs y x⟩
 have two:∀ {l:List Nat} {g:Nat},Sh (2^n-1) l->g∈l->(2^n-1)^^^g∈l->False:=λ{l g} hl x y=>hl.pt.two hl.l3 x y (qZ7 λi hi=>hl.pt.sub x hi)
 refine⟨λl hl g hg=>?_,λl hl g hg=>?_,λi hi=>?_⟩
 ·rcases(new l).mp hl with z|z
  ·rw[z]at hg;rcases qGk.mp hg with ⟨q,_⟩|⟨q,_⟩
   ·exact c.ok m.2 ((old _).mpr (.inl rfl)) g q
   ·exact c.ok gs ((old _).mpr (.inr (.inl rfl))) g q
  ·exact c.ok l ((old _).mpr (.inr (.inr z))) g hg
 ·rcases(new l).mp hl with z|z
  ·rw[z]at hg;rcases qGk.mp hg with ⟨q,no⟩|⟨q,no⟩
   ·rcases c.co m.2 ((old _).mpr (.inl rfl)) g q with u|⟨l',h1,h2⟩
    ·exact .inl u
    ·rcases(old l').mp h1 with y|y|y
     ·rw[y]at h2;exact(two hm q h2).elim
     ·rw[y]at h2;exact absurd h2 no
     ·exact .inr ⟨l',(new l').mpr (.inr y),h2⟩
   ·rcases c.co gs ((old _).mpr (.inr (.inl rfl))) g q with u|⟨l',h1,h2⟩
    ·exact .inl u
    ·rcases(old l').mp h1 with y|y|y
     ·rw[y]at h2;exact absurd h2 no
     ·rw[y]at h2;exact(two h.sh q h2).elim
     ·exact .inr ⟨l',(new l').mpr (.inr y),h2⟩
  ·obtain⟨_,k1,k2⟩:=rsh l z;rcases c.co l ((old _).mpr (.inr (.inr z))) g hg with u|⟨l',h1,h2⟩
   ·exact .inl u
   ·rcases(old l').mp h1 with y|y|y
    ·rw[y]at h2;exact .inr ⟨_,(new _).mpr (.inl rfl),qGk.mpr (.inl ⟨h2,by rw[xx];exact λq=>k2 g hg q⟩)⟩
    ·rw[y]at h2;exact .inr ⟨_,(new _).mpr (.inl rfl),qGk.mpr (.inr ⟨h2,by rw[xx];exact λq=>k1 g hg q⟩)⟩
    ·exact .inr ⟨l',(new l').mpr (.inr y),h2⟩
 ·obtain⟨l,h1,h2⟩:=c.on i hi;rcases(old l).mp h1 with y|y|y
  ·rw[y]at h2;exact⟨_,(new _).mpr (.inl rfl),qGk.mpr (.inl ⟨h2,λq=>qYc h.sh hi q⟩)⟩
  ·rw[y]at h2;exact⟨_,(new _).mpr (.inl rfl),qGk.mpr (.inr ⟨h2,λq=>qYc hm hi q⟩)⟩
  ·exact⟨l,(new l).mpr (.inr y),h2⟩
theorem CI.fo:∀ {ms:List PE1} {gs:List Nat},MI (2^n-1) ms gs ts->CI S (2^n-1) n (ms.map (·.2)++gs :: ts)->CI S (2^n-1) n (foF (2^n-1) ms gs :: ts)
 |[],_,_,c=>c
 |m :: ms,gs,h,c=>CI.fo (ms:=ms) (gs:=meF (2^n-1) m.2 gs) h.step (c.step h)
theorem CI.jo{told rest:List PE1}{e:PE1}(h:JI (2^n-1) told (e :: rest))(c:CI S (2^n-1) n ((told++e :: rest).map (·.2))):CI S (2^n-1) n ((joS (2^n-1) told e++rest).map (·.2)):=by
 have c1:CI S (2^n-1) n ((mtsF (2^n-1) told e).map (·.2)++e.2 :: (rsF (2^n-1) told e++rest).map (·.2)):=c.of λl=>by
  have tl:∀t,t∈told↔t∈mtsF (2^n-1) told e\/t∈rsF (2^n-1) told e:=λt=>by
   constructor
   ·intro ht;by_cases q:t∈mtsF (2^n-1) told e
    ·exact .inl q
    ·exact .inr (hAj.mpr ⟨ht,by rw[hEj q];rfl⟩)
   ·rintro(q|q)
    ·exact(hAj.mp q).1
    ·exact(qFm q).1
  rw[hAd,hAg,hAb,hAb,hAb];constructor
  ·rintro⟨t,ht,rfl⟩;rcases hAd.mp ht with z|z
   ·rcases(tl t).mp z with q|q
    ·exact .inl ⟨t,q,rfl⟩
    ·exact .inr (.inr ⟨t,hAe _ q,rfl⟩)
   ·rcases hAg.mp z with q|q
    ·exact .inr (.inl (by rw[q]))
    ·exact .inr (.inr ⟨t,hA8 _ q,rfl⟩)
  ·rintro(⟨t,ht,rfl⟩|z|⟨t,ht,rfl⟩)
   ·exact⟨t,hAe _ ((tl t).mpr (.inl ht)),rfl⟩
   ·exact⟨e,hA8 _ hA6,z.symm⟩
   ·rcases hAd.mp ht with q|q
    ·exact⟨t,hAe _ ((tl t).mpr (.inr q)),rfl⟩
    ·exact⟨t,hA8 _ (hA4 _ q),rfl⟩
 refine(CI.fo h.mi c1).of λl=>?_
 unfold joS;rw[hAg,hAb,hAb];constructor
 ·rintro(z|⟨t,ht,rfl⟩)
  ·exact⟨(e.1,_),hAe _ (hA8 _ (hA9.mpr rfl)),z.symm⟩
  ·rcases hAd.mp ht with q|q
   ·exact⟨t,hAe _ (hAe _ q),rfl⟩
   ·exact⟨t,hA8 _ q,rfl⟩
 ·rintro⟨t,ht,rfl⟩;rcases hAd.mp ht with q|q
  ·rcases hAd.mp q with u|u
   ·exact .inr ⟨t,hAe _ u,rfl⟩
   ·exact .inl (by rw[hA9.mp u])
  ·exact .inr ⟨t,hA8 _ q,rfl⟩
theorem CI.all(h:JI (2^n-1) [] ps)(c:CI S (2^n-1) n (ps.map (·.2))):∀i,CI S (2^n-1) n ((joF (2^n-1) (ps.take i)++ps.drop i).map (·.2))
 |0=>c
 |i+1=>by
  have ih:=CI.all h c i;have hj:=h.all i;cases hi:ps[i]? with
  |none =>
   have l:ps.length<=i:=List.getElem?_eq_none_iff.mp hi;rw[hCz l,hA5 l]at ih;rw[hA5 (by omega),hCz (by omega)];exact ih
  |some e =>
   have hl:=qAu hi;have ee:ps[i]=e:=by have:=hA2 hl;rw[hi]at this;exact(hAq this).symm
   rw[hCp hl,ee]at ih hj;rw[qAl hi,qHm];exact CI.jo hj ih
theorem zEv(r:RR S)(lt:∀s∈S,s<2^n)(h3:3<=n)(h12:n<=12):CI S (2^n-1) n ((jF n S).map (·.2))/\((jF n S).map (·.2)).flatten.Nodup:=by
 have sh:Sh (2^n-1) (singF n):=⟨qHx n,by rw[qBt];exact h3⟩;have one:∀g∈singF n,∃i,i<n/\g=2^i:=λg hg=>by
  obtain⟨k,hk,e⟩:=hAb.mp ((qFi n).mem_iff.mp hg);exact⟨k,hAy.mp hk,e.symm⟩
 have sg:∀i:Nat,sgl (2^i)=true:=λi=>hEi (qEb i)
 have pc:=qSt r lt 10 sh (by rw[qBt];omega) λg hg=>by
  obtain⟨i,_,e⟩:=one g hg;exact⟨sh.pt.nz g hg,.inl (by rw[e];exact sg i)⟩
 have ji:=(qKj S 10 sh (by rw[qBt];omega)).ji;have c0:CI S (2^n-1) n ((paF S 10 (singF n)).map (·.2)):=by
  refine⟨λl hl=>?_,λl hl g hg=>?_,λi hi=>?_⟩
  ·obtain⟨e,he,rfl⟩:=hAb.mp hl;exact pc.ok e he
  ·obtain⟨e,he,rfl⟩:=hAb.mp hl;rcases pc.co e he g hg with z|⟨e',h1,h2⟩
   ·obtain⟨i,_,e1⟩:=one g z;exact .inl (by rw[e1];exact sg i)
   ·exact .inr ⟨e'.2,hB3 h1,h2⟩
  ·obtain⟨e,he,h2⟩:=pc.cv (2^i) ((qFi n).mem_iff.mpr (hAb.mpr ⟨i,hAy.mpr hi,rfl⟩));exact⟨e.2,hB3 he,h2⟩
 have ca:=CI.all ji c0 (paF S 10 (singF n)).length;have ja:=ji.all (paF S 10 (singF n)).length;rw[hA5 (hAa _),hCz (hAa _),hC8]at ca;rw[hA5 (hAa _),hCz (hAa _)]at ja;refine⟨ca,?_⟩;have:∀J:List PE1,(∀e∈J,Sh (2^n-1) e.2)->J.Pairwise (λa b=>Spr (2^n-1) a.2 b.2)->(J.map (·.2)).flatten.Nodup:=by
  intro J
  induction J with
  |nil=>intro _ _;exact .nil
  |cons e J ih =>
   intro hs ap;obtain⟨p1,p2⟩:=hAr.mp ap;rw[hBj,List.flatten_cons,hCl];refine⟨(hs e hA6).pt.nd,ih (λx hx=>hs x (hA4 _ hx)) p2,λa ha b hb z=>?_⟩;obtain⟨l,hl,hb'⟩:=hCx.mp hb;obtain⟨e',he',rfl⟩:=hAb.mp hl;exact(p1 e' he').no (hs e hA6) (hs e' (hA4 _ he')) ha (by rw[z];exact hb')
 exact this _ (λe he=>ja.sh e (hAe _ he)) (hBc.mp ja.ap).1
end
end My
namespace L2
open PySem PySem.Spec PyProof.Rows PySem.W PySem.SeqAt PySem.MeetsSeq
theorem qPe:∀a:List (List Str),qFv a a=false
 |[]=>rfl
 |x :: r=>by unfold qFv;rw[hEn rfl];exact qPe r
theorem qHi:∀a b:List (List Str),qFv a b=true\/a=b\/qFv b a=true
 |[],[]=>.inr (.inl rfl)
 |[],_ :: _=>.inl rfl
 |_ :: _,[]=>.inr (.inr rfl)
 |x :: r,y :: t=>by
  unfold qFv;by_cases e:x=y
  ·subst e;rw[hEn rfl,hEn rfl];rcases qHi r t with h|h|h
   ·exact .inl h
   ·exact .inr (.inl (by rw[h]))
   ·exact .inr (.inr h)
  ·rw[hEm e,hEm (λz=>e z.symm)];rcases qIg x y with h|h|h
   ·exact .inl h
   ·exact absurd h e
   ·exact .inr (.inr h)
theorem qGn:∀a b c:List (List Str),qFv a b=true->qFv b c=true->qFv a c=true
 |[],b,[],h,h'=>by
  cases b with
  |nil=>exact h
  |cons _ _=>cases h'
 |[],_,_ :: _,_,_=>rfl
 |_ :: _,[],_,h,_=>by cases h
 |_ :: _,_ :: _,[],_,h'=>by cases h'
 |x :: r,y :: t,z :: u,h,h'=>by
  unfold qFv at h h' ⊢;by_cases e1:x=y
  ·subst e1;rw[hEn rfl]at h;by_cases e2:x=z
   ·subst e2;rw[hEn rfl]at h' ⊢;exact qGn r t u h h'
   ·rw[hEm e2]at h' ⊢;exact h'
  ·rw[hEm e1]at h;by_cases e2:y=z
   ·subst e2;rw[hEm e1];exact h
   ·rw[hEm e2]at h';have q:=qFu _ _ _ h h';rw[hEm (λe=>by rw[e,qNi]at q;cases q)];exact q
theorem qLq(a b:List (List Str))(h:qFv a b=true):qFv b a=false:=by
 cases q:qFv b a with
 |false=>rfl
 |true=>have:=qGn a b a h q;rw[qPe]at this;cases this
noncomputable def qUv(ts:List (List (List Str)))(i j:Nat):Bool:=qFv (ts.getD i []) (ts.getD j [])
theorem qHj(ts:List (List (List Str))):Ordr (qUv ts):=⟨λa b h=>qLq _ _ h,λa b c h h'=>by
 have h1:qFv (ts.getD b []) (ts.getD a [])=false:=h;have h2:qFv (ts.getD c []) (ts.getD b [])=false:=h';show qFv (ts.getD c []) (ts.getD a [])=false;rcases qHi (ts.getD a []) (ts.getD b []) with q|q|q
 ·rcases qHi (ts.getD b []) (ts.getD c []) with r|r|r
  ·exact qLq _ _ (qGn _ _ _ q r)
  ·rw[<-r];exact h1
  ·rw[h2]at r;cases r
 ·rw[q];exact h2
 ·rw[h1]at q;cases q⟩
theorem qMs(s:Shared){R:Nat->Nat->Bool}(o:Ordr R)(n:Nat):(qHu n R).Perm (List.range n)/\∀i j,i<j->j<n->R ((qHu n R).getD j 0) ((qHu n R).getD i 0)=false:=by
 by_cases h2:n<2
 ·have e:qHu n R=List.range n:=hEn h2;rw[e];exact⟨hDe _,λi j _ hj=>absurd hj (by omega)⟩
 ·have key:∀s:Shared,Gd n (qUu R (kas_sort n))/\SPk R (qUu R (kas_sort n)) n:=λs=>by
   have w:=qNn (s:=s) (n:=n) (R:=R) (cmp:=λi j C s'=>i<n/\j<n/\C (R i j) s') (Q:=λp _=>Gd n p/\SPk R p n) (Q':=λp _=>p=qUu R (kas_sort n)/\Gd n p/\SPk R p n) (λi j C hi hj h=>⟨hi,hj,h⟩) (kas_sort n) (qJ2 o (λi j C hi hj h=>⟨hi,hj,h⟩) (by omega) λp g sp=>⟨g,sp⟩) λa e q=>⟨e,q⟩
   have run:∀(t:KasT (Array Nat)) (Q:Array Nat->Shared->Prop),t.kasWp (λi j C s'=>i<n/\j<n/\C (R i j) s') Q s->Q (qUu R t) s:=by
    intro t
    induction t with
    |ret a=>intro Q h;exact h
    |ask i j k ih=>intro Q h;exact ih _ Q h.2.2
   have:=run _ _ w;exact this.2
  obtain⟨g,sp⟩:=key s;have e:qHu n R=(qUu R (kas_sort n)).toList:=hEm h2;rw[e];refine⟨hBg.mp g,λi j hij hj=>?_⟩;have h:=sp i j hij hj;have gd:∀k,(qUu R (kas_sort n)).getD k 0=(qUu R (kas_sort n)).toList.getD k 0:=λk=>by
   rw[hC6,hA7,hBh]
  rw[gd,gd]at h;exact h
theorem qJj{h:Heap}:∀ {vs:List Value} {ts:List (List (List Str))},Paired (qUz h) vs ts->∀v∈vs,∃t∈ts,qUz h v t
 |_,_,.nil,v,hv=>by cases hv
 |_,_,.cons x r,v,hv=>by
  rcases hAg.mp hv with z|z
  ·subst z;exact⟨_,hA6,x⟩
  ·obtain⟨t,ht,q⟩:=qJj r v z;exact⟨t,hA4 _ ht,q⟩
theorem qGj{h:Heap}:∀ {vs:List Value} {ts:List (List (List Str))} {i:Nat},Paired (qUz h) vs ts->i<vs.length->qUz h (vs.getD i Value.none) (ts.getD i [])
 |_,_,i,.nil,hi=>absurd hi (hC5 _)
 |_,_,0,.cons x _,_=>x
 |_,_,i+1,.cons _ r,hi=>qGj (i:=i) r (by simpa using hi)
section
variable{P:Program}{w:World}{A:Around}{E:Value->Shared->Prop}{s:Shared}
theorem qK1(hu:A.units+8<cLine)(ho:s.heap.get? a=some (seqObj "list" vs.toArray n))(ht:∀h':Heap,(∀b o,b≠a->s.heap.get? b=some o->h'.get? b=some o)->Paired (qUz h') vs ts)(h64:vs.length<64)
  (h:∀(out:List Value) (p:Array Nat),out.Perm vs->Gd vs.length p->SPk (qUv ts) p vs.length->out=p.toList.map (λi=>vs.getD i Value.none)->R (.done (.ret .none)) { s with heap:=sortedHeap s.heap a vs out.toArray }):wpAny (model P w) A (Builtin.«list.sort» ⟨[.ref a],[]⟩) R E s:=by
 rw[list_sort_plain];have ha:a<s.heap.objs.size:=Heap.lt_size ho;refine hEh (hFg ho rfl (hEh (hEr ho rfl ?_ (by rw[hAf,hEq];omega) (hAp _))));obtain⟨e1,ho1⟩:∃e1,(s.heap.update a (Obj.mapSeq λ_=>#[])).get? a=some (seqObj "list" #[] e1):=⟨_,get?_update_seq ho (λ_=>#[])⟩;refine hEh (hF8 ho1 rfl (hEh (hFe ?_ (by show vs.length<=_;rw[hEq];omega))));refine hEh (hEy ?_ (hAp _));refine hEt ?_;have ho6:((vB 0).push (seqObj "list" #[] 0)).get? a=some (seqObj "list" #[] e1):=Heap.get?_push_of_some _ (Heap.get?_push_of_some _ ho1);have keep:∀b o,b≠a->s.heap.get? b=some o->((vB 0).push (seqObj "list" #[] 0)).get? b=some o:=λb o hb e=>by
  refine Heap.get?_push_of_some _ (Heap.get?_push_of_some _ ?_);rw[Heap.get?_update_ne _ _ _ _ hb];exact e
 show wpAny (model P w) A _ R E { s with heap:=(vB 0).push (seqObj "list" #[] 0) };dsimp only;have fin:∀(st':SortSt) (out:List Value),(arrOf st').map (·.2)=out.toArray->failedOf st'=none->out.Perm vs->(∃p,Gd vs.length p/\SPk (qUv ts) p vs.length/\out=p.toList.map (λi=>vs.getD i Value.none))->wpAny (model P w) A (do
   let touched:=(← seqEpoch a) != e1
   Builtin.List.listUpdate (.ref a) λ_=>(arrOf st').map (·.2)
   if let some e:=failedOf st' then rule "list.sort.comparison-raised";throw e
   if touched then rule "list.sort.modified";raiseError "ValueError" "list modified during sort"
   ret .none) R E { s with heap:=(vB 0).push (seqObj "list" #[] 0) }:=by
  intro st' out e hf hp ⟨p,hg,hsp,ep⟩;refine hEh (hF8 ho6 rfl ?_);refine hEh (hEr ho6 rfl ?_ (hAp _) (by rw[e,hAf,hp.length_eq,hEq];omega));rw[hf];simp only[hFd,hCc,hFh];rw[e];exact hEk (h out p hp hg hsp ep)
 by_cases h2:vs.toArray.size<2
 ·rw[hEn h2,hEn h2];refine hEh (hEk ?_);rw[StateT.run_pure];refine hEh (hEk (fin _ vs ?_ rfl (hDe _) ⟨Rng vs.length,hDv _,λi j hij hj=>absurd hj (by rw[hAf]at h2;omega),(qCm vs).symm⟩));show(vs.toArray.zip vs.toArray).map (·.2)=vs.toArray;apply hEd.mp;rw[Array.toList_map,Array.toList_zip];exact hEe (hAa _)
 ·rw[hEm h2,hEm h2];have hl2:2<=vs.length:=by rw[hAf]at h2;omega
  refine hEh (kas_kind (T:=.type "list") hl2 (λv hv=>?_) (by decide) (by decide) ?_)
  ·obtain⟨t,_,b,its,rfl,⟨o,g,c,_⟩,st⟩:=qJj (ht _ keep) v hv;exact kitAt_ty _ _ ⟨o,g,c⟩
  refine hEh (hEu (kat_run (ks:=vs) (Q:=λst' s'=>s'={ s with heap:=(vB 0).push (seqObj "list" #[] 0) }/\∃out:List Value,(arrOf st').map (·.2)=out.toArray/\failedOf st'=none/\out.Perm vs/\∃p,Gd vs.length p/\SPk (qUv ts) p vs.length/\out=p.toList.map (λi=>vs.getD i Value.none)) (G:=λp s'=>s'={ s with heap:=(vB 0).push (seqObj "list" #[] 0) }/\Gd vs.length p/\SPk (qUv ts) p vs.length) rfl hl2 h64 (λp st' s' a1 a2 a3 a4=>?_) ?_) ?_ λ_ _ e=>e)
  ·obtain⟨rfl,g,sp⟩:=a4;refine⟨rfl,_,kat_snds rfl a2,a3,?_,p,g,sp,rfl⟩;have q:=(hBg.mp g).map λi=>vs.getD i Value.none
   exact q.trans (hDg (qCm vs))
  ·refine qJ2 (qHj ts) (λi j C hi hj hC=>?_) (by omega) λp g sp=>⟨rfl,g,sp⟩
   exact qPm hu (qGj (ht _ keep) hi) (qGj (ht _ keep) hj) hC
  ·rintro⟨⟨⟩,st'⟩ s' ⟨rfl,out,q1,q2,q3,q4⟩;exact fin st' out q1 q2 q3 q4
end
def qU0(K:PySem.W.Frag)(H:Hp)(a:Addr)(R:List (List Str)):Prop:=∃bs:List Addr,H a=some (.lst (bs.map V.ref))/\Paired (λb r=>H b=some (.lst (r.map V.str))) bs R
section
variable{X:Cx}
theorem qLs{h':Heap}(I:Inv X aB σ H s)(k:∀b o,s.heap.get? b=some o->h'.get? b=some o):∀ {as:List Addr} {ts:List (List (List Str))},Paired (qU0 X.K H) as ts->Paired (qUz h') (as.map Value.ref) ts
 |_,_,.nil=>.nil
 |_,_,.cons h t=>by
  obtain⟨bs,h2,h3⟩:=h;obtain⟨its,rv,⟨o,n,e,c,_,dt⟩,_⟩:=I.list (.inl (.inl h2));have ei:=qE1 rv;subst ei;exact .cons ⟨_,_,rfl,⟨o,k _ _ e,c,n,dt⟩,qHk I k (Paired.mapP h3 λa r z=>.inl (.inl z))⟩ (qLs I k t)
theorem qKs(hu:X.A.units+10<cLine):qB2 X (.builtin "sorted") (λxs H Q=>∃(p:Addr) (as:List Addr) (ts:List (List (List Str))),xs=[.ref p]/\SqL X.K H p (as.map V.ref)/\Paired (qU0 X.K H) as ts/\as.length<64/\∀(r:Addr) (o:Array Nat),H r=none->Gd as.length o->SPk (qUv ts) o as.length->Q (.ref r) (upd H r (.lst ((o.toList.map λi=>as.getD i 0).map V.ref)))):=by
 intro aB s σ H xs us Q I r h;obtain⟨p,as,ts,rfl,hq,ht,h64,q⟩:=h;obtain⟨u,rfl,rx⟩:=qCy r;cases rx;obtain⟨its,rv,pl,hz⟩:=I.list hq;have ei:=qE1 rv;subst ei;refine Calls.call_function_entry hFu hFo hFp (args_sorted1 _) ?_;unfold Builtin.«sorted»;refine hEh (m:=checkCount "sorted" 1 1 _) (hEk (hEh (hFw pl.isList ?_ (by rw[hA1,hEq];omega))));refine hEh (hEy ?_ (by rw[hA1,hEq];omega));have hsz:(vC 0).objs.size=s.heap.objs.size+1:=by rw[Heap.size_update,hFn]
 have hoL:((vC 0).push (seqObj "list" (as.map Value.ref).toArray 0)).get? (s.heap.objs.size+1)=some (seqObj "list" (as.map Value.ref).toArray 0):=by
  rw[<-hsz];exact Heap.get?_push_size _ rfl
 have keep:∀b o,s.heap.get? b=some o->((vC 0).push (seqObj "list" (as.map Value.ref).toArray 0)).get? b=some o:=λb o e=>by
  have hlt:b<s.heap.objs.size:=Heap.lt_size e;rw[Heap.get?_push_ne _ _ _ (by rw[hsz];exact hAu (hBv hlt)),Heap.get?_update_ne _ _ _ _ (hAu hlt),Heap.get?_push_ne _ _ _ (hAu hlt)];exact e
 show wpAny _ _ _ _ _ { s with heap:=(vC 0).push (seqObj "list" (as.map Value.ref).toArray 0) };rw[hsz];refine hEh (hEt (hEs slot_list_sort ⟨_,hoL,rfl⟩ entry_list_sort (qK1 ?hu hoL (λh' k=>qLs I (λb o e=>k b o (hAu (hBv (Heap.lt_size e))) (keep b o e)) ht) (by rw[hA1];exact h64) λout o hp hg hsp eo=>⟨_,rfl,?_⟩) (hFy _)))
 case hu=>omega
 rw[hA1]at hg hsp;rw[qId λi hi=>qL0 hg hi]at eo;subst eo;have nz:H (s.heap.objs.size+1)=none:=I.hok.fresh (hBk _);obtain⟨e,he⟩:=hFv s.heap (as.map Value.ref) ((o.toList.map λi=>as.getD i 0).map Value.ref).toArray;refine hEk ⟨_,rfl,.ref (s.heap.objs.size+1),_,I.laid (t':=s.toks) (a:=s.heap.objs.size+1) (o:=.lst ((o.toList.map λi=>as.getD i 0).map V.ref)) (h':=sortedAll s.heap (as.map Value.ref) ((o.toList.map λi=>as.getD i 0).map Value.ref).toArray) (λb o eb=>hFq eb) (hBk _) ⟨?_,(o.toList.map λi=>as.getD i 0).map Value.ref,e,qD3 _,he⟩,rfl,q _ o nz hg hsp⟩;rw[hA1,hA1,qPq hg];exact hB5 (qAf (by omega))
def qSl(K:PySem.W.Frag):V->List V->Hp->VK->Prop:=λx vs H Q=>∃(l:Addr) (xs:List V) (v:V) (ds:List PyData) (d:PyData),x = .ref l/\vs=[v]/\H l=some (.lst xs)/\DRs K H xs ds/\DR K H v d/\PyData.canLayAll0 ds=true/\PyData.canLay0 d=true/\PyData.depth d<=16/\Q (.int ((ds.countP (λy=>PyData.eqv y d):Nat):Int)) H
theorem qS5(hu:X.A.units+65<cLine):MtR X "list.count" (qSl X.K):=by
 intro aB s σ H x vs v us Q I rx rv h;obtain⟨l,xs,y,ds,d,rfl,rfl,hH,hds,hd,cl,cd,dp,q⟩:=h;cases rx;obtain⟨u,rfl,ru⟩:=rv.one;obtain⟨z,its,nn,r,hl,e⟩:=I.lstM hH;obtain⟨a1,r1⟩:=DR.reads I hd ru;obtain⟨a2,r2⟩:=DRs.reads I hds r;have he:=items_eqAt (A:=X.A) (vs:=its.toArray) (by simpa using r2) r1 cl cd (by
  have h2:=Nat.min_le_right (PyData.depthAll ds) (PyData.depth d);omega)
 have mp:=readsAll_map _ _ _ cl r2;refine hFc F.slot_list_count ⟨_,e,rfl⟩ F.entry_list_count (F.args_list_count_2 _ _) (list_countAt l its.toArray nn none #[] u _) ⟨e,he,?_⟩;refine⟨.int _,H,I.tok _,⟨_,rfl⟩,?_⟩;rw[<-mp,List.countP_map]at q;exact q
end
end L2
namespace My
open PySem L2
theorem qS9(nd:aA.Nodup)(x:Nat):qB6 aA (rowL aA x)=rv aA.length x:=by
 rw[<-qSd,qFt nd (qIw _ _)]
theorem qJi(nd:aA.Nodup)(N:List Nat):(N.map (rowL aA)).map (qB6 aA)=N.map (rv aA.length):=by
 rw[hB6];exact hBs λx _=>qS9 nd x
noncomputable def toE(aA:List Str)(e:PE1):PaE:=(e.1,e.2.map (rowM aA))
noncomputable def told(aA:List Str)(S:List Nat):List PaE:=(srtL aA (jF aA.length S)).map (toE aA)
theorem qRk(pm:(qHu J.length (ltJ aA J)).Perm (List.range J.length)):(srtL aA J).length=J.length/\∀e∈srtL aA J,e∈J:=by
 refine⟨by unfold srtL;rw[hA1,pm.length_eq,hB0],λe he=>?_⟩;unfold srtL at he;obtain⟨i,hi,rfl⟩:=hAb.mp he;have:i<J.length:=hAy.mp (pm.mem_iff.mp hi);rw[hA7,hA2 this];exact hC4 this
theorem qX8(S:List Nat):∀(k:Nat) {gs:List Nat},Sh w gs->gs.length<=k+2->paF S k gs≠[]
 |0,gs,h,l=>absurd h.l3 (by omega)
 |k+1,gs,h,l=>by
  unfold paF;split
  ·simp
  ·rename_i c;obtain⟨xl,s1,s2⟩:=qL1 c;revert xl s1 s2;generalize fpF (shF S gs) gs.length=x;intro xl s1 s2;obtain⟨t1,t2,t3⟩:=qD5 h.pt.nd xl s1 s2;have sp:=qCk h.pt.nd x;have pn:∀ {l:List Nat},2<=l.length->l≠[]:=λ{l} h z=>by rw[z]at h;exact absurd h (by decide)
   have A:=qX8 (w:=w) S k (gs:=beF (rowI gs x) (outF gs (rowI gs x))) ⟨(h.pt.perm sp).beside (pn t2),by rw[qBk];omega⟩ (by rw[qBk];omega);exact λz=>A (List.append_eq_nil_iff.mp z).1
theorem qXf{l:List Nat}{g:Nat}(h:g∈l):g<=l.sum:=by
 induction l with
 |nil=>cases h
 |cons a l ih =>
  rw[hDd];rcases hAg.mp h with z|z
  ·omega
  ·have:=ih z;omega
theorem qY4{aA:List Str}(tx:Tx aA)(S:List Nat)(h3:3<=aA.length)(h12:aA.length<=12)(pm:(qHu (jF aA.length S).length (ltJ aA (jF aA.length S))).Perm (List.range (jF aA.length S).length)) :
  PaOk (told aA S)/\(∀e∈told aA S,∀r∈e.2,∀x∈r,x∈aA)/\told aA S≠[]:=by
 obtain⟨jok,_,_⟩:=zA7 S h3 h12;obtain⟨sl,sm⟩:=qRk pm;have p1:=hCn (n:=aA.length);have key:∀e∈told aA S,∃e',e=toE aA e'/\Sh (2^aA.length-1) e'.2/\(e'.1 = "ring"\/e'.1 = "bundle"\/e'.1 = "whole"):=λe he=>by
  obtain⟨e',h,rfl⟩:=hAb.mp he;exact⟨e',rfl,jok.sh e' (sm e' h),jok.kd e' (sm e' h)⟩
 refine⟨⟨?_,λe he=>?_,λe he=>?_,λe he=>?_,λe he r hr=>?_⟩,λe he r hr x hx=>?_,λz=>?_⟩
 ·unfold told;rw[hA1,sl];exact jok.ln
 ·obtain⟨e',rfl,_,k⟩:=key e he;exact k
 ·obtain⟨e',rfl,s,_⟩:=key e he;show 3<=(e'.2.map _).length;rw[hA1];exact s.l3
 ·obtain⟨e',rfl,s,_⟩:=key e he;show(e'.2.map _).length<=12;rw[hA1];exact hAw (s.pt.len (n:=aA.length) (by omega)) h12
 ·obtain⟨e',rfl,s,_⟩:=key e he;obtain⟨g,hg,rfl⟩:=hAb.mp hr;have gl:g<2^aA.length:=by have:=qXf hg;rw[s.pt.su]at this;omega
  obtain⟨n,rest,e1,_⟩:=qH3 (aA:=aA) (s.pt.nz g hg) gl;refine⟨(λz=>by rw[e1]at z;cases z),?_,λx hx=>tx x (qHd hx)⟩;unfold rowM;have:=hC0 (λi=>if g.testBit (aA.length-1-i)=true then aA[i]? else none) (List.range aA.length);rw[hB0]at this;omega
 ·obtain⟨e',rfl,s,_⟩:=key e he;obtain⟨g,hg,rfl⟩:=hAb.mp hr;exact qHd hx
 ·have l0:(jF aA.length S).length=0:=by
   rw[<-sl];have:=congrArg List.length z;unfold told at this;rw[hA1]at this;exact this
  have ne:paF S 10 (singF aA.length)≠[]:=qX8 S 10 (w:=2^aA.length-1) ⟨qHx _,by rw[qBt];exact h3⟩ (by rw[qBt];omega);unfold jF joF at l0;rcases List.eq_nil_or_concat (paF S 10 (singF aA.length)) with z|⟨l,e,z⟩
  ·exact ne z
  ·rw[z,List.concat_eq_append,hBm]at l0;have:0<(joS (2^aA.length-1) (l.foldl (joS (2^aA.length-1)) []) e).length:=by
    unfold joS;rw[hAc];show 0<_+1;omega
   have l0':(joS (2^aA.length-1) (l.foldl (joS (2^aA.length-1)) []) e).length=0:=l0;omega
noncomputable def paD(e:PaE):PyData:=.tuple [.str e.1,qCu e.2]
noncomputable def zD2(es:List PaE):PyData:=.list (es.map paD)
theorem qYp(hL:H L=some (.lst (ts.map V.ref)))(pr:Paired (PaT H) ts es):DR K H (.ref L) (zD2 es):=by
 have:∀ {ts:List Addr} {es:List PaE},Paired (PaT H) ts es->DRs K H (ts.map V.ref) (es.map paD):=by
  intro ts es pr
  induction pr with
  |nil=>exact .nil
  |cons h t ih =>
   obtain⟨G,h1,h2⟩:=h;exact .cons (.tup (SqT.of h1) (.cons (.str _) (.cons (qFb h2) .nil))) ih
 exact .lst (SqL.of hL) (this pr)
theorem zCm(h:Sm s)(l:s.length<=n):Rb n (.str s):=by
 refine⟨rfl,rfl,?_,l⟩;show(s.cps.toList.all λc=>decide (c<16^8))=true;rw[hDa];intro c hc;exact hEi (Nat.lt_trans (h c hc) (by decide))
theorem qIp:∀ {ds:List PyData},(∀d∈ds,d.depth<=n)->PyData.depthAll ds<=n
 |[],_=>hAp _
 |d :: ds,h=>Nat.max_le.mpr ⟨h d hA6,qIp λx hx=>h x (hA4 _ hx)⟩
def SmD(n k:Nat)(D:PyData):Prop:=Rb n D/\D.depth<=k
theorem SmD.lst{m n k:Nat}{Ds:List PyData}(h:∀d∈Ds,SmD m k d)(l:(m+1)*Ds.length<=n):SmD n (k+1) (.list Ds) :=
 ⟨((RbA.all λd hd=>(h d hd).1).lst).mono l,hC9 (qIp λd hd=>(h d hd).2)⟩
theorem SmD.tup{m n k:Nat}{Ds:List PyData}(h:∀d∈Ds,SmD m k d)(l:(m+1)*Ds.length<=n):SmD n (k+1) (.tuple Ds) :=
 ⟨((RbA.all λd hd=>(h d hd).1).tup).mono l,hC9 (qIp λd hd=>(h d hd).2)⟩
theorem qXw(h:Sm s)(l:s.length<=n):SmD n k (.str s):=⟨zCm h l,hAp _⟩
theorem SmD.ok(h:SmD n k D)(hn:n<=100000)(hk:k<=16):zE5 D:=by
 have:=PyData.shown_le_bulk 8 (hAa _) D h.1.2.2.1;have z:(1000100:Nat)<=sizeLine:=by decide
 have b:=h.1.2.2.2;exact⟨h.1.1,h.1.2.1,by omega,hAw h.2 hk⟩
theorem zB9(tx:Tx r)(l:r.length<=12):SmD 84 1 (qE0 r):=SmD.lst (m:=6) (λd hd=>by
  obtain⟨x,hx,rfl⟩:=hAb.mp hd;exact qXw (tx x hx).1.sm (tx x hx).2.2) (by rw[hA1];omega)
theorem qY9(h:∀r∈R,r.length<=12/\Tx r)(l:R.length<=24):SmD 2040 2 (qCu R):=SmD.lst (m:=84) (λd hd=>by
  obtain⟨r,hr,rfl⟩:=hAb.mp hd;exact zB9 (h r hr).2 (h r hr).1) (by rw[hA1];omega)
theorem PaOk.rp(ok:PaOk es):zE5 (zD2 es):=by
 have l:=ok.ln;refine SmD.ok (n:=50000) (k:=4) (SmD.lst (m:=4082) (λd hd=>?_) (by rw[hA1];omega)) (by decide) (by decide);obtain⟨e,he,rfl⟩:=hAb.mp hd;have l12:=ok.l12 e he;refine SmD.tup (m:=2040) (λd hd=>?_) (by show 2041*2<=4082;decide);rcases hAg.mp hd with z|z
 ·rw[z];have k:∀x:Str,x = "ring"\/x = "bundle"\/x = "whole"->Sm x/\x.length<=2040:=λx hx=>by
   have sm:∀x:Str,(x.cps.toList.all λc=>decide (c<128))=true->Sm x:=λx h c hc=>hEl (hDa.mp h c hc)
   rcases hx with z|z|z <;> rw[z] <;> exact⟨sm _ (by decide +kernel),by decide +kernel⟩
  exact qXw (k e.1 (ok.kd e he)).1 (k e.1 (ok.kd e he)).2
 ·rw[hA9.mp z];exact qY9 (λr hr=>⟨(ok.rw e he r hr).2.1,(ok.rw e he r hr).2.2⟩) (by omega)
theorem qZr(tx:Tx aA)(l:aA.length<=12)(x:Nat):(rowL aA x).length<=12/\Tx (rowL aA x):=by
 refine⟨?_,λy hy=>?_⟩
 ·unfold rowL;have:=hC0 (λi=>if x.testBit i=true then aA[i]? else none) (List.range aA.length);rw[hB0]at this;omega
 ·obtain⟨i,_,h,_⟩:=qBz.mp hy;exact tx y (hAh h)
def Dsc(l:List Nat):Prop:=l.Pairwise λa b=>b<=a
theorem qVb(n:Nat):Dsc (singF n):=by
 refine hD3.mpr λi j hi hj hij=>?_
 rw[qBt]at hi hj;have gi:=qFj hi;have gj:=qFj hj;rw[hA2 (by rw[qBt];exact hi)]at gi;rw[hA2 (by rw[qBt];exact hj)]at gj;rw[hAq gi,hAq gj];exact hBf (by decide) (by omega)
theorem qNg(S:List Nat):∀(k:Nat) {gs:List Nat},Dsc gs->∀e∈paF S k gs,Dsc e.2
 |0,gs,h,e,he=>by cases he
 |k+1,gs,h,e,he=>by
  unfold paF at he;split at he
  ·rw[hA9.mp he];exact h
  ·rcases hAd.mp he with z|z
   ·exact qNg S k (qF1 _) e z
   ·exact qNg S k (qF1 _) e z
theorem qTn(w:Nat):∀(ms:List PE1) {gs:List Nat},Dsc gs->Dsc (foF w ms gs)
 |[],_,h=>h
 |m :: ms,gs,_=>qTn w ms (qF1 _)
theorem zA6(w:Nat)(ps:List PE1)(h:∀e∈ps,Dsc e.2):∀e∈joF w ps,Dsc e.2:=by
 have:∀i,∀e∈joF w (ps.take i),Dsc e.2:=by
  intro i
  induction i with
  |zero=>intro e he;cases he
  |succ i ih =>
   cases hi:ps[i]? with
   |none =>
    have l:ps.length<=i:=List.getElem?_eq_none_iff.mp hi;rw[hA5 l]at ih;rw[hA5 (by omega)];exact ih
   |some e0 =>
    rw[qAl hi,qHm];intro e he;unfold joS at he;rcases hAd.mp he with z|z
    ·exact ih e (qFm z).1
    ·rw[hA9.mp z];exact qTn w _ (h e0 (hAh hi))
 have q:=this ps.length;rw[hA5 (hAa _)]at q;exact q
theorem zDc(n:Nat)(S:List Nat):∀e∈jF n S,Dsc e.2:=zA6 _ _ (qNg S 10 (qVb n))
theorem zDp(nz:∀g∈gs,g≠0)(d:Dis gs):RR gs:=⟨nz,hBp (λ{a b} ha hb z=>⟨by
  cases q:b.testBit a.log2 with
  |false=>rfl
  |true=>exact(qBl z (hBt (nz a ha)) q).elim,by
  cases q:a.testBit b.log2 with
  |false=>rfl
  |true=>exact(qBl z q (hBt (nz b hb))).elim⟩) d⟩
theorem qH4(ha:qEp a)(hb:qEp b)(p:a.Perm b):a=b:=by
 have k:∀ {l:List Str},qEp l->Srt (l.map λx=>[x]):=λ{l} h=>hBb.mpr (h.imp λ{x y} q=>by
  show ltL [y] [x]=false;unfold ltL;rw[hEm (λe=>by rw[e,qCc]at q;cases q)];cases z:qQn y x with
  |false=>rfl
  |true=>have:=qC2 q z;rw[qCc]at this;cases this)
 have:=qHc (k ha) (k hb) (p.map _);have e:=congrArg (λl:List (List Str)=>l.flatten) this;have f:∀l:List Str,(l.map λx=>[x]).flatten=l:=λl=>by induction l with
  |nil=>rfl
  |cons x l ih=>rw[hBj,List.flatten_cons,ih];rfl
 simp only[f]at e;exact e
theorem qD8(rn:qEp aA)(g:Nat):qEp (rowM aA g):=by
 have:=qPt (f:=λi=>if g.testBit (aA.length-1-i)=true then aA[i]? else none) (g:=λi=>aA[i]?) (λi=>by
  by_cases c:g.testBit (aA.length-1-i)=true
  ·exact .inr (hEn c)
  ·exact .inl (hEm c)) (List.range aA.length)
 rw[qPv]at this;exact List.Pairwise.sublist this rn
theorem qVy(nd:aA.Nodup)(hg:g<2^aA.length)(hh:h<2^aA.length)(e:rowM aA g=rowM aA h):g=h:=by
 rw[<-qFt nd hg,<-qFt nd hh,e]
theorem qOr(hi:i<aA.length)(nd:aA.Nodup):rowM aA (2^(aA.length-1-i))=[aA[i]]:=by
 have m:∀x,x∈rowM aA (2^(aA.length-1-i))↔x=aA[i]:=λx=>by
  rw[qCf];constructor
  ·rintro⟨j,hj,h1,h2⟩;rw[hB4,hEp]at h2;have:j=i:=by omega
   subst this;rw[hA2 hj]at h1;exact(hAq h1).symm
  ·intro h;exact⟨i,hi,by rw[hA2 hi,h],by rw[hB4,hEi rfl]⟩
 have nd':(rowM aA (2^(aA.length-1-i))).Nodup:=by
  have:=qPt (f:=λj=>if (2^(aA.length-1-i)).testBit (aA.length-1-j)=true then aA[j]? else none) (g:=λj=>aA[j]?) (λj=>by
   by_cases c:(2^(aA.length-1-i)).testBit (aA.length-1-j)=true
   ·exact .inr (hEn c)
   ·exact .inl (hEm c)) (List.range aA.length)
  rw[qPv]at this;exact nd.sublist this
 have p:(rowM aA (2^(aA.length-1-i))).Perm [aA[i]]:=(hBq nd' (hBw _ _)).mpr λx=>by rw[m,hA9]
 exact List.perm_singleton.mp p
theorem qOs(nd:aA.Nodup)(hg:g<2^aA.length)(nz:g≠0):sgl g=decide ((rowM aA g).length=1):=by
 cases q:sgl g with
 |true =>
  have e:=qM1 q nz;have hl:g.log2<aA.length:=(hEg nz).mpr hg;have r:=qOr (aA:=aA) (i:=aA.length-1-g.log2) (by omega) nd;rw[show aA.length-1-(aA.length-1-g.log2)=g.log2 by omega,<-e]at r;rw[r];rfl
 |false =>
  refine(hEj λz=>?_).symm;obtain⟨i,j,ne,hi,hj⟩:=qJq q;have mem:∀ {k},g.testBit k=true->∃x,aA[aA.length-1-k]?=some x/\x∈rowM aA g/\k<aA.length:=λ{k} hk=>by
   have kl:=qG4 hg hk;have gx:aA[aA.length-1-k]?=some (aA[aA.length-1-k]'(by omega)):=hA2 _;exact⟨_,gx,qCf.mpr ⟨_,by omega,gx,by rw[show aA.length-1-(aA.length-1-k)=k by omega];exact hk⟩,kl⟩
  obtain⟨x,gx,hx,il⟩:=mem hi;obtain⟨y,gy,hy,jl⟩:=mem hj;obtain⟨a,ea⟩:=List.length_eq_one_iff.mp z;rw[ea]at hx hy;have xy:x=y:=(hA9.mp hx).trans (hA9.mp hy).symm;rw[xy]at gx;have:=qLm nd gx gy;omega
theorem qSc(rn:qEp aA)(hg:g<2^aA.length):aA.filter (λx=>!decide (x∈rowM aA g))=rowM aA ((2^aA.length-1)^^^g):=by
 have nd:=qC5 rn;refine qH4 (List.Pairwise.sublist hCh rn) (qD8 rn _) ((hBq (nd.sublist hCh) (qC5 (qD8 rn _))).mpr λx=>?_);rw[hAj];show _↔x∈rowM aA ((2^aA.length-1)^^^g);rw[qCf (z:=(2^aA.length-1)^^^g)];have key:∀ {i:Nat},i<aA.length->((2^aA.length-1)^^^g).testBit (aA.length-1-i)=!g.testBit (aA.length-1-i):=λ{i} hi=>by
  rw[hAo,hBz,hEi (by omega)];cases g.testBit (aA.length-1-i) <;> rfl
 constructor
 ·rintro⟨h1,h2⟩;obtain⟨i,hi,e⟩:=hEc.mp h1;have gx:aA[i]?=some x:=by rw[hA2 hi,e]
  refine⟨i,hi,gx,?_⟩;rw[key hi];cases q:g.testBit (aA.length-1-i) with
  |false=>rfl
  |true=>rw[hEi (qCf.mpr ⟨i,hi,gx,q⟩)]at h2;cases h2
 ·rintro⟨i,hi,gx,hb⟩;refine⟨hAh gx,?_⟩;rw[key hi]at hb;rw[hEj λz=>by
   obtain⟨j,hj,gy,hb'⟩:=qCf.mp z;rw[qLm nd gy gx]at hb';rw[hb']at hb;cases hb];rfl
theorem qYj(lt:∀x∈N,x<2^n)(hg:g<2^n):(insF N (rv n g)).length=(kr (dsF (N.map (rv n))) ((2^n-1)^^^g)).length:=by
 have lf:∀x∈(sumF N).filter (λz=>decide (z&&&rv n g=z)),x<2^n:=λx hx=>Spn.lt lt ((qBe N x).mp (hAj.mp hx).1)
 obtain⟨_,e2⟩:=qE2 _ lf;have l1:(insF N (rv n g)).length=dm (((sumF N).filter (λz=>decide (z&&&rv n g=z))).map (rv n)):=by
  unfold dm;rw[<-e2,hA1];rfl
 have sp:∀y,Spn (dsF (N.map (rv n))) y↔Spn (N.map (rv n)) y:=λy=>by
  rw[<-qBs (N.map (rv n)) y];exact⟨Spn.mono λx hx=>.mem (qJk.mp hx),Spn.mono λx hx=>.mem (qJk.mpr hx)⟩
 have rvand:∀ {a b:Nat},rv n (a&&&b)=rv n a&&&rv n b:=λ{a b}=>hAl λi=>by
  rw[hAv,qCq,qCq,qCq,hAv];cases decide (i<n) <;> rfl
 rw[l1,<-qNl];refine hDi (qEq λz hz=>?_) (qEq λz hz=>?_)
 ·obtain⟨y,hy,rfl⟩:=hAb.mp hz;obtain⟨h1,h2⟩:=hAj.mp hy;have hs:=(qBe N y).mp h1;refine qBv.mpr ⟨(sp _).mpr ((qDk lt (hs.lt lt)).mpr hs),(qGt (qIw n y)).mpr ?_⟩;have:=congrArg (rv n) (hEl h2);rw[rvand,qIv hg]at this;exact this
 ·obtain⟨h1,h2⟩:=qBv.mp (.mem hz);have h3:=(sp z).mp h1;have zl:z<2^n:=Spn.lt (λx hx=>by obtain⟨y,_,rfl⟩:=hAb.mp hx;exact qIw n y) h3;have h4:=(qGt zl).mp h2;have h5:=(qDk lt (qIw n z)).mp (by rw[qIv zl];exact h3);refine .mem (hAb.mpr ⟨rv n z,hAj.mpr ⟨(qBe N _).mpr h5,hEi ?_⟩,qIv zl⟩);rw[<-rvand,h4]
theorem zEj:rv n ((2^n-1)^^^g)=(2^n-1)^^^rv n g:=hAl λi=>by
 rw[qCq,hAo,hAo,qCq,hBz,hBz];by_cases c:i<n
 ·rw[hEi c,hEi (by omega:n-1-i<n)];cases g.testBit (n-1-i) <;> rfl
 ·rw[hEj c];rfl
theorem qZy(lt:∀x∈N,x<2^n)(lr:Lrr N)(hg:g<2^n)(h:Prt (dsF (N.map (rv n))) g):(insF N (rv n g)).length+(insF N ((2^n-1)^^^rv n g)).length+1=N.length:=by
 have ls:∀s∈dsF (N.map (rv n)),s<2^n:=λs hs=>qOy (λx hx=>by obtain⟨y,_,rfl⟩:=hAb.mp hx;exact qIw n y) s (qJk.mp hs)
 have k:=(qX3 (zBj _) ls g).mp h;have e1:=qYj lt hg;have e2:=qYj lt (qN6 hg);rw[zEj,xx]at e2;have lN:(dsF (N.map (rv n))).length=N.length:=by
  rw[qTu];obtain⟨m,gm,rr⟩:=lr;have d1:dm (N.map (rv n))<=N.length:=by
   have:∀l:List Nat,dm l<=l.length:=λl=>qFh (P:=λl=>dm l<=l.length) (hAa _) (λl t ih=>by
    rw[hAc];by_cases c:Spn l t
    ·rw[(qFc l t).1 c];exact hEa ih
    ·rw[(qFc l t).2 c];exact hC9 ih) l
   have:=this (N.map (rv n));rw[hA1]at this;exact this
  have d2:N.length<=dm (N.map (rv n)):=by
   have gl:∀x∈N,x<2^m:=λx hx=>(gm x hx).1
   have c1:=qCz N;have nd:(sumF N).Nodup:=by
    have:=qEz _ rr;have e:sumF (N.map (rv m))=(sumF N).map (rv m):=qFh (P:=λN=>sumF (N.map (rv m))=(sumF N).map (rv m)) (by show [0]=[rv m 0];rw[qGf]) (λl t ih=>by
     rw[hA3];show sumF (l.map (rv m)++[rv m t])=_;rw[qDj,qDj,ih,hA3,hB6,hB6];congr 1;exact hBs λz _=>(qOq m z t).symm) N
    rw[e]at this;exact hEb (λ{a b} h z=>h (by rw[z])) (hBb.mp this)
   have rr2:=qCi (N.map (rv n));have c2:=qCz (red (N.map (rv n)));have sub:∀z∈(sumF N).map (rv n),z∈sumF (red (N.map (rv n))):=λz hz=>by
    obtain⟨y,hy,rfl⟩:=hAb.mp hz;have hs:=(qBe N y).mp hy;exact(qBe _ _).mpr ((qBs _ _).mpr ((qDk lt (hs.lt lt)).mpr hs))
   have nd2:((sumF N).map (rv n)).Nodup:=hBb.mpr (hBp (λ{a b} ha hb h z=>h (by
    have la:=((qBe N a).mp ha).lt lt;have lb:=((qBe N b).mp hb).lt lt;rw[<-qIv la,<-qIv lb,z])) nd)
   have le:((sumF N).map (rv n)).length<=(sumF (red (N.map (rv n)))).length:=by
    have p:((sumF N).map (rv n)).Perm ((sumF (red (N.map (rv n)))).filter λz=>decide (z∈(sumF N).map (rv n))):=(hBq nd2 ((qEz _ rr2).sublist hCh)).mpr λz=>by
     rw[hAj,hEp];exact⟨λhz=>⟨sub z hz,hz⟩,λhz=>hz.2⟩
    rw[p.length_eq];exact hAs _ _
   rw[hA1,c1,c2]at le;exact(hDw (by decide)).mp le
  exact hDi d1 d2
 omega
noncomputable def gsE(es:List PaE):List (List Str):=(es.map (·.2)).flatten
structure FitOk(aA:List Str)(N:List Nat)(es:List PaE):Prop where
 f1:∀e∈es,e.2.flatten.Perm aA
 f2:∀e∈es,Srt e.2
 f3:∀e∈es,∀r∈e.2,qEp r
 f4:(es.map (·.2)).Pairwise (λa b=>qFv b a=false)
 f5:((gsE es).filter (λr=>decide (r.length=1))).Perm (aA.map λx=>[x])
 f6:∀r∈gsE es,1<r.length->(insF N (maskL aA r)).length+(insF N (2^aA.length-1-maskL aA r)).length+1=N.length/\(gsE es).count (aA.filter λx=>!decide (x∈r))=1
theorem qWx(f:α->β)(L:List (List α)):(L.map λl=>l.map f).flatten=L.flatten.map f:=by rw[List.map_flatten]
theorem qVw(rn:qEp aA)(h:Pt (2^aA.length-1) gs):(gs.map (rowM aA)).flatten.Perm aA:=by
 have nd:=qC5 rn;have key:∀ {i:Nat},i<aA.length->∃g∈gs,g.testBit (aA.length-1-i)=true:=λ{i} hi=>by
  have b:(2^aA.length-1).testBit (aA.length-1-i)=true:=qHn.mpr (by omega);rw[<-h.su]at b;exact(qB1 h.di _).mp b
 refine(hBq ?_ nd).mpr λx=>?_
 ·refine List.pairwise_flatten.mpr ?_;refine⟨λl hl=>?_,?_⟩
  ·obtain⟨g,_,rfl⟩:=hAb.mp hl;exact qC5 (qD8 rn g)
  ·refine hBb.mpr (h.di.imp λ{a b} z=>?_);intro x hx y hy exy;rw[<-exy]at hy;obtain⟨i,hi,e1,b1⟩:=qCf.mp hx;obtain⟨j,hj,e2,b2⟩:=qCf.mp hy;rw[qLm nd e2 e1]at b2;exact qBl z b1 b2
 ·rw[hCx];constructor
  ·rintro⟨l,hl,hx⟩;obtain⟨g,_,rfl⟩:=hAb.mp hl;exact qHd hx
  ·intro hx;obtain⟨i,hi,e⟩:=hEc.mp hx;obtain⟨g,hg,hb⟩:=key hi;exact⟨_,hB3 hg,qCf.mpr ⟨i,hi,by rw[hA2 hi,e],hb⟩⟩
theorem qWw(h:r<2^n):2^n-1-r=(2^n-1)^^^r:=by
 have d:r&&&((2^n-1)^^^r)=0:=hAl λi=>by
  rw[hAv,hAo,hBl];cases q:r.testBit i with
  |false=>rfl
  |true=>rw[qHn.mpr (qG4 h q)];rfl
 have e:=qMj d;rw[qZ7 λi hi=>qHn.mpr (qG4 h hi)]at e;omega
theorem qRd(s:Shared):((told aA S).map (·.2)).Pairwise (λa b=>qFv b a=false)/\(gsE (told aA S)).Perm (((jF aA.length S).map (·.2)).flatten.map (rowM aA)):=by
 generalize hJ:jF aA.length S=J;obtain⟨pm,so⟩:=qMs s (qHj (keyJ aA J)) J.length;have e1:(told aA S).map (·.2)=(qHu J.length (qUv (keyJ aA J))).map λi=>(keyJ aA J).getD i []:=by
  unfold told srtL;rw[hJ,hB6,hB6];refine hBs λi hi=>?_
  have:i<J.length:=hAy.mp (pm.mem_iff.mp hi);show(toE aA (J.getD i ("",[]))).2=(keyJ aA J).getD i [];unfold keyJ;rw[hA7,hA7,hAi,hA2 this];rfl
 have lp:(qHu J.length (qUv (keyJ aA J))).length=J.length:=by rw[pm.length_eq,hB0]
 refine⟨?_,?_⟩
 ·rw[e1,hBb,hD3];intro i j hi hj hij;have:=so i j hij (by rw[<-lp];exact hj);rw[hA7,hA7,hA2 hi,hA2 hj]at this;exact this
 ·unfold gsE;rw[e1];have p2:((qHu J.length (qUv (keyJ aA J))).map λi=>(keyJ aA J).getD i []).Perm (keyJ aA J):=by
   have q:=pm.map λi=>(keyJ aA J).getD i []
   have r:(List.range J.length).map (λi=>(keyJ aA J).getD i [])=keyJ aA J:=by
    have lk:(keyJ aA J).length=J.length:=by unfold keyJ;rw[hA1]
    refine hCs λi=>?_
    rw[hAi];by_cases c:i<J.length
    ·rw[hCq c,hDu,hA7,hA2 (by omega)];rfl
    ·rw[hB7 (by rw[hB0];omega),hB7 (by omega)];rfl
   rw[r]at q;exact q
  refine p2.flatten.trans ?_;have:(keyJ aA J).flatten=((J.map (·.2)).flatten).map (rowM aA):=by
   rw[<-qWx,hB6];rfl
  rw[this]
theorem zDj(s:Shared)(rn:qEp aA)(lt:∀x∈N,x<2^aA.length)(lr:Lrr N)(h3:3<=aA.length)(h12:aA.length<=12):FitOk aA N (told aA (dsF (N.map (rv aA.length)))):=by
 have nd:=qC5 rn;have p1:=hCn (n:=aA.length);have ls:∀s∈dsF (N.map (rv aA.length)),s<2^aA.length:=λs hs=>qOy (λx hx=>by obtain⟨y,_,rfl⟩:=hAb.mp hx;exact qIw _ y) s (qJk.mp hs)
 obtain⟨ci,gnd⟩:=zEv (zBj (N.map (rv aA.length))) ls h3 h12;obtain⟨jok,_,_⟩:=zA7 (dsF (N.map (rv aA.length))) h3 h12;have dsc:=zDc aA.length (dsF (N.map (rv aA.length)));obtain⟨k4,kp⟩:=qRd s (aA:=aA) (S:=dsF (N.map (rv aA.length)));have prti:∀g,g<2^aA.length->Prt (dsF (N.map (rv aA.length))) g->_:=λg hg hp=>qZy lt lr hg hp
 have pm:=(qMs s (qHj (keyJ aA (jF aA.length (dsF (N.map (rv aA.length)))))) (jF aA.length (dsF (N.map (rv aA.length)))).length).1;obtain⟨_,sm⟩:=qRk (aA:=aA) pm;have tm:∀e∈told aA (dsF (N.map (rv aA.length))),∃e'∈jF aA.length (dsF (N.map (rv aA.length))),e=toE aA e':=λe he=>by
  unfold told at he;obtain⟨e',h,rfl⟩:=hAb.mp he;exact⟨e',sm e' h,rfl⟩
 revert ci gnd jok dsc kp prti tm;generalize told aA (dsF (N.map (rv aA.length)))=es at *;generalize dsF (N.map (rv aA.length))=S at *;intro ci gnd jok dsc kp prti tm;have gl:∀ {e:PE1},e∈jF aA.length S->∀ {g:Nat},g∈e.2->g<2^aA.length:=λ{e} he {g} hg=>by
  have:=qXf hg;rw[(jok.sh e he).pt.su]at this;omega
 have gG:∀g∈((jF aA.length S).map (·.2)).flatten,g<2^aA.length/\g≠0/\(sgl g=true\/(Prt S g/\(2^aA.length-1)^^^g∈((jF aA.length S).map (·.2)).flatten)):=λg hg=>by
  obtain⟨l,hl,hgl⟩:=hCx.mp hg;obtain⟨nz,ok⟩:=ci.ok l hl g hgl;obtain⟨e,he,rfl⟩:=hAb.mp hl;refine⟨gl he hgl,nz,?_⟩;cases q:sgl g with
  |true=>exact .inl rfl
  |false =>
   refine .inr ⟨ok.resolve_left (by rw[q];decide),?_⟩;obtain⟨l',h1,h2⟩:=(ci.co _ hl g hgl).resolve_left (by rw[q];decide);exact hCx.mpr ⟨l',h1,h2⟩
 have one:∀i,i<aA.length->2^i∈((jF aA.length S).map (·.2)).flatten:=λi hi=>by
  obtain⟨l,h1,h2⟩:=ci.on i hi;exact hCx.mpr ⟨l,h1,h2⟩
 refine⟨λe he=>?_,λe he=>?_,λe he r hr=>?_,k4,?_,λr hr h1=>?_⟩
 ·obtain⟨e',h,rfl⟩:=tm e he;exact qVw rn (jok.sh e' h).pt
 ·obtain⟨e',h,rfl⟩:=tm e he;exact qVv rn (zDp (jok.sh e' h).pt.nz (jok.sh e' h).pt.di) (λz hz=>gl h hz) (dsc e' h)
 ·obtain⟨e',h,rfl⟩:=tm e he;obtain⟨g,_,rfl⟩:=hAb.mp hr;exact qD8 rn g
 ·revert gG one gnd kp;generalize ((jF aA.length S).map (·.2)).flatten=G;intro gnd kp gG one;refine(kp.filter _).trans ?_;rw[List.filter_map];have e1:G.filter ((λr:List Str=>decide (r.length=1))∘rowM aA)=G.filter sgl:=List.filter_congr λg hg=>(qOs nd (gG g hg).1 (gG g hg).2.1).symm
  rw[e1];have pS:(G.filter sgl).Perm (singF aA.length):=(hBq (gnd.sublist hCh) (qHx _).nd).mpr λg=>by
   rw[hAj,(qFi _).mem_iff,hAb];constructor
   ·rintro⟨hg,q⟩;have e:=qM1 q (gG g hg).2.1;exact⟨g.log2,hAy.mpr ((hEg (gG g hg).2.1).mpr (gG g hg).1),e.symm⟩
   ·rintro⟨i,hi,rfl⟩;exact⟨one i (hAy.mp hi),hEi (qEb i)⟩
  refine(pS.map _).trans ?_;have:(singF aA.length).map (rowM aA)=aA.map λx=>[x]:=by
   refine hCs λi=>?_
   rw[hAi,hAi];by_cases c:i<aA.length
   ·rw[qFj c,hA2 c,hDu,hDu,qOr c nd]
   ·rw[hB7 (by rw[qBt];omega),hB7 (by omega)];rfl
  rw[this]
 ·have hr':=kp.mem_iff.mp hr;obtain⟨g,hg,rfl⟩:=hAb.mp hr';obtain⟨g1,g2,g3⟩:=gG g hg;have q:sgl g=false:=by
   rw[qOs nd g1 g2];exact hEj (by omega)
  obtain⟨hp,hc⟩:=g3.resolve_left (by rw[q];decide);have mk:maskL aA (rowM aA g)=rv aA.length g:=by
   obtain⟨a,b⟩:=qHh nd (qC5 (qD8 rn g)) λn hn=>qHd hn
   rw[qFt nd g1]at b;rw[<-qIv a,b]
  refine⟨?_,?_⟩
  ·have:=prti g g1 hp;have r1:=qIw aA.length g;rw[mk,qWw r1];exact this
  ·rw[qSc rn g1,kp.count_eq];have ndm:(((jF aA.length S).map (·.2)).flatten.map (rowM aA)).Nodup:=hBb.mpr (hBp (λ{a b} ha hb h z=>h (qVy nd (gG a ha).1 (gG b hb).1 z)) gnd);rw[ndm.count,hEn (hB3 hc)]
theorem qZ6(g:Gd ts.length o)(sp:SPk (qUv ts) o ts.length)(h:ts.Pairwise (λa b=>qFv b a=false)):o.toList.map (λi=>ts.getD i [])=ts:=by
 have sz:=g.size;have s1:(o.toList.map λi=>ts.getD i []).Pairwise (λa b=>qFv b a=false):=by
  rw[hD3];intro i j hi hj hij;rw[hA1]at hi hj;have h:=sp i j hij (by simpa [sz] using hj);rw[List.getElem_map,List.getElem_map];have e:∀k (hk:k<o.toList.length),o.getD k 0=o.toList[k]:=λk hk=>by
   have hk':k<o.size:=by simpa using hk
   simp[Array.getD,hk']
  rw[e i hi,e j hj]at h;exact h
 have r:(List.range ts.length).map (λi=>ts.getD i [])=ts:=hCs λi=>by
  by_cases hi:i<ts.length
  ·rw[hAi,hCq hi,hA2 hi];show some (ts.getD i [])=_;rw[hA7,hA2 hi];rfl
  ·rw[hB7 (by simp;omega),hB7 (by omega)]
 have p:=(hBg.mp g).map λi=>ts.getD i []
 have p:=p.trans (hDg r);have un:∀ {a b:List (List (List Str))},a.Pairwise (λa b=>qFv b a=false)->b.Pairwise (λa b=>qFv b a=false)->a.Perm b->a=b:=by
  intro a
  induction a with
  |nil=>intro b _ _ p;exact(List.nil_perm.mp p).symm▸rfl
  |cons x a ih =>
   intro b ha hb p;cases b with
   |nil=>have:=p.length_eq;simp at this
   |cons y b =>
    obtain⟨a1,a2⟩:=hAr.mp ha;obtain⟨b1,b2⟩:=hAr.mp hb;have e:x=y:=by
     rcases hAg.mp (p.mem_iff.mp hA6) with z|z
     ·exact z
     ·rcases hAg.mp (p.mem_iff.mpr hA6) with w'|w'
      ·exact w'.symm
      ·have h1:=b1 x z;have h2:=a1 y w';rcases qHi x y with q|q|q
       ·rw[q]at h1;cases h1
       ·exact q
       ·rw[q]at h2;cases h2
    subst e;rw[ih a2 b2 ((List.perm_cons _).mp p)]
 exact un s1 h p
theorem qSe(hr:Room k A)(h:n<=100):A.units+n<cLine:=by have:=hr.un;omega
theorem zDd{c:Bool}{A B:Prop}(h:c=false)(b:B):if c=true then A else B:=by rw[h];exact b
theorem zBb{es:List PaE}{i:Nat}{e:PaE}(h:es[i]?=some e):gsE (es.take (i+1))=gsE (es.take i)++e.2:=by
 unfold gsE;rw[qAl h,hA3,List.flatten_append];simp
theorem qGi(a0:α)(b0:β)(h:Paired R as bs)(g:Gd as.length o):Paired R (o.toList.map λi=>as.getD i a0) (o.toList.map λi=>bs.getD i b0):=by
 refine qE7 λi hi=>qE8 h ?_
 have:=(hBg.mp g).mem_iff.mp hi
 simpa using this
theorem qTm(ok:PaOk es)(i:Nat):(gsE (es.take i)).length<=120:=by
 have l:=ok.ln;have:∀E:List PaE,(∀e∈E,e.2.length<=12)->(gsE E).length<=12*E.length:=by
  intro E
  induction E with
  |nil=>intro _;exact hAp _
  |cons e E ih =>
   intro h;have h1:=h e hA6;have h2:=ih λx hx=>h x (hA4 _ hx)
   unfold gsE at h2 ⊢;rw[hBj,List.flatten_cons,hAc,hCb];omega
 have:=this (es.take i) λe he=>ok.l12 e (hDc he)
 rw[hAk]at this;omega
theorem qE9{α:Type}{p:α->Bool}{l:List α}{i:Nat}{a:α}(h:l[i]?=some a):(l.take (i+1)).filter p=if p a=true then (l.take i).filter p++[a] else (l.take i).filter p:=by
 rw[qAl h,hCe];split
 ·rename_i c;rw[hDz c];rfl
 ·rename_i c;rw[hE0 c,List.filter_nil,hC8]
noncomputable def zD0(es:List PaE):PyData:=.list (es.map λe=>qCu e.2)
theorem zBg(es:List PaE):PyData.eqv (zD0 es) (zD0 es)=true:=by
 have:∀es:List PaE,PyData.eqvAll (es.map λe=>qCu e.2) (es.map λe=>qCu e.2)=true:=by
  intro es
  induction es with
  |nil=>rfl
  |cons e es ih =>
   show(PyData.eqv (qCu e.2) (qCu e.2) && PyData.eqvAll (es.map λe=>qCu e.2) (es.map λe=>qCu e.2))=true;rw[ih,qHo,hEi rfl];rfl
 exact this es
theorem qI5(ok:PaOk es):SeqAt.shaped (zD0 es)=true:=by
 have:∀ {es:List PaE},(∀e∈es,∀r∈e.2,SOk r)->PyData.canLayAll0 (es.map λe=>qCu e.2)=true/\PyData.depthAll (es.map λe=>qCu e.2)<=3:=by
  intro es
  induction es with
  |nil=>intro _;exact⟨rfl,hAp _⟩
  |cons e es ih =>
   intro h;obtain⟨i1,i2⟩:=ih λx hx=>h x (hA4 _ hx)
   obtain⟨b1,b2⟩:=qFx (h e hA6);refine⟨?_,?_⟩
   ·show(PyData.canLayAll0 (e.2.map qE0) && PyData.canLayAll0 (es.map λe=>qCu e.2))=true;rw[b1,i1];rfl
   ·show max (PyData.depthAll (e.2.map qE0)+1) (PyData.depthAll (es.map λe=>qCu e.2))<=3;omega
 obtain⟨h3,h4⟩:=this (es:=es) λe he r hr x hx=>((ok.rw e he r hr).2.2 x hx).1.sm.ok
 show(PyData.canLayAll0 (es.map λe=>qCu e.2) && decide (PyData.depthAll (es.map λe=>qCu e.2)+1<=64))=true;rw[h3,hEi (by omega)];rfl
theorem qYo(hL:H L=some (.lst (gs.map V.ref)))(pr:Paired (qU0 K H) gs (es.map (·.2))):DR K H (.ref L) (zD0 es):=by
 have:∀ {gs:List Addr} {R:List (List (List Str))},Paired (qU0 K H) gs R->DRs K H (gs.map V.ref) (R.map qCu):=by
  intro gs R pr
  induction pr with
  |nil=>exact .nil
  |cons h t ih=>exact .cons (qFb h) ih
 have q:=this pr;rw[hB6]at q;exact .lst (SqL.of hL) q
def zEl(K:PySem.W.Frag):List V->Hp->VK->Prop:=λxs H Q=>∃(p:Addr) (ss:List Str),xs=[V.ref p]/\SqL K H p (ss.map V.str)/\ss.length<64/\∀(r:Addr) (ss':List Str),H r=none->ss'.Perm ss->PyProof.Rows.sortedS ss'=true->Q (.ref r) (upd H r (.lst (ss'.map V.str)))
def zCo(K:PySem.W.Frag):List V->Hp->VK->Prop:=λxs H Q=>∃p ys,xs=[V.ref p]/\(SqL K H p ys\/SqT K H p ys)/\Q (.int ys.length) H
theorem LLx(h:qU0 K H a R)(x:Ext H H'):qU0 K H' a R:=by
 obtain⟨bs,z1,z2⟩:=h;exact⟨bs,x _ _ z1,Paired.mapP z2 λb r u=>x _ _ u⟩
theorem qU6(h:qEp l):Srt (l.map λx=>[x]):=hBb.mpr (h.imp λ{x y} q=>by
  show ltL [y] [x]=false;unfold ltL;rw[hEm (λe=>by rw[e,qCc]at q;cases q)];cases z:qQn y x with
  |false=>rfl
  |true=>have:=qC2 q z;rw[qCc]at this;cases this)
def qXp:Sp:=λvs H Q _=>∃(na ba L:Addr) (aA:List Str) (N:List Nat) (ts:List Addr) (es:List PaE),vs=[.ref na,.ref ba,.ref L]/\LsS H na aA/\LsN H ba N/\H L=some (.lst (ts.map V.ref))/\Paired (PaT H) ts es/\PaOk es/\FitOk aA N es/\qEp aA/\Tx aA/\aA.length<=12/\N.length<=12/\∀H',Ext H H'->Q (.bl true) H'
section
variable{P:Program}{w:World}{K:PySem.W.Frag}{mg:Str->Option Value}{base:Heap}{f f1 f2 f3:Addr}{fd fd1 fd2 fd3:FuncData}
noncomputable abbrev fiN:List Str:=["_law_names_here","_law_base","_law_found","_law_groups","_law_kind","_law_share","_law_every","_law_row_here","_law_rest","_law_mask_here","_law_split"]
theorem qIu:FnScope fiN ["_law_names_here","_law_base","_law_found"] (qAc qEt):=fsk
theorem zAm(F:Fun K "_law_fits" "_law_fits" qEt f fd)
  (G1:v9 1 f1 fd1 ["_law_rows"] qMt "_law_flat")
  (G2:v9 1 f2 fd2 ["_law_names_here","_law_row_here"] qRu "_law_mask")
  (G3:v9 2 f3 fd3 ["_law_base","_law_mask_here"] qRv "_law_inside")
  (mso:mg "sorted"=none) (mal:mg "all"=none) (ml:mg "len"=none):v8 3 f fd ["_law_names_here","_law_base","_law_found"] qXp:=by
 refine F.okA qIu λcdv A outer s H vs Q E hr h=>?_
 obtain⟨na,ba,L,aA,N,ts,es,rfl,hna,hba,hL,pr,ok,fo,rn,tx,n12,lN,q⟩:=h;have hr1:=hr.mono (j:=1) (by decide);have hr2:=hr.mono (j:=2) (by decide);have u2:=qSe (n:=2) hr (by decide);have u10:=qSe (n:=10) hr (by decide);have u64:=qSe (n:=64) hr (by decide);have u65:=qSe (n:=65) hr (by decide);have nd:=qC5 rn;have l10:=ok.ln;have lt:=pr.length;refine⟨_,(qAa (v4 3 qIu (qA2 qAz)) (qAa (qBf PassesOwn.never rfl (qAp (pv 2)) (qB0 rfl (qAs (v5 4 qIu) (qAs (v5 5 qIu) qBc))) (qAa (qBj (PW.pt (qLc (qAn (qFo u64) (qAh qCa rfl mso qA3 (pa1 (qAv G1 hr1 rfl .nil pass0 (pa1 (pv 5))))) (pv 0) (nomark _)) (qJb (qAn (qFo u64) (pv 5) (qAh (qDx u2) rfl mso qA3 (pa1 (pv 5))) (nomark _))))) (qAd (qAt qE5)) qAx) (qAa (qBj (qGy (qDz (qAh (qF6 rfl) rfl mal qF9 (pa1 (qA7 (N:=fiN) (sc:=qAc qEt) (N':=["_law_row_here"]) (sub:=[none]) (qAp (pv 5)) (λC s H fp=>⟨qAw,(qDf (show OpR _ _ (zD1 K false) from qYb u64) (pv 0) (qAh (show qB2 _ _ (zEl K) from qCa) rfl mso qA3 (pa1 (pv 0))) (nomark _))⟩)))))) (qAd (qAt qE5)) qAx) (qAd (v4 3 qIu (qAg qB9 (pv 3) (pv 5))))))) (qAa (v4 6 qIu (qAg qCr (qAg qCe qAb (qAh qAi rfl ml hAt (pa1 (pv 0)))) qAb)) (qAa (qBj (qAn (qFo u64) (qA7 (N:=fiN) (sc:=qAc qEt) (N':=["_law_part"]) (sub:=[none]) (qAp (pv 2)) (λC s H fp=>⟨qAw,(qBh (show IxR _ (qO2 K) from qBq) (pv 0) qAb (λ_ _=>rfl))⟩)) (qAh (qKs u10) rfl mso qA3 (pa1 (qA7 (N:=fiN) (sc:=qAc qEt) (N':=["_law_part"]) (sub:=[none]) (qAp (pv 2)) (λC s H fp=>⟨qAw,(qBh (show IxR _ (qO2 K) from qBq) (pv 0) qAb (λ_ _=>rfl))⟩)))) (nomark _)) (qAd (qAt qE5)) qAx) (qAa (qBj (qAn (qFo u64) (qAh (qDx u2) rfl mso qA3 (pa1 (qA7 (N:=fiN) (sc:=qAc qEt) (N':=["_law_row_here"]) (sub:=[none]) (qAp (pv 3)) (λC s H fp=>⟨(qBb (qAn qB4 (qAh (show qB2 _ _ (zCo K) from qAi) rfl ml hAt (pa1 (pv 0))) qAb (nomark _))),(pv 0)⟩)))) (qA7 (N:=fiN) (sc:=qAc qEt) (N':=["_law_name"]) (sub:=[none]) (qAp (pv 0)) (λC s H fp=>⟨qAw,(qA2 (pa1 (pv 0)))⟩)) (nomark _)) (qAd (qAt qE5)) qAx) (qAa (qBf PassesOwn.never rfl (qAp (qA7 (N:=fiN) (sc:=qAc qEt) (N':=["_law_row_here"]) (sub:=[none]) (qAp (pv 3)) (λC s H fp=>⟨(qBb (qAn qV6 (qAh (show qB2 _ _ (zCo K) from qAi) rfl ml hAt (pa1 (pv 0))) qAb (nomark _))),(pv 0)⟩))) (v7 7 qIu) (qAa (qD0 (i:=8) (N:=fiN) (sc:=qAc qEt) (N':=["_law_name","_law_row_here"]) (sub:=[none,some 7]) (qAp (pv 0)) (λC s H fp=>⟨(qBb (qAn (show OpR _ (compareOp .NotIn) (rIn K true) from qCs) (pv 0) (pv 1) (by with_unfolding_all rfl))),(pv 0)⟩) qIu.nd rfl (Or.inl rfl)) (qAa (v4 9 qIu (qAv G2 hr1 rfl .nil pass0 (qAe (pv 0) (pa1 (pv 7))))) (qAa (v4 10 qIu (qAg qA8 (qAh qAi rfl ml hAt (pa1 (qAv G3 hr2 rfl .nil pass0 (qAe (pv 1) (pa1 (pv 9)))))) (qAh qAi rfl ml hAt (pa1 (qAv G3 hr2 rfl .nil pass0 (qAe (pv 1) (pa1 (qAg qCr (pv 6) (pv 9))))))))) (qAd (qBj (PW.pt (qLc (qAn qFp (pv 10) (qAg qCr (qAh qAi rfl ml hAt (pa1 (pv 1))) qAb) (nomark _)) (qJb (qAn qFp (show PE _ _ (tBM K _ (qSl K) _ _) from qDu hAx PySem.F.slot_list_count PySem.F.type_list_count (qS5 u65) (pv 3) (pa1 (pv 8))) qAb (nomark _))))) (qAd (qAt qE5)) qAx)))))) (qAd (qAt qE5)))))))),?_⟩;refine⟨hAp _,λg0 hg0=>?_⟩;have X0:=Ext.new hg0 (.lst []);refine⟨_,rfl,L,rfl,⟨_,SqL.of (X0 _ _ hL)⟩,?_⟩;refine qBm (xs:=ts.map V.ref) (λi σ H2=>∃(gp:Addr) (bs:List Addr) (x4 x5:Option V),σ=[some (.ref na),some (.ref ba),some (.ref L),some (.ref gp),x4,x5,none,none,none,none,none]/\Ext H H2/\H2 gp=some (.lst (bs.map V.ref))/\Paired (LsS H2) bs (gsE (es.take i))) ⟨g0,[],none,none,rfl,X0,upd_same,.nil⟩ (λi σ H2 _ h=>by obtain⟨_,_,_,_,_,e,_⟩:=h;exact SqL.of (e _ _ hL)) ?_ ?_
 ·rintro i v σ H2 hx ⟨gp,gb,x4,x5,rfl,e2,hgp,pgb⟩;obtain⟨a,rfl,ha⟩:=qA5 hx;obtain⟨e,he,G,h1,bs,hb1,hb2⟩:=qAr pr ha;have em:=hAh he;have l12:=ok.l12 e em;have lb:bs.length=e.2.length:=hb2.length;have f1:=fo.f1 e em;have f2:=fo.f2 e em;have lfl:e.2.flatten.length<=12:=by rw[f1.length_eq];exact n12
  refine⟨a,_,rfl,SqT.of (e2 _ _ h1),rfl,_,_,rfl,_,_,rfl,rfl,?_⟩;refine⟨_,rfl,G,bs,e.2.map λr=>r.map V.str,rfl,e2 _ _ hb1,qE6 (Paired.mapP hb2 λa r z=>e2 _ _ z),by rw[qIo,hA1];omega,λfr H3 e3 fr0 hfr=>?_⟩;rw[qIo]at hfr;refine⟨fr,e.2.flatten,rfl,SqL.of hfr,by omega,λr1 ss hr1' pm so=>?_⟩;have es1:ss=aA:=qH4 (qKa so ((pm.trans f1).symm.nodup nd)) rn (pm.trans f1);subst es1;have X1:=e3.trans (Ext.new hr1' (.lst (ss.map V.str)));have Y1:=e2.trans X1;refine⟨_,rfl,_,_,qD1 (r:=ss) upd_same,qD1 (Y1 _ _ hna),qCl λx hx=>(tx x hx).1.sm.ok,qCl λx hx=>(tx x hx).1.sm.ok,_,rfl,?_⟩;rw[qFa,hEi rfl];refine qFz ?_;have hb3:=Paired.mapP hb2 λa r z=>Y1 _ _ z
  refine⟨_,rfl,_,rfl,G,bs,e.2,rfl,SqL.of (Y1 _ _ hb1),Paired.mapP hb3 λa r z=>SqL.of z,by omega,λr2 o hr2' g sp=>?_⟩;rw[lb]at g sp;obtain⟨o1,o2⟩:=qEm g sp;have eo:=qHc o1 f2 o2;have X2:=Ext.new hr2' (.lst ((o.toList.map λi=>bs.getD i 0).map V.ref));have Y2:=Y1.trans X2;have pso:Paired (λb r=>upd (upd H3 r1 (.lst (ss.map V.str))) r2 (.lst ((o.toList.map λi=>bs.getD i 0).map V.ref)) b=some (.lst (r.map V.str))) (o.toList.map λi=>bs.getD i 0) e.2:=by
   have:=qGi 0 [] hb3 (o:=o) (by rw[lb];exact g);rw[eo]at this;exact Paired.mapP this λa r z=>X2 _ _ z
  have sok:SeqAt.shaped (qCu e.2)=true:=qHy λr hr' x hx=>((ok.rw e em r hr').2.2 x hx).1.sm.ok
  refine⟨_,_,qFb (F:=e.2) ⟨bs,Y2 _ _ hb1,Paired.mapP hb2 λa r z=>Y2 _ _ z⟩,qFb (F:=e.2) ⟨_,upd_same,pso⟩,sok,sok,_,rfl,?_⟩;rw[qHo,hEi rfl];refine qFz ?_;refine⟨_,rfl,G,rfl,⟨_,SqL.of (Y2 _ _ hb1)⟩,?_⟩;refine qAq (xs:=bs.map V.ref) (λj ys H4=>Ext (upd (upd H3 r1 (.lst (ss.map V.str))) r2 (.lst ((o.toList.map λi=>bs.getD i 0).map V.ref))) H4/\ys=(List.replicate j true).map V.bl) ⟨Ext.refl _,rfl⟩ (λj ys H4 _ h=>SqL.of (h.1 _ _ (Y2 _ _ hb1))) ?_ ?_
  ·rintro j v ys H4 hy ⟨e4,rfl⟩;obtain⟨b,rfl,hb⟩:=qA5 hy;obtain⟨row,hrow,hbr⟩:=qAr hb2 hb;have hj:=qAu hb;have rm:=hAh hrow;obtain⟨_,r12,rtx⟩:=ok.rw e em row rm;have rr:=fo.f3 e em row rm;have hbr4:=(Y2.trans e4) _ _ hbr;refine⟨sls,iteT (B:=False) ⟨_,rfl,_,rfl,b,row,rfl,SqL.of hbr4,by omega,λr3 s3 hr3 p3 so3=>?_⟩⟩;have es3:s3=row:=qH4 (qKa so3 (p3.symm.nodup (qC5 rr))) rr p3;subst es3;have X3:=Ext.new hr3 (.lst (s3.map V.str));refine⟨_,_,qD1 (X3 _ _ hbr4),qD1 (r:=s3) upd_same,qCl λx hx=>(rtx x hx).1.sm.ok,qCl λx hx=>(rtx x hx).1.sm.ok,by rw[hA1,hDn];exact qAf (by omega),nxt (qAu hy) ⟨e4.trans X3,?_⟩⟩;rw[qHe,qFa,hEi rfl];rfl
  rintro ys H4 ⟨e4,rfl⟩ r4 hr4;rw[hA1];have X4:=Ext.new hr4 (.lst ((List.replicate bs.length true).map V.bl));refine⟨r4,List.replicate bs.length true,rfl,SqL.of upd_same,_,rfl,?_⟩;rw[qKb];refine qFz ?_;have Z4:=(X1.trans X2).trans (e4.trans X4);have Y4:=e2.trans Z4;have lg:=qTm ok i;have lgb:=pgb.length;refine⟨_,rfl,_,rfl,gp,G,_,_,rfl,rfl,Z4 _ _ hgp,Y4 _ _ hb1,by rw[hA1,hA1];exact hB5 (qAf (by omega)),λr5 hr5=>?_⟩;have X5:=Ext.new hr5 (.lst (gb.map V.ref++bs.map V.ref));refine⟨r5,gb++bs,_,_,rfl,Y4.trans X5,by rw[hA3];exact upd_same,?_⟩;rw[zBb he];exact qDq (Paired.mapP pgb λa r z=>(Z4.trans X5) _ _ z) (Paired.mapP hb2 λa r z=>(Y4.trans X5) _ _ z)
 rintro σ H2 ⟨gp,gb,x4,x5,rfl,e2,hgp,pgb⟩;rw[hA1,lt,hA5 (hAa _)]at pgb;have lg:=qTm ok es.length;rw[hA5 (hAa _)]at lg;have lgb:=pgb.length;have hna2:=e2 _ _ hna;have hba2:=e2 _ _ hba;have hL2:=e2 _ _ hL;have pr2:Paired (PaT H2) ts es:=Paired.mapP pr λa t z=>z.ext e2
 have q2:∀H',Ext H2 H'->Q (.bl true) H':=λH' e=>q H' (e2.trans e)
 clear q pr hL hna hba X0 e2;have hE:(1:Int)*2^((((aA.map V.str).length:Nat):Int)).toNat-1=((2^aA.length-1:Nat):Int):=by
  rw[hA1,qBr];have:=hCn (n:=aA.length);omega
 refine⟨_,rfl,na,_,rfl,.inl (SqL.of hna2),_,_,rfl,rfl,⟨by rw[hA1];omega,by rw[hA1];omega,by decide⟩,_,_,rfl,rfl,?_⟩;refine⟨_,rfl,L,rfl,⟨_,SqL.of hL2⟩,?_⟩;refine qAq (xs:=ts.map V.ref) (λj ys H'=>H2=H'/\∃gs:List Addr,ys=gs.map V.ref/\Paired (qU0 K H2) gs ((es.take j).map (·.2))) ⟨rfl,[],rfl,.nil⟩ (λj ys H' _ h=>by rw[<-h.1];exact SqL.of hL2) ?_ ?_
 ·rintro j v ys H' hx ⟨rfl,gs,rfl,pg⟩;obtain⟨b,rfl,hb⟩:=qA5 hx;obtain⟨e,he,G,h1,h2⟩:=qAr pr2 hb;have hj:=qAu he;have lg:=pg.length;rw[hA1,hAk]at lg;refine⟨sls,iteT (B:=False) ⟨_,rfl,b,_,_,_,rfl,rfl,SqT.of h1,(by exact qAy (j:=1) rfl),by rw[hA1];exact qAf (by omega),nxt (qAu hx) ⟨rfl,gs++[G],by rw[hA3];rfl,?_⟩⟩⟩;rw[qAl he,hA3];exact Paired.snoc pg h2
 rintro ys H' ⟨rfl,gs,rfl,pgs⟩ g1 hg1;rw[hA1,lt,hA5 (hAa _)]at pgs;have X3:=Ext.new hg1 (.lst (gs.map V.ref));have pr3:Paired (PaT (upd H2 g1 (.lst (gs.map V.ref)))) ts es:=Paired.mapP pr2 λa t z=>z.ext X3
 have hL3:=X3 _ _ hL2;have hg3:upd H2 g1 (.lst (gs.map V.ref)) g1=some (.lst (gs.map V.ref)):=upd_same;have pg3:Paired (qU0 K (upd H2 g1 (.lst (gs.map V.ref)))) gs (es.map (·.2)):=Paired.mapP pgs λa t z=>LLx z X3
 revert pr3 hL3 hg3 pg3 X3;generalize upd H2 g1 (.lst (gs.map V.ref))=H3;intro X3 pr3 hL3 hg3 pg3;clear hg1 pgs;refine⟨_,rfl,L,rfl,⟨_,SqL.of hL3⟩,?_⟩;refine qAq (xs:=ts.map V.ref) (λj ys H'=>H3=H'/\∃gs:List Addr,ys=gs.map V.ref/\Paired (qU0 K H3) gs ((es.take j).map (·.2))) ⟨rfl,[],rfl,.nil⟩ (λj ys H' _ h=>by rw[<-h.1];exact SqL.of hL3) ?_ ?_
 ·rintro j v ys H' hx ⟨rfl,gs,rfl,pg⟩;obtain⟨b,rfl,hb⟩:=qA5 hx;obtain⟨e,he,G,h1,h2⟩:=qAr pr3 hb;have hj:=qAu he;have lg:=pg.length;rw[hA1,hAk]at lg;refine⟨sls,iteT (B:=False) ⟨_,rfl,b,_,_,_,rfl,rfl,SqT.of h1,(by exact qAy (j:=1) rfl),by rw[hA1];exact qAf (by omega),nxt (qAu hx) ⟨rfl,gs++[G],by rw[hA3];rfl,?_⟩⟩⟩;rw[qAl he,hA3];exact Paired.snoc pg h2
 rintro ys H' ⟨rfl,hs,rfl,phs⟩ g2 hg2;rw[hA1,lt,hA5 (hAa _)]at phs;have X4:=Ext.new hg2 (.lst (hs.map V.ref));have lh:hs.length=(es.map (·.2)).length:=phs.length;refine⟨g2,hs,es.map (·.2),rfl,SqL.of upd_same,Paired.mapP phs λa t z=>LLx z X4,by rw[lh,hA1];omega,λr5 o hr5 g sp=>?_⟩;rw[lh]at g sp;have eo:=qZ6 g sp fo.f4;have X5:=Ext.new hr5 (.lst ((o.toList.map λi=>hs.getD i 0).map V.ref));have po:Paired (qU0 K (upd (upd H3 g2 (.lst (hs.map V.ref))) r5 (.lst ((o.toList.map λi=>hs.getD i 0).map V.ref)))) (o.toList.map λi=>hs.getD i 0) (es.map (·.2)):=by
  have:=qGi 0 [] phs (o:=o) (by rw[lh];exact g);rw[eo]at this;exact Paired.mapP this λa t z=>LLx z (X4.trans X5)
 refine⟨_,_,qYo (es:=es) (gs:=gs) ((X4.trans X5) _ _ hg3) (Paired.mapP pg3 λa t z=>LLx z (X4.trans X5)),qYo (es:=es) upd_same po,qI5 ok,qI5 ok,_,rfl,?_⟩;rw[zBg];refine qFz ?_;have E5:=X3.trans (X4.trans X5);have hna5:=E5 _ _ hna2;have hba5:=E5 _ _ hba2;have hgp5:=E5 _ _ hgp;have pgb5:=Paired.mapP pgb λa t z=>E5 _ _ z
 have q5:∀H',Ext (upd (upd H3 g2 (.lst (hs.map V.ref))) r5 (.lst ((o.toList.map λi=>hs.getD i 0).map V.ref))) H'->Q (.bl true) H':=λH' e=>q2 H' (E5.trans e)
 revert hna5 hba5 hgp5 pgb5 q5;clear po X5 X4 E5;generalize upd (upd H3 g2 (.lst (hs.map V.ref))) r5 (.lst ((o.toList.map λi=>hs.getD i 0).map V.ref))=H5;intro hna5 hba5 hgp5 pgb5 q5;clear eo g sp hr5 hg2 phs lh hg3 pg3 pr3 hL3 X3 pr2 q2 hL2 hba2 hna2 hgp pgb;refine⟨_,rfl,gp,rfl,⟨_,SqL.of hgp5⟩,?_⟩;refine qAq (xs:=gb.map V.ref) (λj ys H'=>H5=H'/\∃cs:List Addr,ys=cs.map V.ref/\Paired (LsS H5) cs (((gsE es).take j).filter λr=>decide (r.length=1))) ⟨rfl,[],rfl,.nil⟩ (λj ys H' _ h=>by rw[<-h.1];exact SqL.of hgp5) ?_ ?_
 ·rintro j v ys H' hx ⟨rfl,cs,rfl,pc⟩;obtain⟨b,rfl,hb⟩:=qA5 hx;obtain⟨r,hrow,hbr⟩:=qAr pgb5 hb;have hj:=qAu hrow;have lc:=pc.length;have sz:=hAs (λr:List Str=>decide (r.length=1)) ((gsE es).take j);rw[hAk]at sz;refine⟨sls,_,rfl,b,_,rfl,.inl (SqL.of hbr),rfl,_,rfl,?_⟩;have ex:decide (V.int (((r.map V.str).length:Nat):Int)=V.int 1)=decide (r.length=1):=by
   rw[hA1];by_cases c:r.length=1
   ·rw[c];rfl
   ·rw[hEj c];exact hEj λz=>c (by have:=V.int.inj z;omega)
  rw[ex];have nx:=qE9 (p:=λr:List Str=>decide (r.length=1)) hrow;cases hp:decide (r.length=1) with
  |true =>
   refine iteT ⟨_,rfl,by rw[hA1];exact qAf (by omega),nxt (qAu hx) ⟨rfl,cs++[b],by rw[hA3];rfl,?_⟩⟩;rw[nx,hEn hp];exact Paired.snoc pc hbr
  |false =>
   refine qFz (nxt (qAu hx) ⟨rfl,cs,rfl,?_⟩);rw[nx,hEm (by rw[hp];decide)];exact pc
 rintro ys H' ⟨rfl,cs,rfl,pcs⟩ o1 ho1;rw[hA1,lgb,hA5 (hAa _)]at pcs;have X1:=Ext.new ho1 (.lst (cs.map V.ref));have lcs:cs.length=aA.length:=by rw[pcs.length,fo.f5.length_eq,hA1]
 refine⟨o1,cs,_,rfl,SqL.of upd_same,Paired.mapP pcs λa t z=>SqL.of (X1 _ _ z),by omega,λr6 o hr6 g sp=>?_⟩;have lcf:cs.length=((gsE es).filter λr=>decide (r.length=1)).length:=pcs.length;rw[lcf]at g sp;obtain⟨w1,w2⟩:=qEm g sp;have eo:=qHc w1 (qU6 rn) (w2.trans fo.f5);have X2:=Ext.new hr6 (.lst ((o.toList.map λi=>cs.getD i 0).map V.ref));have po:=qGi 0 [] pcs (o:=o) (by rw[lcf];exact g);rw[eo]at po;have E6:=X1.trans X2;have hna6:=E6 _ _ hna5;have hba6:=E6 _ _ hba5;have hgp6:=E6 _ _ hgp5;have pgb6:=Paired.mapP pgb5 λa t z=>E6 _ _ z
 have po6:=Paired.mapP po λa t z=>E6 _ _ z
 have q6:∀H',Ext (upd (upd H5 o1 (.lst (cs.map V.ref))) r6 (.lst ((o.toList.map λi=>cs.getD i 0).map V.ref))) H'->Q (.bl true) H':=λH' e=>q5 H' (E6.trans e)
 have h6:upd (upd H5 o1 (.lst (cs.map V.ref))) r6 (.lst ((o.toList.map λi=>cs.getD i 0).map V.ref)) r6=some (.lst ((o.toList.map λi=>cs.getD i 0).map V.ref)):=upd_same;revert hna6 hba6 hgp6 pgb6 q6 po6 h6;clear X2 X1 E6;generalize upd (upd H5 o1 (.lst (cs.map V.ref))) r6 (.lst ((o.toList.map λi=>cs.getD i 0).map V.ref))=H6;generalize (o.toList.map λi=>cs.getD i 0)=ds;intro hna6 hba6 hgp6 pgb6 po6 q6 h6;clear po eo w1 w2 g sp hr6 lcf lcs pcs ho1 hna5 hba5 hgp5 pgb5 q5;refine⟨_,rfl,na,rfl,⟨_,SqL.of hna6⟩,?_⟩;refine qAq (xs:=aA.map V.str) (λj ys H'=>Ext H6 H'/\∃as:List Addr,ys=as.map V.ref/\Paired (LsS H') as ((aA.take j).map λx=>[x])) ⟨Ext.refl _,[],rfl,.nil⟩ (λj ys H' _ h=>SqL.of (h.1 _ _ hna6)) ?_ ?_
 ·rintro j v ys H' hx ⟨e',as,rfl,pa⟩;obtain⟨x,rfl,hx'⟩:=qNj hx;have hj:=qAu hx';have la:=pa.length;rw[hA1,hAk]at la;refine⟨sls,iteT (B:=False) ⟨_,rfl,(by show 1<=sizeLine;decide),λl hl=>⟨by rw[hA1];exact qAf (by omega),nxt (qAu hx) ⟨e'.trans (Ext.new hl _),as++[l],by rw[hA3];rfl,?_⟩⟩⟩⟩;rw[qAl hx',hA3];exact Paired.snoc (Paired.mapP pa λa t z=>Ext.new hl _ _ _ z) (by show upd _ l _ l=_;rw[upd_same];rfl)
 rintro ys H' ⟨e',as,rfl,pas⟩ s1 hs1;rw[hA1,hA5 (hAa _)]at pas;have X7:=Ext.new hs1 (.lst (as.map V.ref));have E7:=e'.trans X7;have sok:SeqAt.shaped (qCu (aA.map λx=>[x]))=true:=qHy λr hr' x hx=>by
  obtain⟨y,hy,rfl⟩:=hAb.mp hr';rw[hA9.mp hx];exact(tx y hy).1.sm.ok
 refine⟨_,_,qFb (F:=aA.map λx=>[x]) ⟨ds,E7 _ _ h6,Paired.mapP po6 λa t z=>E7 _ _ z⟩,qFb (F:=aA.map λx=>[x]) ⟨as,upd_same,Paired.mapP pas λa t z=>X7 _ _ z⟩,sok,sok,_,rfl,?_⟩;rw[qHo,hEi rfl];refine qFz ?_;have hna7:=E7 _ _ hna6;have hba7:=E7 _ _ hba6;have hgp7:=E7 _ _ hgp6;have pgb7:=Paired.mapP pgb6 λa t z=>E7 _ _ z
 have q7:∀H2,Ext (upd H' s1 (.lst (as.map V.ref))) H2->Q (.bl true) H2:=λH2 e=>q6 H2 (E7.trans e)
 revert hna7 hba7 hgp7 pgb7 q7;clear X7 E7 pas;generalize upd H' s1 (.lst (as.map V.ref))=H7;intro hna7 hba7 hgp7 pgb7 q7;clear po6 h6 e' hs1 hna6 hba6 hgp6 pgb6 q6;refine⟨_,rfl,gp,rfl,⟨_,SqL.of hgp7⟩,?_⟩;refine qAq (xs:=gb.map V.ref) (λj ys H'=>H7=H'/\∃cs:List Addr,ys=cs.map V.ref/\Paired (LsS H7) cs (((gsE es).take j).filter λr=>decide (1<r.length))) ⟨rfl,[],rfl,.nil⟩ (λj ys H' _ h=>by rw[<-h.1];exact SqL.of hgp7) ?_ ?_
 ·rintro j v ys H' hx ⟨rfl,cs,rfl,pc⟩;obtain⟨b,rfl,hb⟩:=qA5 hx;obtain⟨r,hrow,hbr⟩:=qAr pgb7 hb;have hj:=qAu hrow;have lc:=pc.length;have sz:=hAs (λr:List Str=>decide (1<r.length)) ((gsE es).take j);rw[hAk]at sz;refine⟨sls,_,rfl,b,_,rfl,.inl (SqL.of hbr),_,_,rfl,rfl,_,rfl,?_⟩;have ex:decide ((1:Int)<(((r.map V.str).length:Nat):Int))=decide (1<r.length):=by
   rw[hA1];by_cases c:1<r.length
   ·rw[hEi c];exact hEi (by omega)
   ·rw[hEj c];exact hEj (by omega)
  rw[ex];have nx:=qE9 (p:=λr:List Str=>decide (1<r.length)) hrow;cases hp:decide (1<r.length) with
  |true =>
   refine iteT ⟨_,rfl,by rw[hA1];exact qAf (by omega),nxt (qAu hx) ⟨rfl,cs++[b],by rw[hA3];rfl,?_⟩⟩;rw[nx,hEn hp];exact Paired.snoc pc hbr
  |false =>
   refine qFz (nxt (qAu hx) ⟨rfl,cs,rfl,?_⟩);rw[nx,hEm (by rw[hp];decide)];exact pc
 rintro ys H' ⟨rfl,ms,rfl,pms⟩ o2 ho2;rw[hA1,lgb,hA5 (hAa _)]at pms;have X8:=Ext.new ho2 (.lst (ms.map V.ref));have hna8:=X8 _ _ hna7;have hba8:=X8 _ _ hba7;have hgp8:=X8 _ _ hgp7;have pgb8:=Paired.mapP pgb7 λa t z=>X8 _ _ z
 have pms8:=Paired.mapP pms λa t z=>X8 _ _ z
 have ho8:upd H7 o2 (.lst (ms.map V.ref)) o2=some (.lst (ms.map V.ref)):=upd_same;have q8:∀H2,Ext (upd H7 o2 (.lst (ms.map V.ref))) H2->Q (.bl true) H2:=λH2 e=>q7 H2 (X8.trans e)
 refine⟨o2,rfl,⟨_,SqL.of ho8⟩,?_⟩;revert hna8 hba8 hgp8 pgb8 pms8 ho8 q8;clear X8;generalize upd H7 o2 (.lst (ms.map V.ref))=H8;intro hna8 hba8 hgp8 pgb8 pms8 ho8 q8;clear pms ho2 hna7 hba7 hgp7 pgb7 q7;refine qBm (xs:=ms.map V.ref) (λi σ H2=>∃x7 x8 x9 x10:Option V,σ=[some (.ref na),some (.ref ba),some (.ref L),some (.ref gp),x4,x5,some (V.int ((1:Int)*2^((((aA.map V.str).length:Nat):Int)).toNat-1)),x7,x8,x9,x10]/\Ext H8 H2) ⟨none,none,none,none,rfl,Ext.refl _⟩ (λi σ H2 _ h=>by obtain⟨_,_,_,_,_,e⟩:=h;exact SqL.of (e _ _ ho8)) ?_ ?_
 ·rintro i v σ H9 hx ⟨x7,x8,x9,x10,rfl,e9⟩;obtain⟨b,rfl,hb⟩:=qA5 hx;obtain⟨r,hrow,hbr⟩:=qAr pms8 hb;obtain⟨rg,r1⟩:=hAj.mp (hAh hrow);have rl:=hEl r1;obtain⟨d1,d2⟩:=fo.f6 r rg rl;have rsub:(∀x∈r,x∈aA)/\r.Nodup/\r.length<=12/\Tx r:=by
   obtain⟨R,hR,hr'⟩:=hCx.mp rg;obtain⟨e,he,rfl⟩:=hAb.mp hR;exact⟨λx hx=>(fo.f1 e he).mem_iff.mp (hCx.mpr ⟨r,hr',hx⟩),qC5 (fo.f3 e he r hr'),(ok.rw e he r hr').2.1,(ok.rw e he r hr').2.2⟩
  have hna9:=e9 _ _ hna8;have hbr9:=e9 _ _ hbr;refine⟨_,rfl,na,rfl,⟨_,SqL.of hna9⟩,?_⟩;refine qAq (xs:=aA.map V.str) (λj ys H'=>H9=H'/\ys=((aA.take j).filter λx=>!decide (x∈r)).map V.str) ⟨rfl,rfl⟩ (λj ys H' _ h=>by rw[<-h.1];exact SqL.of hna9) ?_ ?_
  ·rintro j v ys H' hy ⟨rfl,rfl⟩;obtain⟨x,rfl,hx'⟩:=qNj hy;have hj:=qAu hx';have sz:=hAs (λx:Str=>!decide (x∈r)) (aA.take j);rw[hAk]at sz;refine⟨sls,_,rfl,_,rfl,b,_,rfl,.inl (SqL.of hbr9),rfl,qL2 _,_,rfl,?_⟩;have ex:(if true=true then !inV (V.str x) (r.map V.str) else inV (V.str x) (r.map V.str))=!decide (x∈r):=by rw[hEn rfl,qNp]
   rw[ex];have nx:=qE9 (p:=λx:Str=>!decide (x∈r)) hx';cases hp:!decide (x∈r) with
   |true =>
    refine iteT ⟨_,rfl,by rw[hA1];exact qAf (by omega),nxt (qAu hy) ⟨rfl,?_⟩⟩;rw[nx,hEn hp,hA3];rfl
   |false =>
    refine qFz (nxt (qAu hy) ⟨rfl,?_⟩);rw[nx,hEm (by rw[hp];decide)]
  rintro ys H' ⟨rfl,rfl⟩ rs hrs;have el:aA.take (aA.map V.str).length=aA:=by rw[hA1,hA5 (hAa _)]
  rw[el];have Xr:=Ext.new hrs (.lst ((aA.filter λx=>!decide (x∈r)).map V.str));refine⟨_,rfl,_,rfl,na,b,aA,r,rfl,Xr _ _ hna9,Xr _ _ hbr9,rsub.1,n12,rsub.2.2.1,λHa ea=>?_⟩;have Ea:=(e9.trans Xr).trans ea;refine⟨_,rfl,_,rfl,ba,N,maskL aA r,rfl,Ea _ _ hba8,lN,λi1 Hb eb i10 hi1=>?_⟩;refine⟨i1,_,rfl,.inl (SqL.of hi1),?_⟩;have ml:=(qHh nd rsub.2.1 rsub.1).1;refine⟨_,rfl,_,rfl,_,rfl,_,_,rfl,rfl,ba,N,2^aA.length-1-maskL aA r,?_,(Ea.trans eb) _ _ hba8,lN,λi2 Hc ec i20 hi2=>?_⟩
  ·show [V.ref ba,V.int (((1:Int)*2^((((aA.map V.str).length:Nat):Int)).toNat-1)-((maskL aA r:Nat):Int))]=[V.ref ba,iV _];rw[hE];have:(((2^aA.length-1:Nat):Int)-((maskL aA r:Nat):Int))=((2^aA.length-1-maskL aA r:Nat):Int):=by omega
   rw[this]
  refine⟨i2,_,rfl,.inl (SqL.of hi2),_,_,rfl,rfl,?_⟩;have Ec:=(Ea.trans eb).trans ec;refine⟨_,rfl,_,rfl,ba,_,rfl,.inl (SqL.of (Ec _ _ hba8)),_,_,rfl,rfl,rfl,_,rfl,?_⟩;refine zDd ?_ ?_
  ·rw[Bool.not_eq_false',hEp];show V.int (((((insF N (maskL aA r)).map iV).length:Nat):Int)+((((insF N (2^aA.length-1-maskL aA r)).map iV).length:Nat):Int))=V.int ((((N.map iV).length:Nat):Int)-1);rw[hA1,hA1,hA1];congr 1;omega
  have hrs9:=(ea.trans (eb.trans ec)) rs _ upd_same;have cl:PyData.canLayAll0 ((gsE es).map qE0)=true:=(qFx λr hr x hx=>by
   obtain⟨R,hR,hr'⟩:=hCx.mp hr;obtain⟨e,he,rfl⟩:=hAb.mp hR;exact((ok.rw e he r hr').2.2 x hx).1.sm.ok).1
  obtain⟨c3,c4⟩:=qFw (r:=aA.filter λx=>!decide (x∈r)) λx hx=>(tx x (hAj.mp hx).1).1.sm.ok
  have drs:DRs K Hc (gb.map V.ref) ((gsE es).map qE0):=by
   have:∀ {as:List Addr} {R:List (List Str)},Paired (λa r=>Hc a=some (.lst (r.map V.str))) as R->DRs K Hc (as.map V.ref) (R.map qE0):=by
    intro as R p
    induction p with
    |nil=>exact .nil
    |cons h t ih=>exact .cons (qD1 h) ih
   exact this (Paired.mapP pgb8 λa t z=>Ec _ _ z)
  refine⟨_,rfl,(show tyV _ _ (.ref gp) _ from Or.inl ⟨rfl,_,SqL.of (Ec _ _ hgp8)⟩),_,rfl,gp,_,_,_,_,rfl,rfl,Ec _ _ hgp8,drs,qD1 hrs9,cl,c3,(by show PyData.depthAll _+1<=16;rw[c4];decide),rfl,_,rfl,?_⟩;refine zDd ?_ ?_
  ·rw[Bool.not_eq_false',hEp];have ec:((gsE es).map qE0).countP (λy=>PyData.eqv y (qE0 (aA.filter λx=>!decide (x∈r))))=1:=by
    rw[List.countP_map,<-d2];refine List.countP_congr λy _=>?_
    rw[Function.comp_apply,qFa,hEp,beq_iff_eq]
   rw[ec];rfl
  exact⟨_,_,_,_,rfl,Ec⟩
 rintro σ H9 ⟨x7,x8,x9,x10,rfl,e9⟩;exact q8 H9 e9
end
def Kq(H H':Hp):Prop:=∀b o,H b=some o->(∀ps,o≠.tbl ps)->H' b=some o
theorem Kq.trans(a:Kq H H1)(b:Kq H1 H2):Kq H H2:=λc o h n=>b c o (a c o h n) n
theorem Ext.kq(e:Ext H H'):Kq H H':=λb o h _=>e b o h
theorem zFh(t:TabW H P lp qq)(e:ExtB P H H'):Kq H H':=λb o h n=>by
 obtain⟨ps,hP⟩:=My.TabW.tb t;exact e b o (λz=>by rw[z,hP]at h;exact n ps (hAq h).symm) h
theorem Kq.ls(k:Kq H H')(h:LsS H l xs):LsS H' l xs:=k _ _ h (λ_ z=>by cases z)
theorem Kq.ln(k:Kq H H')(h:LsN H l xs):LsN H' l xs:=k _ _ h (λ_ z=>by cases z)
theorem Kq.tab(k:Kq H H')(h:qIt H T aA rs):qIt H' T aA rs:=by
 obtain⟨a,b,h1,h2,bs,h3,h4⟩:=h;exact⟨a,b,k _ _ h1 (λ_ z=>by cases z),k.ls h2,bs,k _ _ h3 (λ_ z=>by cases z),Paired.mapP h4 λa r z=>k.ls z⟩
theorem Kq.over(k:Kq H H')(h:H b=none)(o:HO):Kq H (upd H' b o):=λc u q n=>by rw[qAk (qAo q h)];exact k c u q n
theorem qN7(t:TabW H P lp qq)(h:H b=some (.lst ys)):TabW (upd H b (.lst zs)) P lp qq:=by
 have pG:P≠b:=λz=>by
  obtain⟨ps,hp⟩:=My.TabW.tb t;rw[z,h]at hp;cases hp
 rcases t with h0|⟨c',h1,h2⟩
 ·exact .inl (by rw[qAk pG];exact h0)
 ·exact .inr ⟨c',by rw[qAk pG];exact h1,by rw[qAk (λz=>by rw[z,h]at h2;cases h2)];exact h2⟩
structure Fr(H0:Hp)(Pp L:Addr)(H':Hp):Prop where
 kq:Kq H0 H'
 tw:TabW H' Pp lpP qL
 hl:∃xs,H' L=some (.lst xs)
theorem Fr.put(h:Fr H0 Pp L H')(b0:H0 b=none)(hb:H' b=some (.lst ys))(ne:b≠L):Fr H0 Pp L (upd H' b (.lst zs)):=⟨h.kq.over b0 _,qN7 h.tw hb,by
 obtain⟨xs,hl⟩:=h.hl;exact⟨xs,by rw[qAk (Ne.symm ne)];exact hl⟩⟩
theorem Fr.ext(h:Fr H0 Pp L H')(e:Ext H' H2):Fr H0 Pp L H2:=⟨h.kq.trans e.kq,My.TabW.extE h.tw e,by
 obtain⟨xs,hl⟩:=h.hl;exact⟨xs,e _ _ hl⟩⟩
noncomputable abbrev sI(i:Nat):Str:=toString (i:Int)
theorem zEh:∀i:Fin 121,PyData.strOk (sI i.val)=true:=by decide +kernel
theorem qX0:∀i:Fin 121,(((i.val:Nat):Int)).natAbs.log2<1920:=by decide +kernel
theorem zCk(h:n<=120):SOk ((List.range n).map sI):=λx hx=>by
 obtain⟨i,hi,rfl⟩:=hAb.mp hx;exact zEh ⟨i,by have:=hAy.mp hi;omega⟩
def Nmb(H:Hp)(as:List Addr)(j:Nat):Prop:=∀m b,as[m]?=some b->∃ys,H b=some (.lst ys)/\ys.length<=14/\(m<j->∃zs,ys=zs++[V.str (sI m)])/\(j<=m->ys.length<=12)
theorem Nmb.ext(h:Nmb H as j)(e:Ext H H'):Nmb H' as j:=λm b hb=>by
 obtain⟨ys,h1,h2⟩:=h m b hb;exact⟨ys,e _ _ h1,h2⟩
theorem Nmb.put(nd:as.Nodup)(h:Nmb H as j)(hb:as[j]?=some b)(hy:H b=some (.lst ys))(ly:ys.length<=12):Nmb (upd H b (.lst (ys++[V.str (sI j)]))) as (j+1):=λm c hc=>by
 by_cases e:m=j
 ·subst e;rw[hb]at hc;have:=hAq hc;subst this;refine⟨_,upd_same,?_,λ_=>⟨ys,rfl⟩,λz=>(by omega)⟩;rw[hAc];show ys.length+1<=14;omega
 ·have ne:c≠b:=λz=>by
   subst z;exact e (qLm nd hc hb)
  obtain⟨zs,h1,h2,h3,h4⟩:=h m c hc;exact⟨zs,by rw[qAk ne];exact h1,h2,λz=>h3 (by omega),λz=>h4 (by omega)⟩
theorem qSn:∀ {Z:List Zt} {X:List PE1},Paired (PrZ H aA) Z X->Paired (PaT H) (Z.map (·.1)) (X.map (toE aA))
 |_,_,.nil=>.nil
 |_,_,@Paired.cons _ _ _ z e Z X h t=>.cons ⟨z.2.1,h.1,z.2.2,h.2.1,h.2.2⟩ (qSn t)
theorem qXa(Z:List Zt):(Z.map λz=>V.ref z.1)=(Z.map (·.1)).map V.ref:=by rw[hB6];rfl
noncomputable def bsZ(Z:List Zt):List Addr:=Z.flatMap (·.2.2)
theorem qUg{Z:List Zt}{i:Nat}{z:Zt}(h:Z[i]?=some z):bsZ (Z.take (i+1))=bsZ (Z.take i)++z.2.2:=by
 unfold bsZ;rw[qAl h,List.flatMap_append];simp
theorem zE1(Z:List Zt)(i:Nat):(bsZ (Z.take i)).length<=(bsZ Z).length:=by
 have e:bsZ Z=bsZ (Z.take i)++bsZ (Z.drop i):=by
  unfold bsZ;rw[<-List.flatMap_append,List.take_append_drop]
 rw[e,hAc];omega
theorem qY2:∀ {Z:List Zt},(adr Z).Nodup->(Z.map (·.2.1)).Nodup/\(bsZ Z).Nodup/\∀b∈bsZ Z,b∉Z.map (·.2.1)
 |[],_=>⟨.nil,.nil,λb hb=>by cases hb⟩
 |z :: Z,h=>by
  have h:((z.2.1 :: z.2.2)++adr Z).Nodup:=h;obtain⟨h1,h2,h3⟩:=hCl.mp h;obtain⟨h4,h5⟩:=hBe.mp h1;obtain⟨i1,i2,i3⟩:=qY2 h2;have mG:∀x,x∈Z.map (·.2.1)->x∈adr Z:=λx hx=>by
   obtain⟨y,hy,rfl⟩:=hAb.mp hx;exact hDm.mpr ⟨y,hy,hA6⟩
  have mB:∀x,x∈bsZ Z->x∈adr Z:=λx hx=>by
   obtain⟨y,hy,hx'⟩:=hDm.mp hx;exact hDm.mpr ⟨y,hy,hA4 _ hx'⟩
  refine⟨hBe.mpr ⟨λq=>h3 _ hA6 _ (mG _ q) rfl,i1⟩,?_,λb hb q=>?_⟩
  ·show(z.2.2++bsZ Z).Nodup;exact hCl.mpr ⟨h5,i2,λa ha b hb e=>h3 a (hA4 _ ha) b (mB b hb) e⟩
  ·have hb:b∈z.2.2++bsZ Z:=hb;rcases hAd.mp hb with u|u
   ·rcases hAg.mp q with v|v
    ·rw[v]at u;exact h4 u
    ·exact h3 b (hA4 _ u) b (mG b v) rfl
   ·rcases hAg.mp q with v|v
    ·exact h3 b (by rw[v];exact hA6) b (mB b u) rfl
    ·exact i3 b u v
theorem qYu(h:b∈bsZ Z):b∈adr Z:=by
 obtain⟨y,hy,hx'⟩:=hDm.mp h;exact hDm.mpr ⟨y,hy,hA4 _ hx'⟩
theorem zDh(h:b∈Z.map (·.2.1)):b∈adr Z:=by
 obtain⟨y,hy,rfl⟩:=hAb.mp h;exact hDm.mpr ⟨y,hy,hA6⟩
theorem qO4:∀ {Z:List Zt} {X:List PE1},Paired (PrZ H aA) Z X->Paired (LsS H) (bsZ Z) (gsE (X.map (toE aA)))
 |_,_,.nil=>.nil
 |_,_,@Paired.cons _ _ _ z e Z X h t=>qDq h.2.2 (qO4 t)
theorem qJn:bootBuiltins "repr"=some (.builtin "repr"):=by decide +kernel
def qU9(K:PySem.W.Frag)(Pp Pb:Addr):Sp:=λvs H Q _=>∃(a:Addr) (ns:List Int),vs=[.ref a]/\SqL K H a (ns.map V.int)/\ns.length<=63/\H Pp=some (.tbl #[])/\H Pb=some (.tbl #[])/\Pp≠Pb/\∀H',Q (.bl true) H'
section
variable{P:Program}{w:World}{K:PySem.W.Frag}{mg:Str->Option Value}{base:Heap}{f f1 f2 f3 f4 f5 Pp Pb:Addr}{fd fd1 fd2 fd3 fd4 fd5:FuncData}
noncomputable abbrev laN:List Str:=["_law_script","_law_names_here","_law_base","_law_table","_law_handed","_law_found","_law_kept","_law_rows","_law_kind","_law_share","_law_at","_law_row_here"]
theorem qG5:FnScope laN ["_law_script"] (qAc qQo):=fsk
theorem zCy(F:Fun K "law" "law" qQo f fd)
  (G1:v9 6 f1 fd1 ["_law_script","_law_at"] (qRs K Pb) "_law_tree")
  (G2:v9 16 f2 fd2 ["table"] (qRp Pp) "parts")
  (G3:v9 1 f3 fd3 ["_law_names_here","_law_number"] qRt "_law_row")
  (G4:v9 2 f4 fd4 ["_law_found"] qXs "_law_are_parts")
  (G5:v9 3 f5 fd5 ["_law_names_here","_law_base","_law_found"] qXp "_law_fits")
  (ml:mg "len"=none) (mL:mg "list"=none) (mr:mg "range"=none) (me:mg "enumerate"=none) (mst:mg "str"=none) (mrep:mg "repr"=none):v8 17 f fd ["_law_script"] (qU9 K Pp Pb):=by
 refine F.okA qG5 λcdv A outer s H vs Q E hr h=>?_
 obtain⟨a,ns,rfl,hS,hl,hPp,hPb,ne,q⟩:=h;have hr1:=hr.mono (j:=1) (by decide);have hr2:=hr.mono (j:=2) (by decide);have hr3:=hr.mono (j:=3) (by decide);have hr6:=hr.mono (j:=6) (by decide);have u64:=qSe (n:=64) hr (by decide);have two:2<=sizeLine:=by decide
 refine⟨_,(qAa (qGz (qAv G1 hr6 rfl .nil pass0 (qAe (pv 0) (pa1 qAb))) (qB0 rfl (qAs (v7 1 qG5) (qAs (v5 2 qG5) qBc)))) (qAa (qBj (qAn qFq (qAh qAi rfl ml hAt (pa1 (pv 1))) qAb (nomark _)) (qAd (qAt qE5)) qAx) (qAa (v4 3 qG5 (qA6 (qAe (pv 1) (pa1 (qA7 (N:=laN) (sc:=qAc qQo) (N':=["_law_step","_law_names_here"]) (sub:=[none,some 1]) (qAp (pv 2)) (λC s H fp=>⟨qAw,(qAv G3 hr1 rfl .nil pass0 (qAe (pv 1) (pa1 (pv 0))))⟩)))))) (qAa (v4 4 qG5 (qA6 (qAe (qBp qEe rfl mL qCo (pa1 (pv 1))) (pa1 (qA7 (N:=laN) (sc:=qAc qQo) (N':=["_law_row_here"]) (sub:=[none]) (qAp (qBh qBq (pv 3) qAb (λ_ _=>rfl))) (λC s H fp=>⟨qAw,(qBp (show qB2 _ _ (zFw K) from qEe) rfl mL qCo (pa1 (pv 0)))⟩)))))) (qAa (v4 5 qG5 (qAv G2 hr rfl .nil pass0 (pa1 (pv 4)))) (qAa (v4 6 qG5 (qAh (qMb hr) rfl mrep qJn (pa1 (pv 5)))) (qAa (qBj (PW.pt (qLc (qGy (qDz (qAv G4 hr2 rfl .nil pass0 (pa1 (pv 5))))) (qLc (qGy (qDz (qAv G5 hr3 rfl .nil pass0 (qAe (pv 1) (qAe (pv 2) (pa1 (pv 5))))))) (qJb (qAn (qFo u64) (pv 4) (pv 3) (nomark _)))))) (qAd (qAt qE5)) qAx) (qAa (v4 7 qG5 (qA2 qAz)) (qAa (qBf PassesOwn.never rfl (qAp (pv 5)) (qB0 rfl (qAs (v5 8 qG5) (qAs (v5 9 qG5) qBc))) (qAa (qCd (qDu hAx PySem.F.slot_list_extend PySem.F.type_list_extend qS4 (pv 7) (pa1 (pv 9)))) (qAd (qCd (qX7 hAx PySem.F.slot_list_reverse PySem.F.type_list_reverse qQu (pv 9)))))) (qAa (qBf PassesOwn.never rfl (qE4 rfl me (pa1 (pv 7))) (qB0 rfl (qAs (v5 10 qG5) (qAs (v5 11 qG5) qBc))) (qAd (qCd (qDu hAx hBn hBo qBw (pv 11) (pa1 (qBp qEd rfl mst qF7 (pa1 (pv 10)))))))) (qAa (qBj (qAn (qFo u64) (qA7 (N:=laN) (sc:=qAc qQo) (N':=["_law_row_here"]) (sub:=[none]) (qAp (pv 7)) (λC s H fp=>⟨qAw,(qBh (show IxR _ (zEo K) from qBx) (pv 0) (qLg qHq qAb) (λ_ _=>rfl))⟩)) (qA7 (N:=laN) (sc:=qAc qQo) (N':=["_law_at"]) (sub:=[none]) (qBg rfl mr (pa1 (qAh qAi rfl ml hAt (pa1 (pv 7))))) (λC s H fp=>⟨qAw,(qBp qEd rfl mst qF7 (pa1 (pv 0)))⟩)) (nomark _)) (qAd (qAt qE5)) qAx) (qAa (qCd (qX7 hAx PySem.F.slot_list_clear PySem.F.type_list_clear qWl (pv 5))) (qAd (qAt (qLh (qDf qB4 (qAh (qMb hr) rfl mrep qJn (pa1 (qAv G2 hr rfl .nil pass0 (pa1 (pv 4))))) (pv 6) (nomark _)) (qO5 (qDf (qYb u64) (pv 4) (pv 3) (nomark _)))))))))))))))))),?_⟩;refine⟨_,rfl,a,ns,rfl,hS,.inl hPb,λT0 na ba aA N H1 eB1 hT0 hna hba rn tx n12 lN lt lr _=>?_⟩;refine⟨T0,_,rfl,SqT.of hT0,rfl,_,_,rfl,_,_,rfl,rfl,?_⟩;have tw1:TabW H1 Pp lpP qL:=.inl (eB1 Pp _ ne hPp);have nd:aA.Nodup:=qC5 rn;clear eB1 hPp hPb hT0 hS;refine⟨_,rfl,na,_,rfl,.inl (SqL.of hna),_,_,rfl,rfl,_,rfl,?_⟩;refine qBy (λc=>q _) (λc=>?_);have n3:3<=aA.length:=by
  have c':¬(((aA.map V.str).length:Nat):Int)<3:=λz=>c (hEi z)
  rw[hA1]at c';omega
 refine⟨_,rfl,_,rfl,ba,rfl,⟨_,SqL.of hba⟩,?_⟩;refine qAq (xs:=N.map iV) (λj ys H2=>Ext H1 H2/\∃as:List Addr,ys=as.map V.ref/\Paired (LsS H2) as ((N.take j).map (rowL aA))) ⟨Ext.refl _,[],rfl,.nil⟩ (λj ys H2 _ h=>SqL.of (h.1 _ _ hba)) ?_ ?_
 ·rintro j v ys H2 hx ⟨e2,as,rfl,pr⟩;obtain⟨x,rfl,hx'⟩:=qCj hx;have hj:=qAu hx';have la:=pr.length;rw[hA1,hAk]at la;refine⟨sls,iteT (B:=False) ⟨_,rfl,_,rfl,na,aA,x,rfl,e2 _ _ hna,n12,λr3 H3 e3 r30 h3=>⟨?_,nxt (qAu hx) ⟨e2.trans e3,as++[r3],by rw[hA3];rfl,?_⟩⟩⟩⟩
  ·rw[hA1];exact qAf (by omega)
  ·rw[qAl hx',hA3];exact Paired.snoc (Paired.mapP pr λa t z=>e3 _ _ z) h3
 rintro ys H2 ⟨e2,as,rfl,pr⟩ rb hrb;rw[hA1,hA5 (hAa _)]at pr;have Xrb:=Ext.new hrb (.lst (as.map V.ref));refine⟨two,λT hT=>?_⟩;have XT:=Ext.new hT (.tup [V.ref na,V.ref rb]);have E2:=e2.trans (Xrb.trans XT);have ti:qIt (upd (upd H2 rb (.lst (as.map V.ref))) T (.tup [V.ref na,V.ref rb])) T aA (N.map (rowL aA)):=⟨na,rb,upd_same,E2 _ _ hna,as,XT _ _ upd_same,Paired.mapP pr λa t z=>(Xrb.trans XT) _ _ z⟩;have tw2:=My.TabW.extE tw1 E2;have hna2:=E2 _ _ hna;have hba2:=E2 _ _ hba;have hT2:upd (upd H2 rb (.lst (as.map V.ref))) T (.tup [V.ref na,V.ref rb]) T=some (.tup [V.ref na,V.ref rb]):=upd_same;have hrb2:upd (upd H2 rb (.lst (as.map V.ref))) T (.tup [V.ref na,V.ref rb]) rb=some (.lst (as.map V.ref)):=XT _ _ upd_same;have pr2:=Paired.mapP pr λa t z=>(Xrb.trans XT) _ _ z
 revert ti tw2 hna2 hba2 hT2 hrb2 pr2;clear E2 XT Xrb;generalize upd (upd H2 rb (.lst (as.map V.ref))) T (.tup [V.ref na,V.ref rb])=H3;intro ti tw3 hna3 hba3 hT3 hrb3 pr3;clear pr e2 hrb hT hna hba tw1;refine⟨_,rfl,na,_,rfl,.inl (SqL.of hna3),λl1 hl1=>?_⟩;have X1:=Ext.new hl1 (.lst (aA.map V.str));refine⟨_,rfl,T,_,_,_,rfl,rfl,SqT.of (X1 _ _ hT3),(by exact qAy (j:=1) rfl),rb,rfl,⟨_,SqL.of (X1 _ _ hrb3)⟩,?_⟩;refine qAq (xs:=as.map V.ref) (λj ys H'=>Ext (upd H3 l1 (.lst (aA.map V.str))) H'/\∃cs:List Addr,ys=cs.map V.ref/\Paired (LsS H') cs ((N.map (rowL aA)).take j)) ⟨Ext.refl _,[],rfl,.nil⟩ (λj ys H' _ h=>SqL.of (h.1 _ _ (X1 _ _ hrb3))) ?_ ?_
 ·rintro j v ys H' hx ⟨e2,cs,rfl,pc⟩;obtain⟨b,rfl,hb⟩:=qA5 hx;obtain⟨r,hr',hbr⟩:=qAr pr3 hb;have hj:=qAu hr';rw[hA1]at hj;have lc:=pc.length;rw[hAk,hA1]at lc;refine⟨sls,iteT (B:=False) ⟨_,rfl,b,_,rfl,.inl (SqL.of (e2 _ _ (X1 _ _ hbr))),λl hl=>⟨?_,nxt (qAu hx) ⟨e2.trans (Ext.new hl _),cs++[l],by rw[hA3];rfl,?_⟩⟩⟩⟩
  ·rw[hA1];exact qAf (by omega)
  ·rw[qAl hr'];exact Paired.snoc (Paired.mapP pc λa t z=>Ext.new hl _ _ _ z) upd_same
 rintro ys H' ⟨e2,cs,rfl,pc⟩ rc hrc;have lcs:as.length=(N.map (rowL aA)).length:=pr3.length;rw[hA1,lcs,hA5 (hAa _)]at pc;have Xrc:=Ext.new hrc (.lst (cs.map V.ref));refine⟨two,λT2 hT2=>?_⟩;have XT:=Ext.new hT2 (.tup [V.ref l1,V.ref rc]);have E4:=X1.trans (e2.trans (Xrc.trans XT));have ti2:qIt (upd (upd H' rc (.lst (cs.map V.ref))) T2 (.tup [V.ref l1,V.ref rc])) T2 aA (N.map (rowL aA)):=⟨l1,rc,upd_same,(e2.trans (Xrc.trans XT)) _ _ upd_same,cs,XT _ _ upd_same,Paired.mapP pc λa t z=>(Xrc.trans XT) _ _ z⟩;have ti1:=ti.ext E4;have tw4:=My.TabW.extE tw3 E4;have hna4:=E4 _ _ hna3;have hba4:=E4 _ _ hba3;revert ti2 ti1 tw4 hna4 hba4;clear E4 XT Xrc X1;generalize upd (upd H' rc (.lst (cs.map V.ref))) T2 (.tup [V.ref l1,V.ref rc])=H4;intro ti2 ti1 tw4 hna4 hba4;clear pc e2 hrc hT2 hl1 lcs pr3 hrb3 hT3 hba3 hna3 tw3 ti;refine⟨_,rfl,T2,aA,N.map (rowL aA),rfl,ti2,by rw[hA1];omega,n3,n12,tw4,λL Z H5 eB L0 hL pz nz Ln tw5=>?_⟩;have k5:=zFh tw4 eB;rw[qJi nd]at pz;have pp:=qSn pz;rw[qXa]at hL;have pm:=(qMs s (qHj (keyJ aA (jF aA.length (dsF (N.map (rv aA.length)))))) (jF aA.length (dsF (N.map (rv aA.length)))).length).1;obtain⟨ok,sub,_⟩:=qY4 tx (dsF (N.map (rv aA.length))) n3 n12 pm;have fo:=zDj s rn lt lr n3 n12;have prr:=qO4 pz;have hes:(srtL aA (jF aA.length (dsF (N.map (rv aA.length))))).map (toE aA)=told aA (dsF (N.map (rv aA.length))):=rfl;rw[hes]at pp prr;revert ok sub fo pp prr pz;generalize hX:srtL aA (jF aA.length (dsF (N.map (rv aA.length))))=X at *;generalize he:told aA (dsF (N.map (rv aA.length)))=es at *;intro pz pp ok sub fo prr;clear pm;have rp:=ok.rp;refine⟨_,rfl,_,_,rfl,qYp hL pp,rp,?_⟩;refine⟨_,rfl,L,Z.map (·.1),es,rfl,hL,pp,ok,λH6 e6=>⟨true,rfl,qFz ?_⟩⟩;have K6:=k5.trans e6.kq;refine⟨_,rfl,_,rfl,_,rfl,na,ba,L,aA,N,Z.map (·.1),es,rfl,K6.ls hna4,K6.ln hba4,e6 _ _ hL,Paired.mapP pp λa t z=>z.ext e6,ok,fo,rn,tx,n12,lN,λH7 e7=>⟨true,rfl,qFz ?_⟩⟩;have E7:=e6.trans e7;have K7:=k5.trans E7.kq;have okT:=qQm (aA:=aA) (rows:=N.map (rowL aA)) (λx hx=>(tx x hx).1.sm.ok) λr hr' x hx=>by
  obtain⟨y,_,rfl⟩:=hAb.mp hr';exact((qZr tx n12 y).2 x hx).1.sm.ok
 refine⟨_,rfl,_,rfl,_,_,qP2 (K7.tab ti2),qP2 (K7.tab ti1),okT,okT,_,rfl,?_⟩;rw[hEn rfl,qTs];refine qFz ?_;have pz7:=Paired.mapP pz λz e h=>PrZ.ext h E7
 have hL7:=E7 _ _ hL;have prr7:=Paired.mapP prr λa t z=>E7 _ _ z
 have fr7:Fr H4 Pp L H7:=⟨K7,My.TabW.extE tw5 E7,_,hL7⟩;obtain⟨ndG,ndB,cross⟩:=qY2 nz.nd;have lB:(bsZ Z).length<=120:=by
  have:=qTm ok es.length;rw[hA5 (hAa _)]at this;rw[prr.length];exact this
 refine⟨hAp _,λR hR=>?_⟩;have XR:=Ext.new hR (.lst []);have R0:H4 R=none:=by
  cases hq:H4 R with
  |none=>rfl
  |some o =>
   have:=E7 _ _ (eB R o (λz=>by
    obtain⟨ps,hp⟩:=My.TabW.tb fr7.tw;rw[<-z,hR]at hp;cases hp) hq)
   rw[hR]at this;cases this
 have RL:R≠L:=λz=>by rw[z,hL7]at hR;cases hR
 clear K7 E7 K6 e6 e7 tw5 pz prr pp hL k5 eB;have fg:∀g∈Z.map (·.2.1),∃xs,H7 g=some (.lst xs):=λg hg=>by
  obtain⟨z,hz,rfl⟩:=hAb.mp hg;obtain⟨e,_,h⟩:=qC3 pz7 z hz;exact⟨_,h.2.1⟩
 have tk:∀ {i:Nat} {g:Addr},g∈(Z.take i).map (·.2.1)->g∈Z.map (·.2.1):=λ{i g} h=>by
  obtain⟨z,hz,rfl⟩:=hAb.mp h;exact hB3 (hDc hz)
 refine⟨_,rfl,L,rfl,⟨_,SqL.of (XR _ _ hL7)⟩,?_⟩;refine qBm (xs:=(Z.map (·.1)).map V.ref) (λi σ H'=>∃x8 x9:Option V,σ=[some (.ref a),some (.ref na),some (.ref ba),some (.ref T),some (.ref T2),some (.ref L),some (.str (zD2 es).shown),some (.ref R),x8,x9,none,none]/\Fr H4 Pp L H'/\H' R=some (.lst ((bsZ (Z.take i)).map V.ref))/\∀b o,H7 b=some o->b∉(Z.take i).map (·.2.1)->H' b=some o) ⟨none,none,rfl,fr7.ext XR,upd_same,λb o h _=>XR _ _ h⟩ (λi σ H' _ h=>by
  obtain⟨_,_,_,_,_,g⟩:=h;exact SqL.of (g _ _ hL7 λq=>Ln (zDh (tk q)))) ?_ ?_
 ·rintro i v σ H' hx ⟨x8,x9,rfl,fr,hR',g⟩;obtain⟨t,rfl,ht⟩:=qA5 hx;rw[hAi]at ht;obtain⟨z,hz,rfl⟩:∃z,Z[i]?=some z/\z.1=t:=by
   cases e:Z[i]? with
   |none=>rw[e]at ht;cases ht
   |some z=>rw[e]at ht;exact⟨z,rfl,hAq ht⟩
  obtain⟨e,he',h1,h2,h3⟩:=qAr pz7 hz;have t1:=g _ _ h1 λq=>by
   obtain⟨xs,hxs⟩:=fg _ (tk q);rw[h1]at hxs;cases hxs
  have gn:z.2.1∉(Z.take i).map (·.2.1):=by
   have q:((Z.take (i+1)).map (·.2.1)).Nodup:=ndG.sublist ((List.take_sublist _ _).map _);rw[qAl hz,hA3]at q;exact λu=>(hCl.mp q).2.2 _ u _ hA6 rfl
  have t2:=g _ _ h2 gn;have zm:=hAh hz;have gA:z.2.1∈adr Z:=zDh (hB3 zm);have RG:R≠z.2.1:=λu=>by rw[u,h2]at hR;cases hR
  have lb:=zE1 Z (i+1);rw[qUg hz,hAc]at lb;refine⟨z.1,_,rfl,SqT.of t1,rfl,_,_,rfl,_,_,rfl,rfl,?_⟩;refine⟨_,rfl,.inl ⟨rfl,_,SqL.of hR'⟩,_,rfl,R,z.2.1,_,_,rfl,rfl,hR',t2,by rw[hA1,hA1];exact hB5 (qAf (by omega)),?_⟩;have t3:upd H' R (.lst ((bsZ (Z.take i)).map V.ref++z.2.2.map V.ref)) z.2.1=some (.lst (z.2.2.map V.ref)):=by rw[qAk (Ne.symm RG)];exact t2
  refine⟨_,rfl,.inl ⟨rfl,_,SqL.of t3⟩,z.2.1,_,rfl,rfl,t3,?_⟩;refine⟨_,_,rfl,(fr.put R0 hR' RL).put (nz.fr _ gA) t3 (λu=>Ln (u▸gA)),?_,λb o h hb=>?_⟩
  ·rw[qAk RG,upd_same,qUg hz,hA3]
  ·rw[qAl hz,hA3,hAd]at hb;have b1:b≠z.2.1:=λu=>hb (.inr (by rw[u];exact hA6))
   have b2:b≠R:=λu=>by rw[u,hR]at h;cases h
   rw[qAk b1,qAk b2];exact g b o h λu=>hb (.inl u)
 rintro σ H8 ⟨x8,x9,rfl,fr8,hR8,g8⟩;rw[hA1,hA1,hA5 (hAa _)]at hR8 g8;have nm0:Nmb H8 (bsZ Z) 0:=λm b hb=>by
  obtain⟨r,hr',h1⟩:=qAr prr7 hb;have h1:H7 b=some (.lst (r.map V.str)):=h1;have lr12:r.length<=12:=by
   obtain⟨Rr,hRr,hr2'⟩:=hCx.mp (hAh hr');obtain⟨e,he',rfl⟩:=hAb.mp hRr;exact(ok.rw e he' r hr2').2.1
  exact⟨_,g8 _ _ h1 (cross b (hAh hb)),by rw[hA1];omega,λz=>absurd z (hC5 _),λ_=>by rw[hA1];omega⟩
 have stat:∀b∈bsZ Z,H4 b=none/\b≠R/\b≠L:=λb hb=>by
  refine⟨nz.fr b (qYu hb),λu=>?_,λu=>Ln (u▸qYu hb)⟩;obtain⟨r,_,h1⟩:=qC3 prr7 b hb;have h1:H7 b=some (.lst (r.map V.str)):=h1;rw[u,hR]at h1;cases h1
 clear g8 pz7 prr7 fg;generalize bsZ Z=Bs at *;refine⟨_,rfl,R,_,rfl,SqL.of hR8,?_⟩;rw[hA1];refine qIn (λj σ J2=>∃x10 x11:Option V,σ=[some (.ref a),some (.ref na),some (.ref ba),some (.ref T),some (.ref T2),some (.ref L),some (.str (zD2 es).shown),some (.ref R),x8,x9,x10,x11]/\Fr H4 Pp L J2/\J2 R=some (.lst (Bs.map V.ref))/\Nmb J2 Bs j) ⟨_,_,rfl,fr8,hR8,nm0⟩ ?_ ?_ ?_
 ·rintro j σ J2 _ ⟨_,_,_,_,h,_⟩;exact SqL.of h
 ·rintro j σ J2 Tp hj ⟨x10,x11,rfl,fr,h2,nb⟩ hTp;have gj:(Bs.map V.ref).getD j .non = .ref Bs[j]:=by rw[hA7,hAi,hA2 hj];rfl
  have hb:=hA2 hj;dsimp only;rw[gj];have Y1:=Ext.new hTp (.tup [V.int (j:Nat),V.ref Bs[j]]);have nb2:=nb.ext Y1;obtain⟨ys,hy,_,_,ly⟩:=nb2 j _ hb;have ly:=ly (hAa _);obtain⟨b0,bf,bl⟩:=stat _ (hC4 hj);refine⟨Tp,_,rfl,SqT.of upd_same,rfl,_,_,rfl,_,_,rfl,rfl,?_⟩;refine⟨_,rfl,.inl ⟨rfl,_,SqL.of hy⟩,_,rfl,_,rfl,qX0 ⟨j,by omega⟩,Bs[j],_,_,rfl,rfl,hy,qAf (by omega),?_⟩;exact⟨_,_,rfl,(fr.ext Y1).put b0 hy bl,by rw[qAk (Ne.symm bf)];exact Y1 _ _ h2,nb2.put ndB hb hy ly⟩
 rintro σ J2 ⟨x10,x11,rfl,fr9,h2,nb⟩;clear nm0 hR8 fr8;refine⟨_,rfl,R,rfl,⟨_,SqL.of h2⟩,?_⟩;refine qAq (xs:=Bs.map V.ref) (λj ys J3=>J2=J3/\ys=((List.range j).map sI).map V.str) ⟨rfl,rfl⟩ (λj ys J3 _ h=>by rw[<-h.1];exact SqL.of h2) ?_ ?_
 ·rintro j v ys J3 hx ⟨rfl,rfl⟩;obtain⟨b,rfl,hb⟩:=qA5 hx;have hj:=qAu hb;obtain⟨ys,hy,_,ly,_⟩:=nb j b hb;obtain⟨zs,rfl⟩:=ly hj;refine⟨sls,iteT (B:=False) ⟨_,rfl,_,rfl,b,_,_,_,rfl,rfl,SqL.of hy,qW9 zs _,?_,nxt (qAu hx) ⟨rfl,?_⟩⟩⟩
  ·rw[hA1,hA1,hB0];exact qAf (by omega)
  ·rw[hCf,hA3,hA3];rfl
 rintro ys J3 ⟨rfl,rfl⟩ l1 hl1;rw[hA1];have Y1:=Ext.new hl1 (.lst (((List.range Bs.length).map sI).map V.str));refine⟨_,rfl,R,_,rfl,.inl (SqL.of (Y1 _ _ h2)),_,rfl,by omega,by rw[hA1];omega,?_⟩;rw[hA1];refine qDr (lo:=0) (n:=Bs.length) (λj ys J4=>upd J2 l1 (.lst (((List.range Bs.length).map sI).map V.str))=J4/\ys=((List.range j).map sI).map V.str) ⟨rfl,rfl⟩ ?_ ?_
 ·rintro j ys J4 hj ⟨rfl,rfl⟩;have hj13:j<121:=by omega
  refine⟨sls,iteT (B:=False) ⟨_,rfl,_,rfl,?_,?_,nxt hj ⟨rfl,?_⟩⟩⟩
  ·rw[show(0+(j:Int))=((j:Nat):Int) by omega];exact qX0 ⟨j,hj13⟩
  ·rw[hA1,hA1,hB0];exact qAf (by omega)
  ·rw[hCf,hA3,hA3,show(0+(j:Int))=((j:Nat):Int) by omega];rfl
 rintro ys J4 ⟨rfl,rfl⟩ l2 hl2;have Y2:=Ext.new hl2 (.lst (((List.range Bs.length).map sI).map V.str));have okN:=zCk (n:=Bs.length) lB;refine⟨_,_,qD1 (Y2 _ _ (show LsS _ l1 ((List.range Bs.length).map sI) from upd_same)),qD1 (show LsS _ l2 ((List.range Bs.length).map sI) from upd_same),qCl okN,qCl okN,_,rfl,?_⟩;rw[hEn rfl,qFa,hEi rfl];refine qFz ?_;have fr10:=fr9.ext (Y1.trans Y2);revert fr10;generalize upd (upd J2 l1 (.lst (((List.range Bs.length).map sI).map V.str))) l2 (.lst (((List.range Bs.length).map sI).map V.str))=J5;intro fr10;obtain⟨ls,hls⟩:=fr10.hl;refine⟨_,rfl,.inl ⟨rfl,_,SqL.of hls⟩,L,_,rfl,rfl,hls,?_⟩;have k11:=fr10.kq.over L0 (.lst []);have tw11:TabW (upd J5 L (.lst [])) Pp lpP qL:=qN7 fr10.tw hls;revert k11 tw11;generalize upd J5 L (.lst [])=J6;intro k11 tw11;refine⟨_,rfl,T2,aA,N.map (rowL aA),rfl,k11.tab ti2,by rw[hA1];omega,n3,n12,tw11,λL2 Z2 H9 eB9 _ hL2 pz2 _ _ tw9=>?_⟩;have k9:=k11.trans (zFh tw11 eB9);rw[qJi nd,hX]at pz2;have pp2:=qSn pz2;rw[qXa]at hL2;rw[hes]at pp2;refine⟨_,_,rfl,qYp hL2 pp2,rp,_,rfl,rfl,_,rfl,?_⟩;rw[hEi rfl];refine iteT ?_;refine⟨_,rfl,_,rfl,_,_,qP2 (k9.tab ti2),qP2 (k9.tab ti1),okT,okT,?_⟩;rw[hEm (by decide),qTs];exact q _
end
end My
namespace L2
open PySem PySem.Spec PyProof.Rows
theorem qQw{P:Program}{w:World}{K:PySem.W.Frag}{mg mb:Str->Option Value}{CX:CXT}{k:Nat}{fa a c T c2 T2:Addr}{fd:FuncData}{x:Str}{sp:Sp}{s₁:Shared}{vs:List Value}{ns:List Int}
  (KX:K.In s₁.heap) (hns:s₁.heap.Ns mainGlobals mg) (hb:s₁.heap.Ns builtinsNs mb) (hbb:∀x:Str,x≠"__name__"->mb x=bootBuiltins x) (hlim:s₁.heap.NoLimit) (hg:s₁.gens=#[])
  (ha:s₁.heap.get? a=some { cls:=.type "list",data:=.seq vs.toArray }) (hi:IntsAre vs ns) (hl:ns.length<=sizeLine) (hr:Room k callerA)
  (hC:PySem.W.CodeHd s₁.heap c T) (hT:s₁.heap.get? T=some (PySem.W.tabObj #[])) (hC2:PySem.W.CodeHd s₁.heap c2 T2) (hT2:s₁.heap.get? T2=some (PySem.W.tabObj #[])) (hnt:PySem.W.noTabs K=true) (hB:s₁.heap.BuiltinsAt mg T) (hB2:s₁.heap.BuiltinsAt mg T2)
  (F:∀base:Heap,K.In base->base.Ns mainGlobals mg->PySem.W.CodeHd base c T->base.BuiltinsAt mg T->PySem.W.CodeHd base c2 T2->base.BuiltinsAt mg T2->FnOk P w K mg base CX k fa fd [x] sp) (hbind:∀(s:Shared) (u:Value),BindsTo s fd ⟨[u],[]⟩ [(x,u)])
  (hsp:∀H:Hp,H T=some (.tbl #[])->H T2=some (.tbl #[])->SqL K H a (ns.map V.int)->sp [.ref a] H (λv _=>v = .bl true) λ_ _ _=>False)
  (hCX:∀H e s',CX [] H s₁ (λ_ _ _=>False) e s'->False) :
  codeAny (model P w) callerA (.call (.ref fa) ⟨[.ref a],[]⟩) (λr s'=>r = .ok (.ret (.bool true))/\OldK s₁.heap s'.heap/\s'.os=s₁.os/\AllBare s'.gens) s₁:=by
 have rv:=qKw hi;have lenV:=hi.length;have hKT:=zC1 KX hnt hT;have hKT2:=zC1 KX hnt hT2;have isT:∀ {b:Addr},b=T\/b=T2->s₁.heap.get? b=some (PySem.W.tabObj #[]):=λh=>by
  rcases h with h|h
  ·rw[h];exact hT
  ·rw[h];exact hT2
 have noK:∀ {b:Addr},b=T\/b=T2->K.lookup b=none:=λh=>by
  rcases h with h|h
  ·rw[h];exact hKT
  ·rw[h];exact hKT2
 have aT:¬(a=T\/a=T2):=λz=>by have:=isT z;rw[ha]at this;cases this
 have core:∀H:Hp,(∀b,¬(b=T\/b=T2)->H b=none\/∃o xs,H b=some (.frz o (.lst xs)))->(∀b,b=T\/b=T2->H b=some (.tbl #[]))->SqL K H a (ns.map V.int)->HOk P w H s₁.heap->(∀b,H b≠none->b=a\/b=T\/b=T2)->(H a≠none->K.lookup a=none) ->
   codeAny (model P w) callerA (.call (.ref fa) ⟨[.ref a],[]⟩) (λr s'=>r = .ok (.ret (.bool true))/\OldK s₁.heap s'.heap/\s'.os=s₁.os/\AllBare s'.gens) s₁:=by
  intro H hO hHT hS hok hA hK;have base_of:∀ {b:Addr} {o:Obj},s₁.heap.get? b=some o->H b=none->(qTl s₁.heap H).get? b=some o:=λe n=>qWs e n
  have noA:∀ {b:Addr} {o:Obj},s₁.heap.get? b=some o->(∀vs n,o.data≠.seq vs n)->o≠PySem.W.tabObj #[]->H b=none:=λ{b o} e d1 d2=>by
   cases q:H b with
   |none=>rfl
   |some u =>
    rcases hA b (by rw[q];simp) with e'|e'
    ·subst e';rw[ha]at e;cases e;exact absurd rfl (d1 _ _)
    ·rw[isT e']at e;exact absurd (hAq e).symm d2
  have nsK:∀ {b:Addr} {m:Str->Option Value},s₁.heap.Ns b m->(qTl s₁.heap H).Ns b m:=λ{b m} ⟨o,es,ep,e,d,r⟩=>⟨o,es,ep,base_of e (noA e (λ_ _ z=>by rw[d]at z;cases z) (λz=>by rw[z]at d;cases d)),d,r⟩
  have hKb:K.In (qTl s₁.heap H):=λb o e=>base_of (KX b o e) (by
   cases q:H b with
   |none=>rfl
   |some u =>
    rcases hA b (by rw[q];simp) with e'|e'
    ·subst e';rw[hK (by rw[q];simp)]at e;cases e
    ·rw[noK e']at e;cases e)
  have hM:Mod K mg (qTl s₁.heap H):=⟨hKb,nsK hns,⟨mb,nsK hb,hbb⟩,let ⟨mc,h1,h2⟩:=hlim;⟨mc,nsK h1,h2⟩⟩;have hdK:∀ {c T:Addr},PySem.W.CodeHd s₁.heap c T->PySem.W.CodeHd (qTl s₁.heap H) c T:=λ{c T} hC=>by
   obtain⟨o,vs',file,tf,flags,tg,inF,text,tt,e1,e2,e3,r⟩:=hC;refine⟨o,vs',file,tf,flags,tg,inF,text,tt,base_of e1 (noA e1 (λ_ _ z=>by rw[e3]at z;cases z) (λz=>by rw[z]at e2;cases e2)),e2,e3,r⟩
  have blK:∀ {T:Addr},s₁.heap.BuiltinsAt mg T->(qTl s₁.heap H).BuiltinsAt mg T:=λ{T} hB=>by
   obtain⟨bm,ob,b1,b2,b3,b4,b5,b6,b7,b8⟩:=hB;exact⟨bm,ob,b1,b2,b3,b4,base_of b5 (noA b5 (λ_ _ z=>by rw[b8]at z;cases z) (λz=>by rw[z]at b8;cases b8)),b6,b7,b8⟩
  have e0:Env0 P w K mg (qTl s₁.heap H) callerA [] s₁ H:=⟨rfl,hM,λb o e=>zAv e,Nat.le_of_eq (qTk _ _),trivial,λb hb=>absurd (show b∈([]:List Addr) from hb) (by simp),hok,.of_eq hg⟩;refine hFf ((F _ hKb (nsK hns) (hdK hC) (blK hB) (hdK hC2) (blK hB2)).run callerA [] s₁ H ⟨[.ref a],[]⟩ [.ref a] [.ref a] _ _ hr e0 (hbind s₁ (.ref a)) (.cons rfl .nil) (hsp H (hHT T (.inl rfl)) (hHT T2 (.inr rfl)) hS)) λr s' h=>?_
  cases r with
  |error e=>exact(hCX H e s' h).elim
  |ok fl =>
   cases fl with
   |next=>exact False.elim h
   |brk=>exact False.elim h
   |cont=>exact False.elim h
   |ret u =>
    obtain⟨v,H',os,bare,un,hok',r',q⟩:=h;have q':v = .bl true:=q;subst q';obtain rfl:u=Value.bool true:=r';have tbs:∀b,b=T\/b=T2->∃more:Array Value,s'.heap.get? b=some { cls:=.none,data:=.fields (#[]++more) }:=λb hbT=>by
     obtain⟨more,hmT⟩:=un.tbls b _ (hHT b hbT);exact⟨more,hok' b _ hmT⟩
    refine⟨rfl,⟨λb o e=>?_,λb o e=>?_⟩,os,bare⟩
    ·by_cases hbT:b=T\/b=T2
     ·obtain⟨more,hTs⟩:=tbs b hbT;have e2:=isT hbT;rw[e2]at e;cases e;rcases hbT with z|z
      ·subst z;exact .inr (.inl ⟨(hC.tab hT).isCodeTable,rfl,#[],more,rfl,hTs⟩)
      ·subst z;exact .inr (.inl ⟨(hC2.tab hT2).isCodeTable,rfl,#[],more,rfl,hTs⟩)
     ·refine .inl ?_;cases q:H b with
      |none=>exact un.keep b o e q (by intro z;exact absurd (show b∈([]:List Addr) from z) (by simp)) (by simp)
      |some u =>
       rcases hO b hbT with z|⟨ob,xs,z⟩
       ·rw[q]at z;cases z
       ·have z2:=un.frzs b ob _ z;obtain⟨e1,_⟩:=hok b _ z;obtain⟨e2,_⟩:=hok' b _ z2;rw[e]at e1;cases e1;exact e2
    ·by_cases hbT:b=T\/b=T2
     ·obtain⟨more,hTs⟩:=tbs b hbT;exact⟨_,hTs⟩
     ·cases q:H b with
      |none=>exact⟨o,un.keep b o e q (by intro z;exact absurd (show b∈([]:List Addr) from z) (by simp)) (by simp)⟩
      |some u =>
       rcases hO b hbT with z|⟨ob,xs,z⟩
       ·rw[q]at z;cases z
       ·obtain⟨e2,_⟩:=hok' b _ (un.frzs b ob _ z);exact⟨_,e2⟩
 cases hk:K.lookup a with
 |some o =>
  have e:=KX a o hk;rw[ha]at e;cases e;refine core (λb=>if b=T\/b=T2 then some (.tbl #[]) else none) (λb hb=>.inl (hEm hb)) (λb hb=>hEn hb) (.inr ⟨_,vs.toArray,_,hk,rfl,rfl,rfl,by rw[hAf,lenV];exact hl,by simpa using rv⟩) (λb u z=>?_) (λb z=>?_) (λz=>absurd (hEm aT) z)
  ·by_cases hb:b=T\/b=T2
   ·have z':=(hEn hb).symm.trans z;cases z';exact isT hb
   ·have z':=(hEm hb).symm.trans z;cases z'
  ·by_cases hb:b=T\/b=T2
   ·exact .inr hb
   ·exact absurd (hEm hb) z
 |none =>
  refine core (λb=>if b=T\/b=T2 then some (.tbl #[]) else if b=a then some (.frz { cls:=.type "list",data:=.seq vs.toArray } (.lst (ns.map V.int))) else none) (λb hbT=>?_) (λb hb=>hEn hb) (.inl (.inr ⟨{ cls:=.type "list",data:=.seq vs.toArray },(hEm aT).trans (hEn rfl)⟩)) (λb u z=>?_) (λb z=>?_) λ_=>hk
  ·by_cases hb:b=a
   ·exact .inr ⟨_,_,(hEm hbT).trans (hEn hb)⟩
   ·exact .inl ((hEm hbT).trans (hEm hb))
  ·by_cases hbT:b=T\/b=T2
   ·have z':=(hEn hbT).symm.trans z;cases z';exact isT hbT
   ·have z:=(hEm hbT).symm.trans z;by_cases hb:b=a
    ·have z':=(hEn hb).symm.trans z;cases z';subst hb;exact⟨ha,by rw[hA1];exact hl,vs,_,rv,ha⟩
    ·have z':=(hEm hb).symm.trans z;cases z'
  ·by_cases hbT:b=T\/b=T2
   ·exact .inr hbT
   ·by_cases hb:b=a
    ·exact .inl hb
    ·exact absurd ((hEm hbT).trans (hEm hb)) z
theorem walk_ofT2{l:PySem.W.OpenLaw}{n k:Nat}{q:Program}{loose:List Str}{XP:(Str->Option Value)->Heap->Prop}{YP:World->Heap->Prop}{d dr dr2:DefRec}{K:Params->PySem.W.Frag}{CX:World->CXT}{sp:World->Addr->Addr->Sp}{x tx ty:Str}
  (hn:l.most=some n) (hn2:n<=sizeLine) (hdf:d.params.defaults=[]) (hr:Room k callerA)
  (hY:∀(w:World) (h:Heap),YP w h->(K w.params).In h) (hrec:(recsOf q).find? (λe=>e.name == tx)=some dr) (hrec2:(recsOf q).find? (λe=>e.name == ty)=some dr2)
  (hK:∀w:World,∃c T c2 T2,PySem.W.tabIn (K w.params) tx=some (c,T)/\PySem.W.tabIn (K w.params) ty=some (c2,T2)/\T≠T2/\PySem.W.noTabs (K w.params)=true)
  (F:∀(w:World) (mg:Str->Option Value) (fa:Addr) (h:Heap) (c T c2 T2:Addr),(K w.params).In h->h.Ns mainGlobals mg->mg d.name=some (.ref fa)->PySem.W.tabIn (K w.params) tx=some (c,T)->PySem.W.tabIn (K w.params) ty=some (c2,T2) ->
   ∃fd:FuncData,(∀(s:Shared) (u:Value),BindsTo s fd ⟨[u],[]⟩ [(x,u)]) /\
    ∀base:Heap,(K w.params).In base->base.Ns mainGlobals mg->PySem.W.CodeHd base c T->base.BuiltinsAt mg T->PySem.W.CodeHd base c2 T2->base.BuiltinsAt mg T2->FnOk l.prog w (K w.params) mg base (CX w) k fa fd [x] (sp w T T2))
  (hsp:∀(w:World) (T T2:Addr) (H:Hp) (a:Addr) (ns:List Int),ns.length<=n->T≠T2->H T=some (.tbl #[])->H T2=some (.tbl #[])->SqL (K w.params) H a (ns.map V.int)->sp w T T2 [.ref a] H (λv _=>v = .bl true) λ_ _ _=>False)
  (hCX:∀(w:World) (H:Hp) (s:Shared) (e:Value) (s':Shared),CX w [] H s (λ_ _ _=>False) e s'->False) :
  PySem.W.WalkO q loose XP YP l.row.toRowW d [] (λf vs=>PySem.call f vs):=by
 refine Att.attach_call hn hdf λw s₀ s₁ mg mb fa o pm cd doc a vs ns G Y ho hd hcd hmg hobj hints hlen hg=>?_
 have KX:=hY w _ Y;obtain⟨c,T,c2,T2,ht,ht2,ne,hnt⟩:=hK w;obtain⟨hC,hT⟩:=PySem.W.tab_of G.T KX hrec ht;obtain⟨hC2,hT2⟩:=PySem.W.tab_of G.T KX hrec2 ht2;obtain⟨bm,ob,b1,b2,b3,b4,b5,b6⟩:=G.T.bmain;have hbT:∀ {T:Addr},s₁.heap.get? T=some (PySem.W.tabObj #[])->bm≠T:=λhT z=>by rw[z,hT]at b3;cases b3;cases b4
 have hbG:bm≠mainGlobals:=λz=>by
  obtain⟨o',es,ep,e,hd',_⟩:=G.T.g;rw[z,e]at b3;cases b3;rw[hd']at b6;cases b6
 obtain⟨fd,hb,hF⟩:=F w mg fa _ c T c2 T2 KX G.T.g hmg ht ht2;exact qQw KX G.T.g G.T.b G.T.builtins G.T.nolimit hg hobj hints (hAw hlen hn2) hr hC hT hC2 hT2 hnt ⟨bm,ob,b1,b2,hbG,hbT hT,b3,b4,b5,b6⟩ ⟨bm,ob,b1,b2,hbG,hbT hT2,b3,b4,b5,b6⟩ hF hb (λH h1 h2 hS=>hsp w T T2 H a ns hlen ne h1 h2 hS) λH e s'=>hCX w H s₁ e s'
end L2
namespace My
open PySem L2
theorem qUw(h:us.length=1):∃a,us=[a]:=List.length_eq_one_iff.mp h
theorem qG9(h:us.length=2):∃a b,us=[a,b]:=by
 match us,h with | [a,b],_=>exact⟨a,b,rfl⟩
theorem zBv(h:us.length=3):∃a b c,us=[a,b,c]:=by
 match us,h with | [a,b,c],_=>exact⟨a,b,c,rfl⟩
theorem zFf(h:us.length=4):∃a b c d,us=[a,b,c,d]:=by
 match us,h with | [a,b,c,d],_=>exact⟨a,b,c,d,rfl⟩
def Hs(K:PySem.W.Frag)(x:Str)(st:Stmt)(f:Addr):Prop:=∃(od an:Option Addr) (sl:Array (Option Value)) (oc kV dc pm cd ct:Value),PySem.W.nsIn K mainGlobals x=some (some (.ref f))/\K.lookup f=some ⟨oc,od,.func (PySem.W.fnOf x x (qDg st) (qB7 st) (qAc st) .none kV dc pm an cd ct),sl⟩/\PySem.W.codeIn K cd x=true/\PySem.W.keepIn K (.ref f)=true
theorem hs_mk{K:PySem.W.Frag}{x:Str}{st:Stmt}{f:Addr}{od an:Option Addr}{sl:Array (Option Value)}{oc kV dc pm cd ct:Value}(a:PySem.W.nsIn K mainGlobals x=some (some (.ref f)))(l:K.lookup f=some ⟨oc,od,.func (PySem.W.fnOf x x (qDg st) (qB7 st) (qAc st) .none kV dc pm an cd ct),sl⟩)(c:PySem.W.codeIn K cd x=true)(k:PySem.W.keepIn K (.ref f)=true):Hs K x st f:=⟨_,_,_,_,_,_,_,_,_,a,l,c,k⟩
theorem qA0(X:K.In h)(G:h.Ns mainGlobals mg)(H:Hs K x st f):∃fd,Fun K x x st f fd/\PySem.W.keepIn K (.ref f)=true/\mg x=some (.ref f):=by
 obtain⟨_,_,_,_,_,_,_,_,_,a,l,c,k⟩:=H;exact⟨_,qPr (st:=st) l c k,k,PySem.W.mg_of X G a⟩
theorem all_mk{l:PySem.W.OpenLaw}{w:World}{K:PySem.W.Frag}{h:Heap}{mg:Str->Option Value}{fa f1 f2 f3 f4 f5 f6 f7 f8 f9 f10 f11 f12 f13 f14 f15 f16 f17 f18 f19 f20 f21 f22 f23 f24 f25 f26 f27 f28 f29 f30 f31 f32 f33 f34 f35 f36 f37 f38 f39 f40 f41 f42 f43 f44:Addr}(X:K.In h)(G:h.Ns mainGlobals mg)(hfa:mg "law"=some (.ref fa)){cx Tx cy Ty:Addr}(ht:PySem.W.tabIn K "parts"=some (cx,Tx))(ht2:PySem.W.tabIn K "_law_blocks"=some (cy,Ty))
  {odN anN od20 an20 od36 an36:Option Addr} {slN sl20 sl36:Array (Option Value)} {ocN kVN dcN pmN cdN ctN oc20 kV20 dc20 pm20 cd20 ct20 oc36 kV36 dc36 pm36 cd36 ct36:Value}
  (h1:Hs K "mask_of" qVk f1) (h2:Hs K "row_of" qI8 f2) (h3:Hs K "lessened" qZj f3) (h4:Hs K "reduced" qVj f4) (h5:Hs K "step_masks" qOn f5) (h6:Hs K "is_single" qM5 f6) (h7:Hs K "splits" qM4 f7)
  (h8:Hs K "lies_across" qZi f8) (h9:Hs K "is_crossed" qZm f9) (h10:Hs K "share_masks" qI7 f10) (h11:Hs K "grown" qR7 f11) (h12:Hs K "widths" qGe f12) (h13:Hs K "first_parting" qR8 f13)
  (h14:Hs K "kind_of" qZl f14) (h15:Hs K "parted" qJ7 f15) (h16:Hs K "beside" qM7 f16) (h17:Hs K "are_mates" qOp f17) (h18:Hs K "melded" qH1 f18) (h19:Hs K "joined" qH2 f19)
  (a20:PySem.W.nsIn K mainGlobals "parts"=some (some (.ref f20))) (l20:K.lookup f20=some ⟨oc20,od20,.func (PySem.W.fnOf "parts" "parts" (qDg qD7) (qB7 qD7) (qAc qD7) .none kV20 dc20 pm20 an20 cd20 ct20),sl20⟩) (c20:PySem.W.codeIn K cd20 "parts"=true) (k20:PySem.W.keepIn K (.ref f20)=true)
  (h21:Hs K "_law_cell_at" qZn f21) (h22:Hs K "_law_big" zEi f22) (h23:Hs K "_law_names" qOo f23) (h24:Hs K "_law_ends" qVt f24) (h25:Hs K "_law_net" zEg f25) (h26:Hs K "_law_reduced" qVo f26)
  (h27:Hs K "_law_even" qLa f27) (h28:Hs K "_law_crossing" qR6 f28) (h29:Hs K "_law_small" qM6 f29) (h30:Hs K "_law_with_more" qVp f30) (h31:Hs K "_law_row" qVn f31) (h32:Hs K "_law_mask" qVq f32)
  (h33:Hs K "_law_free" qZk f33) (h34:Hs K "_law_steps_of" qVm f34) (h35:Hs K "_law_sums" qVl f35)
  (a36:PySem.W.nsIn K mainGlobals "_law_blocks"=some (some (.ref f36))) (l36:K.lookup f36=some ⟨oc36,od36,.func (PySem.W.fnOf "_law_blocks" "_law_blocks" (qDg qG6) (qB7 qG6) (qAc qG6) .none kV36 dc36 pm36 an36 cd36 ct36),sl36⟩) (c36:PySem.W.codeIn K cd36 "_law_blocks"=true) (k36:PySem.W.keepIn K (.ref f36)=true)
  (h37:Hs K "_law_inside" qVr f37) (h38:Hs K "_law_block" qQp f38) (h39:Hs K "_law_glued" qVs f39) (h40:Hs K "_law_tree" qK9 f40) (h41:Hs K "_law_flat" qR5 f41) (h42:Hs K "_law_are_parts" qQq f42)
  (h43:Hs K "_law_fits" qEt f43)
  (a44:PySem.W.nsIn K mainGlobals "law"=some (some (.ref f44))) (l44:K.lookup f44=some ⟨ocN,odN,.func (PySem.W.fnOf "law" "law" (qDg qQo) (qB7 qQo) (qAc qQo) .none kVN dcN pmN anN cdN ctN),slN⟩) (c44:PySem.W.codeIn K cdN "law"=true) (k44:PySem.W.keepIn K (.ref f44)=true)
  (z1:PySem.W.nsIn K mainGlobals "abs"=some none)
  (z2:PySem.W.nsIn K mainGlobals "all"=some none)
  (z3:PySem.W.nsIn K mainGlobals "any"=some none)
  (z4:PySem.W.nsIn K mainGlobals "enumerate"=some none)
  (z5:PySem.W.nsIn K mainGlobals "isinstance"=some none)
  (z6:PySem.W.nsIn K mainGlobals "len"=some none)
  (z7:PySem.W.nsIn K mainGlobals "list"=some none)
  (z8:PySem.W.nsIn K mainGlobals "max"=some none)
  (z9:PySem.W.nsIn K mainGlobals "min"=some none)
  (z10:PySem.W.nsIn K mainGlobals "range"=some none)
  (z11:PySem.W.nsIn K mainGlobals "repr"=some none)
  (z12:PySem.W.nsIn K mainGlobals "reversed"=some none)
  (z13:PySem.W.nsIn K mainGlobals "set"=some none)
  (z14:PySem.W.nsIn K mainGlobals "sorted"=some none)
  (z15:PySem.W.nsIn K mainGlobals "str"=some none)
  (z16:PySem.W.nsIn K mainGlobals "sum"=some none)
  (z17:PySem.W.nsIn K mainGlobals "tuple"=some none)
  (z18:PySem.W.nsIn K mainGlobals "zip"=some none)
  : ∃fd:FuncData,(∀(s:Shared) (v:Value),BindsTo s fd ⟨[v],[]⟩ [("_law_script",v)])/\∀base:Heap,K.In base->base.Ns mainGlobals mg->PySem.W.CodeHd base cx Tx->base.BuiltinsAt mg Tx->PySem.W.CodeHd base cy Ty->base.BuiltinsAt mg Ty->FnOk l.prog w K mg base CX0 17 fa fd ["_law_script"] (qU9 K Tx Ty):=by
 have e:=hfa.symm.trans (PySem.W.mg_of X G a44);cases e;obtain⟨_,F1,k1,m1⟩:=qA0 X G h1;obtain⟨_,F2,k2,m2⟩:=qA0 X G h2;obtain⟨_,F3,k3,m3⟩:=qA0 X G h3;obtain⟨_,F4,k4,m4⟩:=qA0 X G h4;obtain⟨_,F5,k5,m5⟩:=qA0 X G h5;obtain⟨_,F6,k6,m6⟩:=qA0 X G h6;obtain⟨_,F7,k7,m7⟩:=qA0 X G h7;obtain⟨_,F8,k8,m8⟩:=qA0 X G h8;obtain⟨_,F9,k9,m9⟩:=qA0 X G h9;obtain⟨_,F10,k10,m10⟩:=qA0 X G h10;obtain⟨_,F11,k11,m11⟩:=qA0 X G h11;obtain⟨_,F12,k12,m12⟩:=qA0 X G h12;obtain⟨_,F13,k13,m13⟩:=qA0 X G h13;obtain⟨_,F14,k14,m14⟩:=qA0 X G h14;obtain⟨_,F15,k15,m15⟩:=qA0 X G h15;obtain⟨_,F16,k16,m16⟩:=qA0 X G h16;obtain⟨_,F17,k17,m17⟩:=qA0 X G h17;obtain⟨_,F18,k18,m18⟩:=qA0 X G h18;obtain⟨_,F19,k19,m19⟩:=qA0 X G h19;have F20:=qPr (st:=qD7) l20 c20 k20;obtain⟨_,F21,k21,m21⟩:=qA0 X G h21;obtain⟨_,F22,k22,m22⟩:=qA0 X G h22;obtain⟨_,F23,k23,m23⟩:=qA0 X G h23;obtain⟨_,F24,k24,m24⟩:=qA0 X G h24;obtain⟨_,F25,k25,m25⟩:=qA0 X G h25;obtain⟨_,F26,k26,m26⟩:=qA0 X G h26;obtain⟨_,F27,k27,m27⟩:=qA0 X G h27;obtain⟨_,F28,k28,m28⟩:=qA0 X G h28;obtain⟨_,F29,k29,m29⟩:=qA0 X G h29;obtain⟨_,F30,k30,m30⟩:=qA0 X G h30;obtain⟨_,F31,k31,m31⟩:=qA0 X G h31;obtain⟨_,F32,k32,m32⟩:=qA0 X G h32;obtain⟨_,F33,k33,m33⟩:=qA0 X G h33;obtain⟨_,F34,k34,m34⟩:=qA0 X G h34;obtain⟨_,F35,k35,m35⟩:=qA0 X G h35;have F36:=qPr (st:=qG6) l36 c36 k36;obtain⟨_,F37,k37,m37⟩:=qA0 X G h37;obtain⟨_,F38,k38,m38⟩:=qA0 X G h38;obtain⟨_,F39,k39,m39⟩:=qA0 X G h39;obtain⟨_,F40,k40,m40⟩:=qA0 X G h40;obtain⟨_,F41,k41,m41⟩:=qA0 X G h41;obtain⟨_,F42,k42,m42⟩:=qA0 X G h42;obtain⟨_,F43,k43,m43⟩:=qA0 X G h43;have F44:=qPr (st:=qQo) l44 c44 k44;have b1:=F1.binds (ps:=["names","row"]) λ_ _ _ _ _ _ us hl=>by obtain⟨_,_,rfl⟩:=qG9 hl;rfl
 have b2:=F2.binds (ps:=["names","mask"]) λ_ _ _ _ _ _ us hl=>by obtain⟨_,_,rfl⟩:=qG9 hl;rfl
 have b3:=F3.binds (ps:=["mask","kept"]) λ_ _ _ _ _ _ us hl=>by obtain⟨_,_,rfl⟩:=qG9 hl;rfl
 have b4:=F4.binds (ps:=["masks"]) λ_ _ _ _ _ _ us hl=>by obtain⟨_,rfl⟩:=qUw hl;rfl
 have b5:=F5.binds (ps:=["table"]) λ_ _ _ _ _ _ us hl=>by obtain⟨_,rfl⟩:=qUw hl;rfl
 have b6:=F6.binds (ps:=["mask"]) λ_ _ _ _ _ _ us hl=>by obtain⟨_,rfl⟩:=qUw hl;rfl
 have b7:=F7.binds (ps:=["steps","one","rest","met"]) λ_ _ _ _ _ _ us hl=>by obtain⟨_,_,_,_,rfl⟩:=zFf hl;rfl
 have b8:=F8.binds (ps:=["steps","even","some"]) λ_ _ _ _ _ _ us hl=>by obtain⟨_,_,_,rfl⟩:=zBv hl;rfl
 have b9:=F9.binds (ps:=["steps","even","group"]) λ_ _ _ _ _ _ us hl=>by obtain⟨_,_,_,rfl⟩:=zBv hl;rfl
 have b10:=F10.binds (ps:=["steps","groups"]) λ_ _ _ _ _ _ us hl=>by obtain⟨_,_,rfl⟩:=qG9 hl;rfl
 have b11:=F11.binds (ps:=["base","column"]) λ_ _ _ _ _ _ us hl=>by obtain⟨_,_,rfl⟩:=qG9 hl;rfl
 have b12:=F12.binds (ps:=["steps","many"]) λ_ _ _ _ _ _ us hl=>by obtain⟨_,_,rfl⟩:=qG9 hl;rfl
 have b13:=F13.binds (ps:=["steps","many"]) λ_ _ _ _ _ _ us hl=>by obtain⟨_,_,rfl⟩:=qG9 hl;rfl
 have b14:=F14.binds (ps:=["steps","many"]) λ_ _ _ _ _ _ us hl=>by obtain⟨_,_,rfl⟩:=qG9 hl;rfl
 have b15:=F15.binds (ps:=["steps","groups"]) λ_ _ _ _ _ _ us hl=>by obtain⟨_,_,rfl⟩:=qG9 hl;rfl
 have b16:=F16.binds (ps:=["groups","others"]) λ_ _ _ _ _ _ us hl=>by obtain⟨_,_,rfl⟩:=qG9 hl;rfl
 have b17:=F17.binds (ps:=["one","other","whole"]) λ_ _ _ _ _ _ us hl=>by obtain⟨_,_,_,rfl⟩:=zBv hl;rfl
 have b18:=F18.binds (ps:=["one","other","whole"]) λ_ _ _ _ _ _ us hl=>by obtain⟨_,_,_,rfl⟩:=zBv hl;rfl
 have b19:=F19.binds (ps:=["found","whole"]) λ_ _ _ _ _ _ us hl=>by obtain⟨_,_,rfl⟩:=qG9 hl;rfl
 have b20:=F20.binds (ps:=["table"]) λ_ _ _ _ _ _ us hl=>by obtain⟨_,rfl⟩:=qUw hl;rfl
 have m20:=PySem.W.mg_of X G a20;have b21:=F21.binds (ps:=["_law_script","_law_k"]) λ_ _ _ _ _ _ us hl=>by obtain⟨_,_,rfl⟩:=qG9 hl;rfl
 have b22:=F22.binds (ps:=["_law_script","_law_k"]) λ_ _ _ _ _ _ us hl=>by obtain⟨_,_,rfl⟩:=qG9 hl;rfl
 have b23:=F23.binds (ps:=["_law_big_here","_law_many"]) λ_ _ _ _ _ _ us hl=>by obtain⟨_,_,rfl⟩:=qG9 hl;rfl
 have b24:=F24.binds (ps:=["_law_big_here","_law_many","_law_spread"]) λ_ _ _ _ _ _ us hl=>by obtain⟨_,_,_,rfl⟩:=zBv hl;rfl
 have b25:=F25.binds (ps:=["_law_script","_law_at"]) λ_ _ _ _ _ _ us hl=>by obtain⟨_,_,rfl⟩:=qG9 hl;rfl
 have b26:=F26.binds (ps:=["_law_numbers"]) λ_ _ _ _ _ _ us hl=>by obtain⟨_,rfl⟩:=qUw hl;rfl
 have b27:=F27.binds (ps:=["_law_net_here"]) λ_ _ _ _ _ _ us hl=>by obtain⟨_,rfl⟩:=qUw hl;rfl
 have b28:=F28.binds (ps:=["_law_numbers","_law_many"]) λ_ _ _ _ _ _ us hl=>by obtain⟨_,_,rfl⟩:=qG9 hl;rfl
 have b29:=F29.binds (ps:=["_law_kind"]) λ_ _ _ _ _ _ us hl=>by obtain⟨_,rfl⟩:=qUw hl;rfl
 have b30:=F30.binds (ps:=["_law_base","_law_many","_law_big_here","_law_most"]) λ_ _ _ _ _ _ us hl=>by obtain⟨_,_,_,_,rfl⟩:=zFf hl;rfl
 have b31:=F31.binds (ps:=["_law_names_here","_law_number"]) λ_ _ _ _ _ _ us hl=>by obtain⟨_,_,rfl⟩:=qG9 hl;rfl
 have b32:=F32.binds (ps:=["_law_names_here","_law_row_here"]) λ_ _ _ _ _ _ us hl=>by obtain⟨_,_,rfl⟩:=qG9 hl;rfl
 have b33:=F33.binds (ps:=["_law_big_here","_law_many"]) λ_ _ _ _ _ _ us hl=>by obtain⟨_,_,rfl⟩:=qG9 hl;rfl
 have b34:=F34.binds (ps:=["_law_script","_law_at"]) λ_ _ _ _ _ _ us hl=>by obtain⟨_,_,rfl⟩:=qG9 hl;rfl
 have b35:=F35.binds (ps:=["_law_base"]) λ_ _ _ _ _ _ us hl=>by obtain⟨_,rfl⟩:=qUw hl;rfl
 have b36:=F36.binds (ps:=["_law_base","_law_many"]) λ_ _ _ _ _ _ us hl=>by obtain⟨_,_,rfl⟩:=qG9 hl;rfl
 have m36:=PySem.W.mg_of X G a36;have b37:=F37.binds (ps:=["_law_base","_law_mask_here"]) λ_ _ _ _ _ _ us hl=>by obtain⟨_,_,rfl⟩:=qG9 hl;rfl
 have b38:=F38.binds (ps:=["_law_script","_law_at"]) λ_ _ _ _ _ _ us hl=>by obtain⟨_,_,rfl⟩:=qG9 hl;rfl
 have b39:=F39.binds (ps:=["_law_script","_law_at"]) λ_ _ _ _ _ _ us hl=>by obtain⟨_,_,rfl⟩:=qG9 hl;rfl
 have b40:=F40.binds (ps:=["_law_script","_law_at"]) λ_ _ _ _ _ _ us hl=>by obtain⟨_,_,rfl⟩:=qG9 hl;rfl
 have b41:=F41.binds (ps:=["_law_rows"]) λ_ _ _ _ _ _ us hl=>by obtain⟨_,rfl⟩:=qUw hl;rfl
 have b42:=F42.binds (ps:=["_law_found"]) λ_ _ _ _ _ _ us hl=>by obtain⟨_,rfl⟩:=qUw hl;rfl
 have b43:=F43.binds (ps:=["_law_names_here","_law_base","_law_found"]) λ_ _ _ _ _ _ us hl=>by obtain⟨_,_,_,rfl⟩:=zBv hl;rfl
 have n_abs:=hBd X G z1;have n_all:=hBd X G z2;have n_any:=hBd X G z3;have n_enumerate:=hBd X G z4;have n_isinstance:=hBd X G z5;have n_len:=hBd X G z6;have n_list:=hBd X G z7;have n_max:=hBd X G z8;have n_min:=hBd X G z9;have n_range:=hBd X G z10;have n_repr:=hBd X G z11;have n_reversed:=hBd X G z12;have n_set:=hBd X G z13;have n_sorted:=hBd X G z14;have n_str:=hBd X G z15;have n_sum:=hBd X G z16;have n_tuple:=hBd X G z17;have n_zip:=hBd X G z18;refine⟨PySem.W.fnOf "law" "law" (qDg qQo) (qB7 qQo) (qAc qQo) .none kVN dcN pmN anN cdN ctN,λs v=>.of_eq rfl,λbase _ _ hC hB hC2 hB2=>?_⟩;have h1:=qWd (P:=l.prog) (w:=w) (mg:=mg) (base:=base) F1;have g1:=zAa (P:=l.prog) (w:=w) (mg:=mg) (base:=base) F1;have h2:=qZ8 (P:=l.prog) (w:=w) (base:=base) F2 n_len n_enumerate;have g2:=qV9 (P:=l.prog) (w:=w) (base:=base) F2  n_len n_enumerate;have g3:=zAn (P:=l.prog) (w:=w) (base:=base) F3  n_min;have g4:=qZ9 (P:=l.prog) (w:=w) (base:=base) F4 ⟨g3,b3,k3,m3⟩ n_min n_sorted;have g5:=qV7 (P:=l.prog) (w:=w) (base:=base) F5 ⟨g1,b1,k1,m1⟩ ⟨g4,b4,k4,m4⟩;have g6:=qSy (P:=l.prog) (w:=w) (mg:=mg) (base:=base) F6;have g7:=qSx (P:=l.prog) (w:=w) (base:=base) F7 ⟨g6,b6,k6,m6⟩ n_len;have g8:=zAj (P:=l.prog) (w:=w) (base:=base) F8 ⟨g3,b3,k3,m3⟩;have g9:=zCz (P:=l.prog) (w:=w) (base:=base) F9 ⟨g6,b6,k6,m6⟩ ⟨g8,b8,k8,m8⟩;have g10:=qV8 (P:=l.prog) (w:=w) (base:=base) F10 ⟨g9,b9,k9,m9⟩ ⟨h1,b1,k1,m1⟩ ⟨g4,b4,k4,m4⟩;have g11:=qWh (P:=l.prog) (w:=w) (base:=base) F11 ⟨g3,b3,k3,m3⟩;have g12:=qSw (P:=l.prog) (w:=w) (base:=base) F12 ⟨g11,b11,k11,m11⟩ n_range n_sum n_enumerate n_len;have g13:=qWi (P:=l.prog) (w:=w) (base:=base) F13 ⟨g12,b12,k12,m12⟩ ⟨g7,b7,k7,m7⟩ n_range;have g14:=zAs (P:=l.prog) (w:=w) (base:=base) F14  n_len;have g16:=qS1 (P:=l.prog) (w:=w) (base:=base) F16  n_sorted n_sum;have g15:=qLk (P:=l.prog) (w:=w) (base:=base) F15 ⟨g10,b10,k10,m10⟩ ⟨g13,b13,k13,m13⟩ ⟨g14,b14,k14,m14⟩ ⟨h2,b2,k2,m2⟩ ⟨g16,b16,k16,m16⟩ b15 k15 m15 n_len 10;have g17:=qWc (P:=l.prog) (w:=w) (base:=base) F17  n_any;have g18:=qSz (P:=l.prog) (w:=w) (base:=base) F18  n_sorted;have g19:=qS0 (P:=l.prog) (w:=w) (base:=base) F19 ⟨g17,b17,k17,m17⟩ ⟨g18,b18,k18,m18⟩;have g20:=qWa (P:=l.prog) (w:=w) (base:=base) F20 (qT9 F20 a20 ht) hC hB ⟨g19,b19,k19,m19⟩ ⟨g15,b15,k15,m15⟩ ⟨g5,b5,k5,m5⟩ ⟨g2,b2,k2,m2⟩ n_len n_range n_reversed n_sorted;have g21:=zAu (P:=l.prog) (w:=w) (base:=base) F21  n_len;have g22:=zC0 (P:=l.prog) (w:=w) (base:=base) F22 ⟨g21,b21,k21,m21⟩ n_range n_abs;have g23:=qWb (P:=l.prog) (w:=w) (base:=base) F23  n_range n_len;have g24:=zAt (P:=l.prog) (w:=w) (base:=base) F24  n_range n_len n_list;have g25:=zCx (P:=l.prog) (w:=w) (base:=base) F25 ⟨g22,b22,k22,m22⟩ ⟨g24,b24,k24,m24⟩ ⟨g23,b23,k23,m23⟩ n_len n_zip n_tuple n_sorted;have g26:=zAf (P:=l.prog) (w:=w) (mg:=mg) (base:=base) F26;have g27:=qWg (P:=l.prog) (w:=w) (base:=base) F27  n_sorted n_set n_enumerate;have g28:=zAo (P:=l.prog) (w:=w) (base:=base) F28 ⟨g26,b26,k26,m26⟩ n_sum n_range;have g29:=zAd (P:=l.prog) (w:=w) (base:=base) F29 ⟨g28,b28,k28,m28⟩ ⟨g26,b26,k26,m26⟩ n_sum n_range n_enumerate n_len;have g30:=zAg (P:=l.prog) (w:=w) (base:=base) F30  n_len;have g31:=zAe (P:=l.prog) (w:=w) (base:=base) F31  n_enumerate;have g32:=zAh (P:=l.prog) (w:=w) (base:=base) F32  n_sum;have g33:=zAl (P:=l.prog) (w:=w) (base:=base) F33  n_range;have g34:=zAc (P:=l.prog) (w:=w) (base:=base) F34 ⟨g22,b22,k22,m22⟩ ⟨g25,b25,k25,m25⟩ ⟨g27,b27,k27,m27⟩ ⟨g33,b33,k33,m33⟩ ⟨g29,b29,k29,m29⟩ ⟨g30,b30,k30,m30⟩ ⟨g26,b26,k26,m26⟩ n_len n_min;have g35:=zAb (P:=l.prog) (w:=w) (mg:=mg) (base:=base) F35;have g36:=zAp (P:=l.prog) (w:=w) (base:=base) F36 (qT9 F36 a36 ht2) hC2 hB2  n_range n_sum n_sorted;have g37:=zAi (P:=l.prog) (w:=w) (base:=base) F37 ⟨g26,b26,k26,m26⟩ ⟨g35,b35,k35,m35⟩;have g38:=zAq (P:=l.prog) (w:=w) (base:=base) F38 ⟨g34,b34,k34,m34⟩ ⟨g23,b23,k23,m23⟩ ⟨g22,b22,k22,m22⟩ ⟨g31,b31,k31,m31⟩ ⟨g36,b36,k36,m36⟩ ⟨g37,b37,k37,m37⟩ n_len n_sorted n_max;have g39:=zAk (P:=l.prog) (w:=w) (base:=base) F39 ⟨g22,b22,k22,m22⟩ ⟨g23,b23,k23,m23⟩ n_len n_range n_sorted n_min n_list n_tuple n_str;have g40:=qWe (P:=l.prog) (w:=w) (base:=base) F40 ⟨g22,b22,k22,m22⟩ ⟨g39,b39,k39,m39⟩ ⟨g36,b36,k36,m36⟩ ⟨g26,b26,k26,m26⟩ ⟨g27,b27,k27,m27⟩ ⟨g38,b38,k38,m38⟩ ⟨g32,b32,k32,m32⟩ n_len;have g41:=qWf (P:=l.prog) (w:=w) (mg:=mg) (base:=base) F41;have g42:=zAr (P:=l.prog) (w:=w) (base:=base) F42 ⟨g41,b41,k41,m41⟩ n_isinstance n_all n_list n_tuple n_str n_len;have g43:=zAm (P:=l.prog) (w:=w) (base:=base) F43 ⟨g41,b41,k41,m41⟩ ⟨g32,b32,k32,m32⟩ ⟨g37,b37,k37,m37⟩ n_sorted n_all n_len;exact zCy F44 ⟨g40,b40,k40,m40⟩ ⟨g20,b20,k20,m20⟩ ⟨g31,b31,k31,m31⟩ ⟨g42,b42,k42,m42⟩ ⟨g43,b43,k43,m43⟩ n_len n_list n_range n_enumerate n_str n_repr
theorem walk{l:PySem.W.OpenLaw}{q:Program}{loose:List Str}{XP:(Str->Option Value)->Heap->Prop}{YP:World->Heap->Prop}{d dr dr2:DefRec}{K:Params->PySem.W.Frag}(hn:l.most=some 63)(hdf:d.params.defaults=[])
  (hY:∀(w:World) (h:Heap),YP w h->(K w.params).In h) (hrec:(PyProof.Rows.recsOf q).find? (λe=>e.name == ("parts" : Str))=some dr) (hrec2:(PyProof.Rows.recsOf q).find? (λe=>e.name == ("_law_blocks" : Str))=some dr2)
  (hK:∀w:World,∃c T c2 T2,PySem.W.tabIn (K w.params) "parts"=some (c,T)/\PySem.W.tabIn (K w.params) "_law_blocks"=some (c2,T2)/\T≠T2/\PySem.W.noTabs (K w.params)=true)
  (F:∀(w:World) (mg:Str->Option Value) (fa:Addr) (h:Heap) (c T c2 T2:Addr),(K w.params).In h->h.Ns mainGlobals mg->mg d.name=some (.ref fa)->PySem.W.tabIn (K w.params) "parts"=some (c,T)->PySem.W.tabIn (K w.params) "_law_blocks"=some (c2,T2) ->
   ∃fd:FuncData,(∀(s:Shared) (u:Value),BindsTo s fd ⟨[u],[]⟩ [("_law_script",u)])/\∀base:Heap,(K w.params).In base->base.Ns mainGlobals mg->PySem.W.CodeHd base c T->base.BuiltinsAt mg T->PySem.W.CodeHd base c2 T2->base.BuiltinsAt mg T2->FnOk l.prog w (K w.params) mg base CX0 17 fa fd ["_law_script"] (qU9 (K w.params) T T2)) :
  PySem.W.WalkO q loose XP YP l.row.toRowW d [] (λf vs=>PySem.call f vs) :=
 L2.walk_ofT2 (n:=63) (k:=17) (x:="_law_script") (CX:=λ_=>CX0) (sp:=λw T T2=>qU9 (K w.params) T T2) hn (by decide) hdf ⟨rfl,by decide,by decide,rfl⟩ hY hrec hrec2 hK F (λ_ _ _ _ a ns hl ne hT hT2 hS=>⟨a,ns,rfl,hS,hl,hT,hT2,ne,λ_=>rfl⟩) λ_ _ _ _ _ z=>z
theorem tab_mk(a:PySem.W.nsIn K mainGlobals x=some (some (.ref f)))(l:K.lookup f=some ob)(e1:ob.data = .func fd)(e2:fd.code = .ref c)(l2:K.lookup c=some ob2)(e3:ob2.data = .fields vs)(e4:(vs[11]?:Option Value)=some (.ref T)):PySem.W.tabIn K x=some (c,T):=by
 obtain⟨o1,o2,o3,o4⟩:=ob;obtain⟨p1,p2,p3,p4⟩:=ob2;cases e1;cases e3;unfold PySem.W.tabIn;rw[a];dsimp only;rw[l];dsimp only;rw[e2];dsimp only;rw[l2];dsimp only;rw[e4]
end My
namespace PySem.W.Fast
noncomputable def tw10011168569926542377:=0
noncomputable def tw10040470815380208724:=0
noncomputable def tw10050090024488279877:=0
noncomputable def tw10061269583152936117:=0
noncomputable def tw10182297191223052342:=0
noncomputable def tw10184578847570210162:=0
noncomputable def tw1035218352636621905:=0
noncomputable def tw10356794232357037441:=0
noncomputable def tw10369561017948387122:=0
noncomputable def tw10476120729310909165:=0
noncomputable def tw1058260730959377446:=0
noncomputable def tw10615482112135146404:=0
def tw1074325151177550056:=0
noncomputable def tw10785143191288623208:=0
noncomputable def tw10832660809786595272:=0
noncomputable def tw10881446982580647588:=0
noncomputable def tw10964285313299073340:=0
noncomputable def tw11116878457727807884:=0
noncomputable def tw11127300061153911935:=0
def tw1125178303222596435:=0
noncomputable def tw11310805902341532126:=0
noncomputable def tw11316792777302621244:=0
noncomputable def tw11346546513017954693:=0
noncomputable def tw11399468847771353732:=0
def tw1151377934415731592:=0
noncomputable def tw11586285560409510715:=0
noncomputable def tw11631217036681347340:=0
noncomputable def tw11805931927468825908:=0
noncomputable def tw11887990825610564013:=0
noncomputable def tw11897030217991427742:=0
noncomputable def tw11958668320438306604:=0
noncomputable def tw12022802992436427967:=0
noncomputable def tw12030920255640370954:=0
noncomputable def tw12244434623609135758:=0
noncomputable def tw12287704860262150387:=0
noncomputable def tw12363411379797013453:=0
noncomputable def tw12382296961824101767:=0
noncomputable def tw12399497221339847539:=0
noncomputable def tw12401975503482911108:=0
noncomputable def tw12488888336784528502:=0
noncomputable def tw12521640675705232684:=0
noncomputable def tw12526188568928212713:=0
noncomputable def tw12605529688696966024:=0
noncomputable def tw12626822623738491009:=0
noncomputable def tw1267819725046402904:=0
noncomputable def tw12772431792821738645:=0
noncomputable def tw12807190515571628194:=0
noncomputable def tw12888803719037979990:=0
noncomputable def tw13001471659159509883:=0
noncomputable def tw13058725914018921437:=0
noncomputable def tw13066012695033616703:=0
noncomputable def tw13152377501776380088:=0
noncomputable def tw13163861331636476923:=0
noncomputable def tw13356129285803924811:=0
noncomputable def tw13465405186252917454:=0
noncomputable def tw13468273872226838352:=0
def tw1351715397124352333:=0
noncomputable def tw13536298162319538606:=0
noncomputable def tw13595109770035412024:=0
noncomputable def tw13616365987529775754:=0
noncomputable def tw13631688336279559702:=0
noncomputable def tw13690097941916195587:=0
noncomputable def tw13810875788342663168:=0
noncomputable def tw13894141779487404781:=0
noncomputable def tw13924728270854730467:=0
noncomputable def tw13964190587815121483:=0
noncomputable def tw14041950692261939180:=0
def tw1412315728811578839:=0
noncomputable def tw14169135260001791951:=0
noncomputable def tw14169312226184457099:=0
noncomputable def tw14229719635140450150:=0
noncomputable def tw14270197768217827439:=0
def tw1432109360659157356:=0
noncomputable def tw14362262195426262122:=0
noncomputable def tw14408281177369964872:=0
noncomputable def tw14525737960286973104:=0
noncomputable def tw1454085160381526894:=0
def tw1454994696714388383:=0
noncomputable def tw14557096326597699201:=0
noncomputable def tw14616283888908517709:=0
noncomputable def tw14734644409586096335:=0
noncomputable def tw14833883319645470466:=0
noncomputable def tw14873385170121171685:=0
noncomputable def tw14967189976762287039:=0
noncomputable def tw14982086598161719395:=0
noncomputable def tw15025303621013597664:=0
noncomputable def tw15056892867933633928:=0
noncomputable def tw15076715615551261594:=0
noncomputable def tw15253888377967583448:=0
noncomputable def tw15320617332619681080:=0
noncomputable def tw15472434460699487196:=0
noncomputable def tw15483660436933659174:=0
noncomputable def tw15557343835555953874:=0
noncomputable def tw15594220491233840773:=0
noncomputable def tw15610503105294404430:=0
noncomputable def tw15643955550420047630:=0
noncomputable def tw15736281928888487685:=0
noncomputable def tw15815583824898152525:=0
noncomputable def tw15862222285580646820:=0
noncomputable def tw15872061830572116305:=0
noncomputable def tw15881745864304481790:=0
noncomputable def tw15981699182759530593:=0
noncomputable def tw16176279704973207152:=0
noncomputable def tw16244204177266773938:=0
noncomputable def tw16247492749184689633:=0
noncomputable def tw16301155871630212810:=0
noncomputable def tw16321024047340438053:=0
noncomputable def tw16374435171589930530:=0
noncomputable def tw16478332355601260461:=0
noncomputable def tw16506446636558617746:=0
noncomputable def tw16561989392087615236:=0
noncomputable def tw16694864203261235933:=0
def tw1677505831909950714:=0
noncomputable def tw16835910319879839079:=0
noncomputable def tw16858406795843259480:=0
noncomputable def tw16910478803842996436:=0
noncomputable def tw17025071507422478631:=0
def tw1706120289212433078:=0
noncomputable def tw17096894927259502599:=0
noncomputable def tw17119386390044180653:=0
noncomputable def tw17347053506239514130:=0
noncomputable def tw17499008455602110367:=0
noncomputable def tw17515245045957170479:=0
noncomputable def tw17557460746334240068:=0
noncomputable def tw17684119024032795053:=0
noncomputable def tw17778095032526768993:=0
noncomputable def tw17793352954867862125:=0
noncomputable def tw17823088191575574069:=0
noncomputable def tw17844499294294771291:=0
noncomputable def tw17875644666061608227:=0
noncomputable def tw17958021791660015273:=0
noncomputable def tw17978794250039628243:=0
noncomputable def tw18008136377847482299:=0
noncomputable def tw18052191799937588986:=0
noncomputable def tw18053400593705427755:=0
def tw1810242707445874527:=0
noncomputable def tw1816474354966227415:=0
noncomputable def tw18175504723951206402:=0
noncomputable def tw18270775443482535124:=0
noncomputable def tw18312607140277566075:=0
noncomputable def tw18403579459278845716:=0
def tw1917418604416385131:=0
def tw1939585763308349053:=0
noncomputable def tw1966345654666886372:=0
noncomputable def tw1995334402514682109:=0
def tw2002918249268551766:=0
def tw2051562406671995751:=0
noncomputable def tw2060273109319961408:=0
noncomputable def tw2206417750984089908:=0
noncomputable def tw2324597277499672481:=0
def tw270713231225283431:=0
def tw2708270113877581575:=0
def tw2734200206058799540:=0
def tw2753849822818581646:=0
noncomputable def tw2760098818753979425:=0
noncomputable def tw2804676440293256937:=0
def tw2947027461172231208:=0
noncomputable def tw2949361795818787816:=0
def tw2953108504695130094:=0
noncomputable def tw3083027597923235666:=0
def tw3129657438991815834:=0
def tw3131036012288542588:=0
noncomputable def tw3170657580149255925:=0
def tw3255718847104425435:=0
def tw3272749147643536620:=0
def tw3322292388630682475:=0
def tw3323950842426166448:=0
def tw3354316348266574308:=0
def tw3361203089206138013:=0
noncomputable def tw3389755251997984256:=0
def tw341115021345900137:=0
def tw3453276678956422408:=0
def tw3572986724638257616:=0
def tw3592306454701261218:=0
noncomputable def tw3631112741424442917:=0
noncomputable def tw3665556621279380630:=0
noncomputable def tw3742448770492313343:=0
def tw3802279169338357261:=0
def tw3802957454135170019:=0
noncomputable def tw3948546234012100399:=0
def tw416109010327184757:=0
def tw430384818899629976:=0
noncomputable def tw4320459925738233920:=0
def tw4359890200209658157:=0
noncomputable def tw4413904343398402736:=0
def tw4733975524209655659:=0
def tw4809862066903055094:=0
def tw4874813413361393017:=0
noncomputable def tw4877028309501184319:=0
noncomputable def tw4929202805537555733:=0
def tw4951385743331918945:=0
def tw4958072412059711333:=0
noncomputable def tw4977778256822533182:=0
def tw5004231596855547896:=0
def tw506176674587595930:=0
def tw5127955166943257975:=0
def tw5183566890705031500:=0
def tw5222278077865841778:=0
noncomputable def tw5373671524533174849:=0
noncomputable def tw5395038107458642929:=0
def tw5422089473851868115:=0
noncomputable def tw5662594206196553543:=0
def tw5663841512930566764:=0
def tw567257026106870332:=0
def tw568640665626113296:=0
def tw5687027525203213134:=0
noncomputable def tw5905334878685364324:=0
def tw6004588221969882331:=0
def tw6024934249221487684:=0
noncomputable def tw6066366495994129467:=0
noncomputable def tw6073863901488598585:=0
noncomputable def tw6160908698449702708:=0
def tw616539699669912970:=0
def tw619007893697074058:=0
noncomputable def tw6352116391423414934:=0
def tw6420906975284540667:=0
def tw6453843963171766676:=0
def tw655917195519434731:=0
noncomputable def tw6628084837873960159:=0
def tw6683390749278138703:=0
noncomputable def tw6781252888106996342:=0
def tw6872045220112608:=0
noncomputable def tw6992074465101672226:=0
noncomputable def tw7035190325911421663:=0
def tw7067027156264749660:=0
def tw7133925675182188790:=0
noncomputable def tw7181418641543012304:=0
noncomputable def tw7219254071119296597:=0
def tw7239344104918215110:=0
noncomputable def tw7298830019140754214:=0
noncomputable def tw7323235189878480883:=0
noncomputable def tw7360590033421841901:=0
noncomputable def tw7592270880768842043:=0
def tw7622148809892729573:=0
def tw7784564700149008493:=0
noncomputable def tw7836699469865449209:=0
noncomputable def tw7931482942845764364:=0
noncomputable def tw7987788021015064070:=0
def tw814571112046597185:=0
def tw8177741658991053585:=0
noncomputable def tw8197604559501790768:=0
noncomputable def tw8218717045998996138:=0
def tw8247477942610952659:=0
def tw8264823746925738698:=0
def tw827342730933601783:=0
def tw8302093371035273165:=0
noncomputable def tw8340447229025193550:=0
noncomputable def tw8430669968866102715:=0
def tw8631748280499410118:=0
noncomputable def tw8652114261338698010:=0
noncomputable def tw8672111263271581898:=0
noncomputable def tw8673469065458504694:=0
def tw877224396868754550:=0
def tw8935092524153075592:=0
noncomputable def tw8939673076945410212:=0
noncomputable def tw8997757486155190609:=0
def tw9254117486153541163:=0
def tw9323709395263067236:=0
def tw9587526838614357:=0
def tw9642459417050809775:=0
noncomputable def tw9648968660751558491:=0
def tw96702862224407224:=0
noncomputable def tw9893822312216495669:=0
def tw684642881554813779:=0
def tw5455043901630894237:=0
def tw16854097742859960151:=0
def tw14302049107846821624:=0
def tw16908770777591626136:=0
def tw1861144977731108769:=0
end PySem.W.Fast
open PySem PySem.W PyProof.Rows
set_option maxRecDepth 100000 in
set_option maxHeartbeats 0 in
theorem PySem.Challenge.cw_roundsalone_k31_shares_holds : PySem.Challenge.rw_roundsalone_k31_shares.Holds := by
 w_on;o_law;k_head;(case hw=>w_witness2)
 k_fill
 refine' My.walk (l:=PySem.Challenge.rw_roundsalone_k31_shares) rfl rfl (λw h Y=>PySem.W.km_in_of Y) ?hr ?hr2 ?Kt ?F
 case hr=>rfl
 case hr2=>rfl
 case Kt =>
  intro w
  refine'⟨_,_,_,_,My.tab_mk ?a ?l ?e1 ?e2 ?l2 ?e3 ?e4,My.tab_mk ?ab ?lb ?e1b ?e2b ?l2b ?e3b ?e4b,?ne,?n⟩
  (case a=>k_is)
  (case l=>k_is)
  (case e1=>rfl)
  (case e2=>rfl)
  (case l2=>k_is)
  (case e3=>rfl)
  (case e4=>rfl)
  (case ab=>k_is)
  (case lb=>k_is)
  (case e1b=>rfl)
  (case e2b=>rfl)
  (case l2b=>k_is)
  (case e3b=>rfl)
  (case e4b=>rfl)
  (case ne=>decide)
  (case n=>kernel_rfl)
 case F =>
  intro w mg fa h c T c2 T2 KX G hmg ht ht2
  refine' My.all_mk KX G hmg ht ht2 ?h1 ?h2 ?h3 ?h4 ?h5 ?h6 ?h7 ?h8 ?h9 ?h10 ?h11 ?h12 ?h13 ?h14 ?h15 ?h16 ?h17 ?h18 ?h19 ?a20 ?l20 ?c20 ?k20 ?h21 ?h22 ?h23 ?h24 ?h25 ?h26 ?h27 ?h28 ?h29 ?h30 ?h31 ?h32 ?h33 ?h34 ?h35 ?a36 ?l36 ?c36 ?k36 ?h37 ?h38 ?h39 ?h40 ?h41 ?h42 ?h43 ?a44 ?l44 ?c44 ?k44 ?z1 ?z2 ?z3 ?z4 ?z5 ?z6 ?z7 ?z8 ?z9 ?z10 ?z11 ?z12 ?z13 ?z14 ?z15 ?z16 ?z17 ?z18
  all_goals (try (refine' My.hs_mk ?a ?l ?c ?k;(case a=>k_is);(case l=>k_is);(case c=>k_is);(case k=>k_is)))
  (case a20=>k_is)
  (case l20=>k_is)
  (case c20=>k_is)
  (case k20=>k_is)
  (case a36=>k_is)
  (case l36=>k_is)
  (case c36=>k_is)
  (case k36=>k_is)
  (case a44=>k_is)
  (case l44=>k_is)
  (case c44=>k_is)
  (case k44=>k_is)
  (case z1=>k_is)
  (case z2=>k_is)
  (case z3=>k_is)
  (case z4=>k_is)
  (case z5=>k_is)
  (case z6=>k_is)
  (case z7=>k_is)
  (case z8=>k_is)
  (case z9=>k_is)
  (case z10=>k_is)
  (case z11=>k_is)
  (case z12=>k_is)
  (case z13=>k_is)
  (case z14=>k_is)
  (case z15=>k_is)
  (case z16=>k_is)
  (case z17=>k_is)
  (case z18=>k_is)
#print axioms PySem.Challenge.cw_roundsalone_k31_shares_holds
