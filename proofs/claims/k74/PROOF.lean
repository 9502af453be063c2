import PyProof.Rows.All
import Wide.All
import OpenK.AllK
import Wide.FinOn
import Lean
import PyProof.EqAt
import PyProof.EqKinds
import PyProof.TupleCall
import PyProof.ReprBulk
import PyProof.FString5
import KE.KTryMore
import KE.KIsNot
import PyProof.ExcArgsOwn
import PyProof.Rows.StrJoin2
import PyProof.Rows.StrSplitAre
import PyProof.CollectIter
import PyProof.WalksMore
import PyProof.WalkInts
import PyProof.CollectStr
import PyProof.TupleOfSeq
import KE.RegKIsAll
import KE.RegKTryMore
import PySem.Challenge.RW_roundsalone_k74_deeds_of_benches
set_option Elab.async false
set_option linter.all false
set_option maxHeartbeats 16000000
set_option maxRecDepth 100000
abbrev hA1:=@List.length_map
abbrev hA2:=@List.getElem?_eq_getElem
abbrev hA3:=@Nat.le_refl
abbrev hA4:=@List.mem_cons_of_mem
abbrev hA5:=@List.getD_eq_getElem?_getD
abbrev hA6:=@List.mem_cons_self
abbrev hA7:=@List.map_append
abbrev hA8:=@List.mem_cons
abbrev hA9:=@List.take_of_length_le
abbrev hAa:=@List.mem_singleton
abbrev hAb:=@List.mem_append_right
abbrev hAc:=@List.getElem?_eq_some_iff
abbrev hAd:=@List.length_append
abbrev hAe:=@List.mem_map
abbrev hAf:=@List.size_toArray
abbrev hAg:=@PySem.W.mg_of
abbrev hAh:=@List.mem_append
abbrev hAi:=@Nat.ne_of_lt
abbrev hAj:=@List.getElem?_map
abbrev hAk:=@List.mem_append_left
abbrev hAl:=@Nat.lt_of_lt_of_le
abbrev hAm:=@Bool.false_ne_true
abbrev hAn:=@List.length_take
abbrev hAo:=@List.not_mem_nil
abbrev hAp:=@Nat.testBit_xor
abbrev hAq:=@Nat.zero_le
abbrev hAr:=@Option.some.inj
abbrev hAs:=@List.mem_of_getElem?
abbrev hAt:=@Nat.lt_succ_self
abbrev hAu:=@PySem.F.plainAttrs_list
abbrev hAv:=@List.map_cons
abbrev hAw:=@Nat.testBit_zero
abbrev hAx:=@Nat.le_trans
abbrev hAy:=@Nat.le_succ
abbrev hAz:=@Nat.le_of_lt
abbrev hB0:=@PySem.W.mg_none_of
abbrev hB1:=@PySem.boot_len
abbrev hB2:=@Nat.lt_succ_of_lt
abbrev hB3:=@List.map_map
abbrev hB4:=@List.mem_range
abbrev hB5:=@Nat.testBit_two_pow
abbrev hB6:=@PySem.F.slot_list_append
abbrev hB7:=@PySem.F.type_list_append
abbrev hB8:=@List.length_cons
abbrev hB9:=@Bool.and_eq_true
abbrev hBa:=@Nat.eq_of_testBit_eq
abbrev hBb:=@List.mem_filter
abbrev hBc:=@List.map_singleton
abbrev hBd:=@List.mem_map_of_mem
abbrev hBe:=@Nat.lt_irrefl
abbrev hBf:=@List.getElem_mem
abbrev hBg:=@PySem.mem_of_lookup
abbrev hBh:=@Nat.mod_two_eq_zero_or_one
abbrev hBi:=@List.length_range
abbrev hBj:=@Array.getElem?_toList
abbrev hBk:=@List.getElem?_eq_none
abbrev hBl:=@List.pairwise_cons
abbrev hBm:=@Int.emod_lt_of_pos
abbrev hBo:=@Array.length_toList
abbrev hBp:=@Array.getElem?_eq_getElem
abbrev hBq:=@List.nodup_cons
abbrev hBr:=@Int.toNat_natCast
abbrev hBs:=@PySem.W.hideAll_none
abbrev hBt:=@PySem.W.kia_one
abbrev hBu:=@Array.getD_eq_getD_getElem?
abbrev hBv:=@List.map_congr_left
abbrev hBw:=@Int.emod_nonneg
abbrev hBx:=@List.all_eq_true
abbrev hBy:=@Array.perm_iff_toList_perm
abbrev hBz:=@PySem.F.excBase_ValueError
abbrev hC0:=@Nat.not_lt_zero
abbrev hC1:=@Nat.lt_pow_two_of_testBit
abbrev hC2:=@Nat.xor_assoc
abbrev hC3:=@Nat.testBit_succ
abbrev hC4:=@List.filterMap_cons
abbrev hC5:=@List.foldl_append
abbrev hC6:=@List.length_filter_le
abbrev hC7:=@PyProof.Rows.callWith_type1
abbrev hC8:=@List.find?_cons
abbrev hC9:=@PySem.F.called_set
abbrev hCa:=@List.pairwise_map
abbrev hCb:=@List.getElem?_append_left
abbrev hCc:=@List.filterMap_append
abbrev hCd:=@List.range_succ
abbrev hCe:=@Nat.testBit_and
abbrev hCf:=@Option.isSome_iff_exists
abbrev hCg:=@Bool.false_eq_true
abbrev hCh:=@List.length_filterMap_le
abbrev hCi:=@List.Pairwise.imp_of_mem
abbrev hCj:=@Nat.xor_lt_two_pow
abbrev hCk:=@List.filter_append
abbrev hCl:=@Nat.le_add_right
abbrev hCm:=@List.take_append_of_le_length
abbrev hCn:=@Bool.true_and
abbrev hCo:=@List.append_nil
abbrev hCp:=@Int.toNat_of_nonneg
abbrev hCq:=@Array.getElem?_eq_some_iff
abbrev hCr:=@List.lookup_cons
abbrev hCs:=@Nat.shiftRight_eq_div_pow
abbrev hCt:=@Classical.byContradiction
abbrev hCu:=@List.getElem?_set_ne
abbrev hCv:=@List.take_add_one
abbrev hCw:=@Nat.ne_of_gt
abbrev hCx:=@Nat.lt_or_ge
abbrev hCy:=@Nat.xor_self
abbrev hCz:=@Nat.zero_xor
abbrev hD0:=@PySem.F.plain_list_iadd
abbrev hD1:=@Nat.lt_log2_self
abbrev hD2:=@List.getElem?_set_self
abbrev hD3:=@PySem.W.cellsFrom_some
abbrev hD4:=@Nat.testBit_lt_two_pow
abbrev hD5:=@List.mem_filterMap
abbrev hD6:=@Int.natCast_nonneg
abbrev hD7:=@Option.map_some
abbrev hD8:=@List.cons_lt_cons_iff
abbrev hD9:=@List.any_cons
abbrev hDa:=@List.nodup_append
abbrev hDb:=@List.ext_getElem?
abbrev hDc:=@PySem.W.looks_findIn
abbrev hDd:=@Nat.pow_le_pow_right
abbrev hDe:=@Nat.add_le_add_right
abbrev hDf:=@List.Perm.refl
abbrev hDg:=@List.nodup_nil
abbrev hDh:=@List.length_drop
abbrev hDi:=@Array.toList_inj
abbrev hDj:=@Nat.testBit_log2
abbrev hDk:=@PySem.W.hideAll_get
abbrev hDl:=@List.getElem?_range
abbrev hDm:=@List.getElem_of_mem
abbrev hDn:=@List.filter_sublist
abbrev hDo:=@PySem.wpAny_bind
abbrev hDp:=@decide_eq_true
abbrev hDq:=@PySem.wpAny_pure
abbrev hDr:=@decide_eq_false
abbrev hDs:=@of_decide_eq_true
abbrev hDt:=@if_neg
abbrev hDu:=@if_pos
abbrev hDv:=@PySem.wpAny_holding
abbrev hDw:=@PySem.wpAny_newObj_type
abbrev hDx:=@PySem.wpAny_call_entry
abbrev hDy:=@PySem.wpAny_loadPart'
abbrev hDz:=@PySem.wpAny_mono
abbrev hE0:=@or_false
abbrev hE1:=@PySem.codeAny_builtin
abbrev hE2:=@PySem.wpAny_field
abbrev hE3:=@PySem.wpAny_standAt
abbrev hE4:=@PySem.wpAny_comprehension_free
abbrev hE5:=@PySem.wpAny_setField_rec
abbrev hE6:=@PySem.sizeLine_eq
abbrev hE7:=@PySem.wpAny_askSetting
abbrev hE8:=@PySem.wpAny_truthy_bool
abbrev hE9:=@PySem.pushCells_keeps
abbrev hEa:=@PySem.wpAny_pyIter_list
abbrev hEb:=@PySem.wpAny_setState_of
abbrev hEc:=@PySem.wpAny_getItem_str_slice
abbrev hEd:=@PySem.wpAny_attempt
abbrev hEe:=@PySem.wpAny_setEntries_of
abbrev hEf:=@PySem.wpAny_Call_Name_kw
abbrev hEg:=@PySem.plainId_quiet
abbrev hEh:=@PySem.wpAny_newList
abbrev hEi:=@beq_self_eq_true
abbrev hEj:=@PySem.wpAny_isInstance
abbrev hEk:=@PySem.wpAny_pyIter_zip
abbrev hEl:=@PySem.codeAny_mono
abbrev hEm:=@PySem.wpAny_pyIter_tuple
abbrev hEn:=@PySem.wpAny_passesOwn
abbrev hEo:=@PyProof.Rows.listUpdate_at
abbrev hEp:=@of_decide_eq_false
abbrev hEq:=@PySem.fits_of_scanBound
abbrev hEr:=@if_false
abbrev hEs:=@PySem.wpAny_seqItems
abbrev hEt:=@PySem.wpAny_setField
abbrev hEu:=@PySem.wpAny_rule
abbrev hEv:=@PyProof.Rows.size_push'
abbrev hEw:=@PySem.wpAny_execs_nil
abbrev hEx:=@PySem.post_val_or_str
abbrev hEy:=@PySem.wpAny_specialOf
abbrev hEz:=@PySem.wpAny_runValue
abbrev hF0:=@PySem.wpAny_fieldsOf
abbrev hF1:=@PySem.isSubtype_stop
abbrev hF2:=@PyProof.Rows.args_list_sort
set_option hygiene false
local macro_rules
|`(v0 $i $s $e)=>`(qAn (i:=$i) (FnScope.nd $s) rfl (Or.inl rfl) $e)
|`(v4 $i $s)=>`(qAh (i:=$i) (FnScope.nd $s) rfl (Or.inl rfl))
|`(v5 $i $s $e)=>`(qAn (i:=$i) (FnScope.nd $s) rfl (Or.inr rfl) $e)
|`(v6 $i $s)=>`(qAh (i:=$i) (FnScope.nd $s) rfl (Or.inr rfl))
|`(v7 $a $b $c $d $e)=>`(FnOk P w K mg base CX0 $a $b $c $d $e)
|`(v8 $a $b $c $d $e $f)=>`(Cl P w K mg base CX0 $a $b $c $d $e $f)
|`(v9 0)=>`((s.heap.update a (Obj.mapSeq λ_=>#[])).push (seqObj "tuple" vs.toArray 0))
|`(vA 0)=>`((s.heap.push (seqObj "list" #[] 0)).update s.heap.objs.size (Obj.mapSeq (·++(as.map Value.ref).toArray)))
namespace L2
open PySem PySem.Spec PyProof.Rows
abbrev Key:=Sum Int Str
def qO9:Key->Value->Bool
 |.inl k,v=>Value.isInt k v
 |.inr x,v=>Value.isStrOf x v
def zE9(w:World):Key->Int
 |.inl k=>hashInt k
 |.inr x=>hashStr w x
theorem qBm:∀ {k:Key} {v:Value},qO9 k v=true->(∃i t,k=Sum.inl i/\v=Value.int i t)\/(∃x t,k=Sum.inr x/\v=Value.str x t)
 |.inl i,v,h=>by
  obtain⟨t,e⟩:=Value.isInt_shape (k:=i) (v:=v) h;exact .inl ⟨i,t,rfl,e⟩
 |.inr x,v,h=>by
  obtain⟨t,e⟩:=Value.isStrOf_shape (x:=x) (v:=v) h;exact .inr ⟨x,t,rfl,e⟩
theorem qRz(i:Int)(t:Tok):qO9 (.inl i) (.int i t)=true:=by simp[qO9,Value.isInt]
theorem qRy(x:Str)(t:Tok):qO9 (.inr x) (.str x t)=true:=by simp[qO9,Value.isStrOf]
theorem zBr(a b:Int):decide ((Sum.inl a:Key)=Sum.inl b)=(a == b):=by
 by_cases e:a=b
 ·subst e;simp
 ·have h:¬(Sum.inl a:Key)=Sum.inl b:=λq=>e (Sum.inl.inj q)
  rw[hDr h];exact(beq_eq_false_iff_ne.mpr e).symm
theorem zBo(a b:Str):decide ((Sum.inr a:Key)=Sum.inr b)=decide (a=b):=by
 by_cases e:a=b
 ·subst e;simp
 ·have h:¬(Sum.inr a:Key)=Sum.inr b:=λq=>e (Sum.inr.inj q)
  rw[hDr h,hDr e]
theorem zBq(a:Int)(b:Str):decide ((Sum.inl a:Key)=Sum.inr b)=false:=hDr (λq=>nomatch q)
theorem zBp(a:Str)(b:Int):decide ((Sum.inr a:Key)=Sum.inl b)=false:=hDr (λq=>nomatch q)
def qBu(prog:Program)(w:World):PySem.KeyKind prog w Key where
 is:=qO9
 hash:=zE9 w
 inj:=λv a b ha hb=>by
  rcases qBm ha with ⟨i,t,rfl,rfl⟩|⟨x,t,rfl,rfl⟩
  ·rcases qBm hb with ⟨j,u,rfl,e⟩|⟨y,u,rfl,e⟩
   ·injection e with e1 _;rw[e1]
   ·exact nomatch e
  ·rcases qBm hb with ⟨j,u,rfl,e⟩|⟨y,u,rfl,e⟩
   ·exact nomatch e
   ·injection e with e1 _;rw[e1]
 byValue:=λk v h=>by
  rcases qBm h with ⟨i,t,rfl,rfl⟩|⟨x,t,rfl,rfl⟩ <;> rfl
 pyHash:=λhv h=>by
  rcases qBm hv with ⟨i,t,rfl,rfl⟩|⟨x,t,rfl,rfl⟩
  ·exact wpAny_pyHash_int h
  ·exact wpAny_pyHash_str h
 eqBool:=λhu hv h=>by
  rcases qBm hu with ⟨i,t,rfl,rfl⟩|⟨x,t,rfl,rfl⟩
  ·rcases qBm hv with ⟨j,u,rfl,rfl⟩|⟨y,u,rfl,rfl⟩
   ·rw[zBr]at h;exact wpAny_eqBool_int h
   ·rw[zBq]at h;exact SeqAt.EqAt.int_str i t y u _ _ _ _ h
  ·rcases qBm hv with ⟨j,u,rfl,rfl⟩|⟨y,u,rfl,rfl⟩
   ·rw[zBp]at h;exact SeqAt.EqAt.str_int x t j u _ _ _ _ h
   ·rw[zBo]at h;exact wpAny_eqBool_str h
 «strs»:=λk x t v h=>by
  rcases qBm h with ⟨i,u,rfl,e⟩|⟨y,u,rfl,e⟩
  ·exact nomatch e
  ·injection e with e1 _
   subst e1;cases v <;> rfl
theorem qL5(prog:Program)(w:World)(i:Int)(t:Tok):(qBu prog w).is (.inl i) (.int i t)=true:=qRz i t
theorem qL4(prog:Program)(w:World)(x:Str)(t:Tok):(qBu prog w).is (.inr x) (.str x t)=true:=qRy x t
inductive V where
 |non|bl (b:Bool)|int (i:Int)|str (x:Str)|byt (b:Array UInt8)|flt (b:UInt64)|ref (a:Addr)|ty (n:String)
 deriving DecidableEq
def qB6:V->Value->Prop
 |.non,u=>u=Value.none
 |.bl b,u=>u=Value.bool b
 |.int i,u=>∃t,u=Value.int i t
 |.str x,u=>∃t,u=Value.str x t
 |.byt b,u=>∃t,u=Value.bytes b t
 |.flt b,u=>∃t,u=Value.float b t
 |.ref a,u=>u=Value.ref a
 |.ty n,u=>u=Value.type n
abbrev qBh:List V->List Value->Prop:=Paired qB6
theorem qBh.length{xs:List V}{us:List Value}(r:qBh xs us):xs.length=us.length:=Paired.length r
theorem qBh.get:∀ {xs:List V} {us:List Value} {i:Nat} {x:V},qBh xs us->xs[i]?=some x->∃u,us[i]?=some u/\qB6 x u
 |_,_,_,_,.nil,e=>by simp at e
 |_,_,0,_,.cons r _,e=>by simp at e;subst e;exact⟨_,rfl,r⟩
 |_,_,i+1,x,.cons _ t,e=>by
  obtain⟨u,h1,h2⟩:=qBh.get (i:=i) (x:=x) t (by simpa using e);exact⟨u,by simpa using h1,h2⟩
theorem qBh.append:∀ {xs ys:List V} {us ws:List Value},qBh xs us->qBh ys ws->qBh (xs++ys) (us++ws)
 |_,_,_,_,.nil,s=>s
 |_,_,_,_,.cons r t,s=>.cons r (qBh.append t s)
theorem qBh.take:∀ {xs:List V} {us:List Value} (n:Nat),qBh xs us->qBh (xs.take n) (us.take n)
 |_,_,0,_=>.nil
 |_,_,_+1,.nil=>.nil
 |_,_,n+1,.cons r t=>.cons r (qBh.take n t)
theorem qBh.drop:∀ {xs:List V} {us:List Value} (n:Nat),qBh xs us->qBh (xs.drop n) (us.drop n)
 |_,_,0,r=>r
 |_,_,_+1,.nil=>.nil
 |_,_,n+1,.cons _ t=>qBh.drop n t
def qN8:Option V->Option Value->Prop
 |some v,some u=>qB6 v u
 |none,none=>True
 |_,_=>False
def KV{κ:Type}:List (κ×V)->List (κ×Value)->Prop:=Paired λ(p:κ×V) (q:κ×Value)=>p.1=q.1/\qB6 p.2 q.2
def kV:Key->V
 |.inl i=>.int i
 |.inr x=>.str x
inductive HO where
  |lst (xs:List V)
  |tup (xs:List V)
  |dK (kvs:List (Key×V))|dT (kvs:List (List Key×V))
  |set (S:Int->Bool) (n:Nat)
  |ins (C dx:Addr) (fs:List (Str×V))
  |own (x:Addr)
  |xd (fs:List (Str×V))
  |met (f x:Addr)
  |rng (lo hi:Int)
  |frz (o:Obj) (u:HO)
  |tbl (ps:Array Value)
  |ext (φ:Heap->Prop)
abbrev Hp:=Addr->Option HO
def upd(H:Hp)(a:Addr)(o:HO):Hp:=λb=>if b=a then some o else H b
theorem upd_same{H:Hp}{a:Addr}{o:HO}:upd H a o a=some o:=by unfold upd;rw[hDu rfl]
theorem qAj{H:Hp}{a b:Addr}{o:HO}(h:b≠a):upd H a o b=H b:=by unfold upd;rw[hDt h]
theorem qAq{H:Hp}{a b:Addr}{o:HO}(h:H a=some o)(h':H b=none):a≠b:=by
 intro e;subst e;rw[h]at h';cases h'
section
variable(P:Program)(w:World)
def qB3(H:Hp)(h:Heap)(a:Addr):HO->Prop
 |.lst xs=>xs.length<=sizeLine/\∃(its:List Value) (n:Nat),qBh xs its/\h.get? a=some { cls:=.type "list",data:=.seq its.toArray n }
 |.tup xs=>xs.length<=sizeLine/\∃its:List Value,qBh xs its/\IsTup h a its.toArray
 |.dK kvs=>kvs.length<=sizeLine/\(a == sysModules)=false/\∃vs,KV kvs vs/\h.DictOf (qBu P w) a vs
 |.dT kvs=>kvs.length<=sizeLine/\(a == sysModules)=false/\∃xs:List (List Key×Addr×Value),
   Paired (λ(p:List Key×V) (q:List Key×Addr×Value)=>p.1=q.1/\H q.2.1=some (.tup (p.1.map kV))/\qB6 p.2 q.2.2) kvs xs /\
   ∃o es ep,h.get? a=some o/\o.ExactDict/\o.data = .dict es ep/\es.toList=xs.map (entryOfKey (tupleKind (qBu P w)))/\(xs.map (·.1)).Nodup
 |.set S n=>h.SetOf (intKind P w) a S n
 |.ins C dx fs=>H dx=some (.own a)/\fs.length<=1000/\dx≠a/\h.get? a=some (PySem.W.instObj C dx) /\
   ∃mA,h.Ns1 dx mA/\(∀f,qN8 (fs.lookup f) (mA f))/\PySem.Within mA (fs.map (·.1))
 |.own _=>∃o,h.get? a=some o
 |.xd fs=>∃mA,h.Ns1 a mA/\∀f,qN8 (fs.lookup f) (mA f)
 |.rng lo hi=>∃t u v,h.get? a=some { cls:=.type "range",data:=.fields #[.int lo t,.int hi u,.int 1 v] }
 |.frz o u=>h.get? a=some o/\qB3 H h a u
 |.tbl ps=>h.get? a=some { cls:=.none,data:=.fields ps }
 |.met f x=>h.get? a=some (PySem.W.methodObj (.ref f) (.ref x))
 |.ext φ=>φ h/\(∃o,h.get? a=some o)/\∀h1 h2:Heap,φ h1->(∀o,h1.get? a=some o->h2.get? a=some o)->φ h2
def HOk(H:Hp)(h:Heap):Prop:=∀a o,H a=some o->qB3 P w H h a o
end
section
variable{P:Program}{w:World}{H H':Hp}{h h':Heap}{a:Addr}{o:HO}
theorem qB3.lt(x:qB3 P w H h a o):a<h.objs.size:=by
 cases o with
 |lst xs=>obtain⟨_,_,_,_,e⟩:=x;exact Heap.lt_size e
 |tup xs=>obtain⟨_,_,_,p⟩:=x;exact p.lt
 |dK kvs=>obtain⟨_,_,_,_,o,_,_,e,_⟩:=x;exact Heap.lt_size e
 |dT kvs=>obtain⟨_,_,_,_,o,_,_,e,_⟩:=x;exact Heap.lt_size e
 |set S n=>obtain⟨o,_,_,_,e,_⟩:=x;exact Heap.lt_size e
 |ins C dx fs=>obtain⟨_,_,_,e,_⟩:=x;exact Heap.lt_size e
 |own y=>obtain⟨_,e⟩:=x;exact Heap.lt_size e
 |xd fs=>obtain⟨_,⟨_,_,_,e,_⟩,_⟩:=x;exact Heap.lt_size e
 |rng lo hi=>obtain⟨_,_,_,e⟩:=x;exact Heap.lt_size e
 |frz ob u=>obtain⟨e,_⟩:=x;exact Heap.lt_size e
 |tbl ps=>exact Heap.lt_size (show h.get? a=some _ from x)
 |met f y=>exact Heap.lt_size (show h.get? a=some _ from x)
 |ext φ=>obtain⟨_,⟨_,e⟩,_⟩:=x;exact Heap.lt_size e
theorem Paired.mapP{α β:Type}{F G:α->β->Prop}:∀ {l₁:List α} {l₂:List β},Paired F l₁ l₂->(∀a b,F a b->G a b)->Paired G l₁ l₂
 |_,_,.nil,_=>.nil
 |_,_,.cons r t,f=>.cons (f _ _ r) (Paired.mapP t f)
theorem qB3.stay(x:qB3 P w H h a o)(k:∀b u,(b=a\/H b=some (.own a))->h.get? b=some u->h'.get? b=some u)
  (ho:∀b,H b=some (.own a)->H' b=some (.own a)) (ht:∀b xs,H b=some (.tup xs)->H' b=some (.tup xs)):qB3 P w H' h' a o:=by
 induction o with
 |lst xs=>obtain⟨z,its,n,r,e⟩:=x;exact⟨z,its,n,r,k _ _ (.inl rfl) e⟩
 |tup xs=>obtain⟨z,its,r,ob,e,c⟩:=x;exact⟨z,its,r,ob,k _ _ (.inl rfl) e,c⟩
 |dK kvs=>obtain⟨z,y,vs,r,ob,es,ep,e,c⟩:=x;exact⟨z,y,vs,r,ob,es,ep,k _ _ (.inl rfl) e,c⟩
 |dT kvs =>
  obtain⟨z,y,xs,r,ob,es,ep,e,c⟩:=x;exact⟨z,y,xs,Paired.mapP r λp q z=>⟨z.1,ht _ _ z.2.1,z.2.2⟩,ob,es,ep,k _ _ (.inl rfl) e,c⟩
 |set S n=>obtain⟨ob,es,ep,t,e,c⟩:=x;exact⟨ob,es,ep,t,k _ _ (.inl rfl) e,c⟩
 |ins C dx fs =>
  obtain⟨d,z,ne,e,mA,⟨od,es,ep,e2,c⟩,r⟩:=x;exact⟨ho _ d,z,ne,k _ _ (.inl rfl) e,mA,⟨od,es,ep,k _ _ (.inr d) e2,c⟩,r⟩
 |own y=>obtain⟨ob,e⟩:=x;exact⟨ob,k _ _ (.inl rfl) e⟩
 |xd fs=>obtain⟨mA,⟨od,es,ep,e,c⟩,r⟩:=x;exact⟨mA,⟨od,es,ep,k _ _ (.inl rfl) e,c⟩,r⟩
 |rng lo hi=>obtain⟨t,u,v,e⟩:=x;exact⟨t,u,v,k _ _ (.inl rfl) e⟩
 |frz ob u ih=>obtain⟨e,q⟩:=x;exact⟨k _ _ (.inl rfl) e,ih q⟩
 |tbl ps =>
  have e:h.get? a=some { cls:=.none,data:=.fields ps }:=x;show h'.get? a=some { cls:=.none,data:=.fields ps };exact k a _ (.inl rfl) e
 |met f y =>
  have e:h.get? a=some (PySem.W.methodObj (.ref f) (.ref y)):=x;show h'.get? a=some (PySem.W.methodObj (.ref f) (.ref y));exact k a _ (.inl rfl) e
 |ext φ=>obtain⟨p,⟨o,e⟩,st⟩:=x;exact⟨st _ _ p λo q=>k _ _ (.inl rfl) q,⟨o,k _ _ (.inl rfl) e⟩,st⟩
theorem HOk.lt(x:HOk P w H h)(e:H a=some o):a<h.objs.size:=(x a o e).lt
theorem HOk.fresh(x:HOk P w H h)(e:h.objs.size<=a):H a=none:=by
 cases q:H a with
 |none=>rfl
 |some u=>exact absurd (hAl (x.lt q) e) (hBe _)
theorem HOk.kept(x:HOk P w H h)(k:∀b u,h.get? b=some u->h'.get? b=some u):HOk P w H h':=λa o e =>
 (x a o e).stay (λb u _ q=>k b u q) (λ_ q=>q) λ_ _ q=>q
theorem HOk.laid(x:HOk P w H h)(k:∀b u,h.get? b=some u->h'.get? b=some u)(hp:h.objs.size<=a)(new:qB3 P w (upd H a o) h' a o):HOk P w (upd H a o) h':=λb u e=>by
 have hn:=x.fresh hp;by_cases hb:b=a
 ·subst hb;rw[upd_same]at e;cases e;exact new
 ·rw[qAj hb]at e;exact(x b u e).stay (λc v _ q=>k c v q) (λc q=>by rw[qAj (qAq q hn)];exact q) λc xs q=>by rw[qAj (qAq q hn)];exact q
end
def Rd(H:Hp)(a:Addr)(u:HO):Prop:=H a=some u\/∃o,H a=some (.frz o u)
theorem Rd.ok{P:Program}{w:World}{H:Hp}{h:Heap}{a:Addr}{u:HO}(r:Rd H a u)(x:HOk P w H h):qB3 P w H h a u:=by
 rcases r with r|⟨o,r⟩
 ·exact x a u r
 ·obtain⟨_,q⟩:=x a _ r;exact q
def Mut:Option HO->Prop
 |some (.lst _)=>True
 |some (.dK _)=>True
 |some (.dT _)=>True
 |some (.set _ _)=>True
 |some (.ins _ _ _)=>True
 |some (.ext _)=>True
 |_=>False
section
variable{P:Program}{w:World}{H:Hp}{h h':Heap}{x e:Addr}{o':HO}
theorem HOk.write(ok:HOk P w H h)(mu:Mut (H x))(he:e=x\/H e=some (.own x))(k:∀b u,b≠e->h.get? b=some u->h'.get? b=some u)(heo:∃u,h'.get? e=some u)
  (new:qB3 P w (upd H x o') h' x o'):HOk P w (upd H x o') h':=λb u q=>by
 have nown:∀c y,H c=some (.own y)->c≠x:=λc y r z=>by subst z;rw[r]at mu;exact mu
 have ntup:∀c xs,H c=some (.tup xs)->c≠x:=λc xs r z=>by subst z;rw[r]at mu;exact mu
 by_cases hb:b=x
 ·subst hb;rw[upd_same]at q;cases q;exact new
 ·rw[qAj hb]at q;by_cases hbe:b=e
  ·have q':H b=some (.own x):=by
    rcases he with z|z
    ·exact absurd (hbe.trans z) hb
    ·rw[hbe];exact z
   rw[q]at q';cases q';obtain⟨v,hv⟩:=heo;exact⟨v,by rw[hbe];exact hv⟩
  ·refine(ok b u q).stay (λc v hc r=>k c v ?_ r) (λc r=>by rw[qAj (nown c b r)];exact r) λc xs r=>by rw[qAj (ntup c xs r)];exact r
   rcases hc with rfl|hc
   ·exact hbe
   ·rintro rfl;rcases he with z|z
    ·exact nown c b hc z
    ·rw[hc]at z;cases z;exact hb rfl
end
structure Un(fs ex:List Addr)(H H':Hp)(h h':Heap):Prop where
 keep:∀b o,h.get? b=some o->H b=none->b∉fs->b∉ex->h'.get? b=some o
 slot:∀b o,h.get? b=some o->H b=none->b∈fs->b∉ex->∃sl,h'.get? b=some { o with slots:=sl }
 free:∀b o,h.get? b=some o->H b=none->b∉ex->H' b=none
 there:∀b o,h.get? b=some o->b∉ex->∃o',h'.get? b=some o'
 tups:∀b xs,H b=some (.tup xs)->H' b=some (.tup xs)
 frzs:∀b o u,H b=some (.frz o u)->H' b=some (.frz o u)
 tbls:∀b ps,H b=some (.tbl ps)->∃more,H' b=some (.tbl (ps++more))
section
variable{fs fs' ex ex':List Addr}{H H1 H2:Hp}{h h1 h2 h':Heap}{a x e:Addr}{o:HO}
theorem Un.any(u:Un fs ex H H1 h h1){b:Addr}{ob:Obj}(q:h.get? b=some ob)(n:H b=none)(hx:b∉ex):∃sl,h1.get? b=some { ob with slots:=sl }:=by
 by_cases hb:b∈fs
 ·exact u.slot b ob q n hb hx
 ·exact⟨ob.slots,u.keep b ob q n hb hx⟩
theorem Un.kept(k:∀b u,h.get? b=some u->h'.get? b=some u):Un fs ex H H h h' :=
 ⟨λb ob q _ _ _=>k b ob q,λb ob q _ _ _=>⟨ob.slots,k b ob q⟩,λ_ _ _ n _=>n,λb ob q _=>⟨ob,k b ob q⟩,λ_ _ q=>q,λ_ _ _ q=>q,λ_ ps q=>⟨#[],by rw[q];simp⟩⟩
theorem Un.refl:Un fs ex H H h h:=Un.kept λ_ _ q=>q
theorem Un.laid(k:∀b u,h.get? b=some u->h'.get? b=some u)(hp:h.objs.size<=a)(hn:H a=none):Un fs ex H (upd H a o) h h' where
 keep:=λb u q _ _ _=>k b u q
 slot:=λb u q _ _ _=>⟨u.slots,k b u q⟩
 free:=λb u q n _=>by rw[qAj (hAi (hAl (Heap.lt_size q) hp))];exact n
 there:=λb u q _=>⟨u,k b u q⟩
 tups:=λb xs q=>by rw[qAj (qAq q hn)];exact q
 frzs:=λb u xs q=>by rw[qAj (qAq q hn)];exact q
 tbls:=λb ps q=>⟨#[],by rw[qAj (qAq q hn),q];simp⟩
theorem Un.write(mu:Mut (H x))(he:e=x\/H e=some (.own x))(k:∀b u,b≠e->h.get? b=some u->h'.get? b=some u)(heo:∃u,h'.get? e=some u):Un fs ex H (upd H x o) h h':=by
 have hx:∀b,H b=none->b≠x:=λb n z=>by subst z;rw[n]at mu;exact mu
 have hb:∀b,H b=none->b≠e:=λb n z=>by
  subst z;rcases he with r|r
  ·exact hx b n r
  ·rw[n]at r;cases r
 have hm:∀b u,H b=some u->¬Mut (some u)->b≠x:=λb u q nm z=>by subst z;rw[q]at mu;exact nm mu
 refine⟨λb u q n _ _=>k b u (hb b n) q,λb u q n _ _=>⟨u.slots,k b u (hb b n) q⟩,λb u q n _=>by rw[qAj (hx b n)];exact n,λb u q _=>?_,
  λb xs q=>by rw[qAj (hm b _ q λz=>z)];exact q,λb u xs q=>by rw[qAj (hm b _ q λz=>z)];exact q,λb ps q=>⟨#[],by rw[qAj (hm b _ q λz=>z),q];simp⟩⟩
 by_cases hbe:b=e
 ·subst hbe;exact heo
 ·exact⟨u,k b u hbe q⟩
end
def trk(h:Heap)(H:Hp):List Addr:=(List.range h.objs.size).filter λa=>(H a).isSome
def qUk(h:Heap)(H:Hp):Heap:=PySem.W.hideAll h (trk h H)
theorem qR4(h:Heap)(H:Hp):(qUk h H).objs.size=h.objs.size:=PySem.W.hideAll_size _ _
theorem qUj{h:Heap}{H:Hp}{b:Addr}{o:Obj}(e:h.get? b=some o)(n:H b=none):(qUk h H).get? b=some o :=
 hDk _ e λhm=>by
  have q:(H b).isSome=true:=(hBb.mp hm).2;rw[n]at q;simp at q
theorem qYf{h:Heap}{H:Hp}{b:Addr}{o:Obj}(e:(qUk h H).get? b=some o):h.get? b=some o/\H b=none:=by
 have e':h.get? b=some o:=PySem.W.of_hideAll (trk h H) e;refine⟨e',?_⟩;cases q:H b with
 |none=>rfl
 |some x =>
  have hm:b∈trk h H:=hBb.mpr ⟨hB4.mpr (Heap.lt_size e'),by simp[q]⟩;have z:(qUk h H).get? b=none:=hBs (trk h H) hm;rw[z]at e;cases e
def qZe(g h:Heap)(L:Addr):List (Addr×Obj):=(List.range h.objs.size).filterMap λa=>if a=L\/(g.get? a).isSome=true then none else (h.get? a).map λo=>(a,o)
def rest(g h:Heap)(L d:Addr):List (Addr×Obj):=(qZe g h L).filter λp=>decide (p.1≠d)
structure Mod(K:PySem.W.Frag)(mg:Str->Option Value)(base:Heap):Prop where
 kin:K.In base
 glob:base.Ns mainGlobals mg
 blt:∃mb,base.Ns builtinsNs mb/\∀x:Str,x≠"__name__"->mb x=bootBuiltins x
 nolimit:base.NoLimit
structure Cx where
 prog:Program
 w:World
 K:PySem.W.Frag
 mg:Str->Option Value
 base:Heap
 A:Around
 N:List Str
 s₀:Shared
 H₀:Hp
 env:Env
 outer:List Env
 stack:List Env
 ex:List Addr
 fn:Str->Bool
 calm:Bool
 pn:List (Addr×Obj)
 xe:Value->Shared->Prop
def frs(l:List Env):List Addr:=l.filterMap (·.frame)
abbrev Cx.fs(X:Cx):List Addr:=frs X.outer
def Vis(sc:Scope)(x:Str):Prop:=sc.names.lookup x=some .local\/sc.names.lookup x=some .cell\/sc.names.lookup x=some .free
def Loc(sc:Scope)(x:Str):Prop:=sc.names.lookup x=some .local\/sc.names.lookup x=some .cell
def zFk(env:Env)(h:Heap)(m:Str->Option Value)(x:Str)(u:Value):Prop :=
 (env.kindOf x=some .local/\m x=some u)\/((env.kindOf x=some .cell\/env.kindOf x=some .free)/\∃c,env.cells.lookup x=some c/\h.IsCell c (some u))
structure Cx.Ok(X:Cx):Prop where
 mod:Mod X.K X.mg X.base
 kind:X.env.scope.kind = .function
 glob:X.env.globals=mainGlobals
 blt:X.env.builtins=builtinsNs
 above:X.s₀.heap.objs.size<=X.env.locals
 inj:∀x y c,X.env.cells.lookup x=some c->X.env.cells.lookup y=some c->x=y
 has:∀x,(X.env.kindOf x=some .cell\/X.env.kindOf x=some .free)->∃c,X.env.cells.lookup x=some c
 cab:∀x c,X.fn x=true->X.env.cells.lookup x=some c->X.s₀.heap.objs.size<=c
 hd:X.calm=true->X.A.handled=none
 frames:X.A.frames=some X.stack
 stk:X.stack=X.outer\/(X.stack=X.env :: X.outer/\X.env.frame=some X.env.locals)
 exf:∀b∈X.ex,b≠X.env.locals/\∀x c,X.env.cells.lookup x=some c->c≠b
 bs:∀b o,X.base.get? b=some o->X.s₀.heap.get? b=some o/\X.H₀ b=none
 bsz:X.base.objs.size<=X.s₀.heap.objs.size
 noex:∀b o,X.base.get? b=some o->b∉X.ex
 exfs:∀b∈X.ex,b∉X.fs
 funs:X.s₀.heap.FunFrames X.base X.outer
 frf:∀b∈X.fs,X.H₀ b=none
structure Inv(X:Cx)(aB:List (Addr×Obj))(σ:List (Option V))(H:Hp)(s:Shared):Prop where
 ok:X.Ok
 os:s.os=X.s₀.os
 bare:AllBare s.gens
 base:Un X.fs X.ex X.H₀ H X.s₀.heap s.heap
 loc:∃m,s.heap.Ns X.env.locals m/\∀(i:Nat) (x:Str) (v:V),X.N[i]?=some x->σ[i]?=some (some v)->Vis X.env.scope x->∃u,qB6 v u/\zFk X.env s.heap m x u
 cell:∀x c,X.env.cells.lookup x=some c->∃v,s.heap.IsCell c v
 free:H X.env.locals=none
 freeC:∀x c,X.env.cells.lookup x=some c->H c=none
 pin:∀p∈X.pn++aB,s.heap.get? p.1=some p.2/\H p.1=none/\p.1≠X.env.locals/\p.1∉X.fs/\∀v,p.2.data≠.cell v
 hok:HOk X.prog X.w H s.heap
 len:σ.length=X.N.length
section
variable{X:Cx}{aB:List (Addr×Obj)}{σ:List (Option V)}{H H':Hp}{s:Shared}{h':Heap}
theorem Cx.Ok.nofr(ok:X.Ok){b:Addr}{o:Obj}(e:X.base.get? b=some o):b∉X.fs:=λhb=>by
 have:=(ok.funs.mem hb).1;rw[e]at this;cases this
theorem Inv.bs(I:Inv X aB σ H s):∀b o,X.base.get? b=some o->s.heap.get? b=some o/\H b=none:=λb o e =>
 ⟨I.base.keep b o (I.ok.bs b o e).1 (I.ok.bs b o e).2 (I.ok.nofr e) (I.ok.noex b o e),I.base.free b o (I.ok.bs b o e).1 (I.ok.bs b o e).2 (I.ok.noex b o e)⟩
theorem Inv.bk(I:Inv X aB σ H s):∀b o,X.base.get? b=some o->s.heap.get? b=some o:=λb o e=>(I.bs b o e).1
theorem Inv.mod(I:Inv X aB σ H s):Mod X.K X.mg X.base:=I.ok.mod
theorem Inv.kIn(I:Inv X aB σ H s):X.K.In s.heap:=I.ok.mod.kin.keeps I.bk
theorem Inv.lt(I:Inv X aB σ H s):X.env.locals<s.heap.objs.size:=let ⟨_,hn,_⟩:=I.loc;hn.lt
theorem Inv.sz(I:Inv X aB σ H s):X.s₀.heap.objs.size<=s.heap.objs.size:=hAx I.ok.above (hAz I.lt)
theorem Inv.nofs(I:Inv X aB σ H s){a:Addr}(h:s.heap.objs.size<=a):a∉X.fs:=λhb=>by
 obtain⟨_,o,ho,_⟩:=I.ok.funs.mem hb;exact absurd (hAl (Heap.lt_size ho) (hAx I.sz h)) (hBe _)
theorem Inv.cne(I:Inv X aB σ H s):∀x c,X.env.cells.lookup x=some c->c≠X.env.locals:=λx c e z=>by
 obtain⟨v,o,ho,hd⟩:=I.cell x c e;obtain⟨m,⟨o',es,ep,ho',hd',_⟩,_⟩:=I.loc;rw[z,ho']at ho;cases ho;rw[hd']at hd;cases hd
theorem Inv.funs(I:Inv X aB σ H s):s.heap.FunFrames X.base X.outer:=by
 have all:∀(l:List Env),(∀b∈frs l,b∈X.fs)->X.s₀.heap.FunFrames X.base l->s.heap.FunFrames X.base l:=by
  intro l
  induction l with
  |nil=>intro _ _;trivial
  |cons env r ih =>
   intro hs hl;obtain⟨hk,⟨L,o,hf,hn,ho,hd⟩,hr⟩:=hl;have hL:L∈X.fs:=hs L (by unfold frs;rw[hC4,hf];exact hA6);obtain⟨sl,e⟩:=I.base.slot L o ho (I.ok.frf L hL) hL λz=>I.ok.exfs L z hL
   exact⟨hk,⟨L,_,hf,hn,e,hd⟩,ih (λb hb=>hs b (by unfold frs;rw[hC4,hf];exact hA4 _ hb)) hr⟩
 exact all X.outer (λ_ hb=>hb) I.ok.funs
theorem Inv.stack(I:Inv X aB σ H s):s.heap.FunFrames X.base X.stack:=by
 rcases I.ok.stk with e|⟨e,hf⟩
 ·rw[e];exact I.funs
 ·rw[e];obtain⟨m,hn,_⟩:=I.loc;refine .cons (by rw[I.ok.kind];decide) hf hn ?_ I.funs;exact Heap.get?_none_of_le (hAx I.ok.bsz I.ok.above)
theorem Inv.stkSub(I:Inv X aB σ H s):∀b∈frs X.stack,b∈X.env.locals :: X.fs:=λb hb=>by
 rcases I.ok.stk with e|⟨e,hf⟩
 ·rw[e]at hb;exact hA4 _ hb
 ·rw[e]at hb;unfold frs at hb;rw[hC4,hf]at hb;exact hb
theorem Inv.stkFree(I:Inv X aB σ H s):∀b∈frs X.stack,H b=none:=λb hb=>by
 rcases hA8.mp (I.stkSub b hb) with e|hb
 ·rw[e];exact I.free
 ·obtain⟨_,o,ho,_⟩:=I.ok.funs.mem hb;exact I.base.free b o ho (I.ok.frf b hb) λz=>I.ok.exfs b z hb
theorem Inv.step{g':Array GenState}{t':Nat}{d':Drawn}{ch:List Addr}(I:Inv X aB σ H s)
  (hch:∀b∈ch,(b∈X.ex\/X.s₀.heap.objs.size<=b)/\b≠X.env.locals/\(∀x c,X.env.cells.lookup x=some c->c≠b)/\∀p∈X.pn++aB,p.1≠b)
  (keep:∀b o,b≠X.env.locals->b∉X.fs->b∉ch->s.heap.get? b=some o->H b=none->h'.get? b=some o)
  (slot:∀b o,b≠X.env.locals->b∈X.fs->b∉ch->s.heap.get? b=some o->H b=none->∃sl,h'.get? b=some { o with slots:=sl }) (free:∀b o,b∉ch->s.heap.get? b=some o->H b=none->H' b=none)
  (there:∀b o,b∉ch->s.heap.get? b=some o->∃o',h'.get? b=some o')
  (tups:∀b xs,H b=some (.tup xs)->H' b=some (.tup xs)) (frzs:∀b o u,H b=some (.frz o u)->H' b=some (.frz o u)) (tbls:∀b ps,H b=some (.tbl ps)->∃more,H' b=some (.tbl (ps++more)))
  (ns:∀m,s.heap.Ns X.env.locals m->h'.Ns X.env.locals m) (hok:HOk X.prog X.w H' h') (hg:AllBare g') :
  Inv X aB σ H' { s with heap:=h',gens:=g',drawn:=d',toks:=t' }:=by
 have neL:∀b o,X.s₀.heap.get? b=some o->b≠X.env.locals:=λb o e=>hAi (hAl (Heap.lt_size e) I.ok.above)
 have neC:∀b o,X.s₀.heap.get? b=some o->b∉X.ex->b∉ch:=λb o e hx hb=>by
  rcases(hch b hb).1 with z|z
  ·exact hx z
  ·exact absurd (hAl (Heap.lt_size e) z) (hBe _)
 have cellK:∀x c,X.env.cells.lookup x=some c->∀v,s.heap.IsCell c v->h'.IsCell c v:=λx c e v ⟨o,ho,hd⟩=>by
  have nch:c∉ch:=λz=>(hch c z).2.2.1 x c e rfl
  by_cases hc:c∈X.fs
  ·obtain⟨sl,q⟩:=slot c o (I.cne x c e) hc nch ho (I.freeC x c e);exact⟨_,q,hd⟩
  ·exact⟨o,keep c o (I.cne x c e) hc nch ho (I.freeC x c e),hd⟩
 refine⟨I.ok,I.os,hg,⟨λb o e n hb hx=>?_,λb o e n hb hx=>?_,λb o e n hx=>?_,λb o e hx=>?_,λb xs e=>tups b xs (I.base.tups b xs e),λb o xs e=>frzs b o xs (I.base.frzs b o xs e),λb ps e=>?_⟩,?_,λx c e=>?_,?_,λx c e=>?_,λp hp=>?_,hok,I.len⟩
 ·exact keep b o (neL b o e) hb (neC b o e hx) (I.base.keep b o e n hb hx) (I.base.free b o e n hx)
 ·obtain⟨sl,e1⟩:=I.base.slot b o e n hb hx;obtain⟨sl',e2⟩:=slot b _ (neL b o e) hb (neC b o e hx) e1 (I.base.free b o e n hx);exact⟨sl',e2⟩
 ·obtain⟨o',e1⟩:=I.base.there b o e hx;exact free b o' (neC b o e hx) e1 (I.base.free b o e n hx)
 ·obtain⟨o',e1⟩:=I.base.there b o e hx;exact there b o' (neC b o e hx) e1
 ·obtain⟨m1,e1⟩:=I.base.tbls b ps e;obtain⟨m2,e2⟩:=tbls b _ e1;exact⟨m1++m2,by rw[e2,Array.append_assoc]⟩
 ·obtain⟨m,hn,hl⟩:=I.loc;refine⟨m,ns m hn,λi x v e1 e2 e3=>?_⟩;obtain⟨u,r,l⟩:=hl i x v e1 e2 e3;refine⟨u,r,?_⟩;rcases l with l|⟨k,c,e,z⟩
  ·exact .inl l
  ·exact .inr ⟨k,c,e,cellK x c e _ z⟩
 ·obtain⟨v,z⟩:=I.cell x c e;exact⟨v,cellK x c e v z⟩
 ·obtain⟨m,⟨o,_,_,ho,_⟩,_⟩:=I.loc;exact free _ o (λz=>(hch _ z).2.1 rfl) ho I.free
 ·obtain⟨v,o,ho,hd⟩:=I.cell x c e;exact free c o (λz=>(hch c z).2.2.1 x c e rfl) ho (I.freeC x c e)
 ·obtain⟨e,n,ne,nf,d⟩:=I.pin p hp;have nch:p.1∉ch:=λz=>(hch p.1 z).2.2.2 p hp rfl
  exact⟨keep p.1 p.2 ne nf nch e n,free p.1 p.2 nch e n,ne,nf,d⟩
theorem Inv.un{t':Nat}(I:Inv X aB σ H s)(u:Un X.fs [] H H' s.heap h')(hok:HOk X.prog X.w H' h'):Inv X aB σ H' { s with heap:=h',toks:=t' }:=by
 obtain⟨m,⟨o,es,ep,ho,r⟩,_⟩:=id I.loc;obtain⟨sl,hL⟩:=u.any ho I.free (by simp);exact I.step (g':=s.gens) (d':=s.drawn) (ch:=[]) (λ_ z=>nomatch z) (λb o _ hb _ e n=>u.keep b o e n hb (by simp)) (λb o _ hb _ e n=>u.slot b o e n hb (by simp)) (λb o _ e n=>u.free b o e n (by simp)) (λb o _ e=>u.there b o e (by simp)) u.tups u.frzs u.tbls (λm' hm=>by
  obtain⟨o',es',ep',ho',r'⟩:=hm;rw[ho]at ho';cases ho';exact⟨_,es',ep',hL,r'⟩) hok I.bare
theorem Inv.call{g':Array GenState}{t':Nat}{d':Drawn}{ch:List Addr}(I:Inv X aB σ H s)(u:Un (frs X.stack) ch H H' s.heap h')(hok:HOk X.prog X.w H' h')(hg:AllBare g')
  (hch:∀b∈ch,(b∈X.ex\/X.s₀.heap.objs.size<=b)/\b≠X.env.locals/\(∀x c,X.env.cells.lookup x=some c->c≠b)/\∀p∈X.pn++aB,p.1≠b) :
  Inv X aB σ H' { s with heap:=h',gens:=g',drawn:=d',toks:=t' }:=by
 obtain⟨m,⟨o,es,ep,ho,r⟩,_⟩:=id I.loc;obtain⟨sl,hL⟩:=u.any ho I.free λz=>(hch _ z).2.1 rfl
 exact I.step (ch:=ch) hch (λb o hL hb hc e n=>u.keep b o e n (λz=>(hA8.mp (I.stkSub b z)).elim hL hb) hc) (λb o _ _ hc e n=>u.any e n hc) (λb o hc e n=>u.free b o e n hc) (λb o hc e=>u.there b o e hc) u.tups u.frzs u.tbls (λm' hm=>by
  obtain⟨o',es',ep',ho',r'⟩:=hm;rw[ho]at ho';cases ho';exact⟨_,es',ep',hL,r'⟩) hok hg
theorem Inv.turned{t':Nat}{it:Addr}(I:Inv X aB σ H s)(k:∀b o,b≠it->s.heap.get? b=some o->h'.get? b=some o)(hn:H it=none)(hL:it≠X.env.locals)
  (h1:it∈X.ex\/X.s₀.heap.objs.size<=it) (h2:∀x c,X.env.cells.lookup x=some c->c≠it) (h3:∀p∈X.pn++aB,p.1≠it):Inv X aB σ H { s with heap:=h',toks:=t' }:=by
 have nit:∀b u,H b=some u->b≠it:=λb u e z=>by rw[z,hn]at e;cases e
 refine I.step (g':=s.gens) (d':=s.drawn) (ch:=[it]) (λb hb=>?_) (λb o _ _ hc e _=>k b o (λz=>hc (by simp[z])) e) (λb o _ _ hc e _=>⟨o.slots,k b o (λz=>hc (by simp[z])) e⟩) (λ_ _ _ _ n=>n)
  (λb o hc e=>⟨o,k b o (λz=>hc (by simp[z])) e⟩) (λ_ _ e=>e) (λ_ _ _ e=>e) (λb ps e=>⟨#[],by rw[e];simp⟩) (λm hm=>?_) (λb u e=>?_) I.bare
 ·have e:b=it:=by simpa using hb
  subst e;exact⟨h1,hL,h2,h3⟩
 ·obtain⟨o,es,ep,ho,r⟩:=hm;exact⟨o,es,ep,k _ o (Ne.symm hL) ho,r⟩
 ·refine(I.hok b u e).stay (λc v hc q=>k c v ?_ q) (λ_ q=>q) λ_ _ q=>q
  rcases hc with z|z
  ·rw[z];exact nit b u e
  ·exact nit c _ z
theorem Inv.tok(I:Inv X aB σ H s)(t:Nat):Inv X aB σ H { s with toks:=t }:=I.un (h':=s.heap) (t':=t) Un.refl I.hok
theorem Inv.kept{t':Nat}(I:Inv X aB σ H s)(k:∀b u,s.heap.get? b=some u->h'.get? b=some u):Inv X aB σ H { s with heap:=h',toks:=t' }:=I.un (Un.kept k) (I.hok.kept k)
theorem Inv.laid{a:Addr}{o:HO}{t':Nat}(I:Inv X aB σ H s)(k:∀b u,s.heap.get? b=some u->h'.get? b=some u)(hp:s.heap.objs.size<=a)(new:qB3 X.prog X.w (upd H a o) h' a o) :
  Inv X aB σ (upd H a o) { s with heap:=h',toks:=t' }:=I.un (Un.laid k hp (I.hok.fresh hp)) (I.hok.laid k hp new)
theorem Inv.write{x e:Addr}{o:HO}{t':Nat}(I:Inv X aB σ H s)(mu:Mut (H x))(he:e=x\/H e=some (.own x))(k:∀b u,b≠e->s.heap.get? b=some u->h'.get? b=some u)(heo:∃u,h'.get? e=some u)
  (new:qB3 X.prog X.w (upd H x o) h' x o):Inv X aB σ (upd H x o) { s with heap:=h',toks:=t' }:=I.un (Un.write mu he k heo) (I.hok.write mu he k heo new)
theorem Inv.weak{σ':List (Option V)}(I:Inv X aB σ H s)(hl:σ'.length=σ.length)(w:∀(i:Nat) v,σ'[i]?=some (some v)->σ[i]?=some (some v)):Inv X aB σ' H s :=
 ⟨I.ok,I.os,I.bare,I.base,let ⟨m,hn,hl'⟩:=I.loc;⟨m,hn,λi x v e1 e2 e3=>hl' i x v e1 (w i v e2) e3⟩,I.cell,I.free,I.freeC,I.pin,I.hok,hl.trans I.len⟩
theorem Inv.pins_of{pins':List (Addr×Obj)}(I:Inv X aB σ H s)(h:∀p∈pins',s.heap.get? p.1=some p.2/\H p.1=none/\p.1≠X.env.locals/\p.1∉X.fs/\∀v,p.2.data≠.cell v):Inv X pins' σ H s :=
 ⟨I.ok,I.os,I.bare,I.base,I.loc,I.cell,I.free,I.freeC,λp hp=>(hAh.mp hp).elim (λz=>I.pin p (hAk _ z)) (h p),I.hok,I.len⟩
theorem qIx{N:List Str}(hN:N.Nodup){i j:Nat}{x:Str}(a:N[i]?=some x)(b:N[j]?=some x):i=j:=by
 obtain⟨h1,e1⟩:=hAc.mp a;obtain⟨h2,e2⟩:=hAc.mp b;exact(List.getElem_inj hN).mp (e1.trans e2.symm)
theorem qF3{M:Model}{A:Around}{E:Value->Shared->Prop}{i:Nat}{x:Str}{v:V}{u:Value}{Q:Unit->Shared->Prop}(I:Inv X aB σ H s)(hN:X.N.Nodup)(hi:X.N[i]?=some x)(hx:Loc X.env.scope x)(r:qB6 v u)
  (h:∀s',Inv X aB (σ.set i (some v)) H s'->(∃a,Heap.SameBut a s.heap s'.heap/\(a=X.env.locals\/X.env.cells.lookup x=some a))->Q () s') (hf:X.fn x=true\/X.env.scope.names.lookup x=some .local:=by first|exact .inl rfl|exact .inr rfl|assumption):wpAny M A (storeName X.env x u) Q E s:=by
 obtain⟨m,hn,hl⟩:=id I.loc;have hcls:(X.env.scope.kind == .class || (X.env.scope.kind == .module && X.env.locals != X.env.globals))=false:=by rw[I.ok.kind];rfl
 have hiσ:i < σ.length:=by rw[I.len];exact(hAc.mp hi).1
 have cne:=I.cne;have tracked:∀ {a:Addr} {h':Heap},(∃o,s.heap.get? a=some o/\H a=none)->Heap.SameBut a s.heap h'->HOk X.prog X.w H h':=λ{a h'} ha hs b ob e=>by
  obtain⟨_,_,hfree⟩:=ha;refine(I.hok b ob e).stay (λc w' hc q=>(hs.2 c ?_).trans q) (λ_ q=>q) λ_ _ q=>q
  rintro rfl;rcases hc with rfl|hc
  ·rw[hfree]at e;cases e
  ·rw[hfree]at hc;cases hc
 rcases hx with hk|hk
 ·refine wpAny_storeName_local hk hn (λh' hn' hs=>?_) hcls;obtain⟨oL,_,_,hoL,_⟩:=id hn;refine h _ ⟨I.ok,I.os,I.bare,⟨λb o e n hb hx=>?_,λb o e n hb hx=>?_,I.base.free,λb o e hx=>?_,I.base.tups,I.base.frzs,I.base.tbls⟩,⟨_,hn',λj y v' e1 e2 e3=>?_⟩,λy c e=>?_,I.free,I.freeC,λp hp=>?_,tracked ⟨oL,hoL,I.free⟩ hs,by simpa using I.len⟩ ⟨_,hs,.inl rfl⟩
  ·exact(hs.2 b (hAi (hAl (Heap.lt_size e) I.ok.above))).trans (I.base.keep b o e n hb hx)
  ·obtain⟨sl,e1⟩:=I.base.slot b o e n hb hx;exact⟨sl,(hs.2 b (hAi (hAl (Heap.lt_size e) I.ok.above))).trans e1⟩
  ·obtain⟨o',e1⟩:=I.base.there b o e hx;exact⟨o',(hs.2 b (hAi (hAl (Heap.lt_size e) I.ok.above))).trans e1⟩
  ·by_cases hj:j=i
   ·subst hj;rw[hi]at e1;cases e1;rw[hD2 hiσ]at e2;cases e2;exact⟨u,r,.inl ⟨hk,by simp⟩⟩
   ·rw[hCu (Ne.symm hj)]at e2;obtain⟨u',r',q⟩:=hl j y v' e1 e2 e3;refine⟨u',r',?_⟩;rcases q with ⟨k,e⟩|⟨k,c,e,z⟩
    ·refine .inl ⟨k,?_⟩;have:y≠x:=λe=>hj (qIx hN e1 (e▸hi))
     simp[this,e]
    ·exact .inr ⟨k,c,e,z.sameBut hs (cne y c e)⟩
  ·obtain⟨w',z⟩:=I.cell y c e;exact⟨w',z.sameBut hs (cne y c e)⟩
  ·obtain⟨e,n,ne,nf,d⟩:=I.pin p hp;exact⟨(hs.2 p.1 ne).trans e,n,ne,nf,d⟩
 ·have hfn:X.fn x=true:=by
   rcases hf with z|z
   ·exact z
   ·rw[z]at hk;cases hk
  obtain⟨c,hc⟩:=I.ok.has x (.inl hk);obtain⟨w',z⟩:=I.cell x c hc;refine wpAny_storeName_cell I.ok.kind hk hc z (λh' hc' hs=>?_);obtain⟨oc,hoc,hocd⟩:=id z;refine h { s with heap:=h' } ⟨I.ok,I.os,I.bare,⟨λb o e n hb hx=>?_,λb o e n hb hx=>?_,I.base.free,λb o e hx=>?_,I.base.tups,I.base.frzs,I.base.tbls⟩,⟨m,hn.sameBut hs (Ne.symm (cne x c hc)),λj y v' e1 e2 e3=>?_⟩,λy c' e=>?_,I.free,I.freeC,λp hp=>?_,tracked ⟨oc,hoc,I.freeC x c hc⟩ hs,by simpa using I.len⟩ ⟨c,hs,.inr hc⟩
  ·exact(hs.2 b (hAi (hAl (Heap.lt_size e) (I.ok.cab x c hfn hc)))).trans (I.base.keep b o e n hb hx)
  ·obtain⟨sl,e1⟩:=I.base.slot b o e n hb hx;exact⟨sl,(hs.2 b (hAi (hAl (Heap.lt_size e) (I.ok.cab x c hfn hc)))).trans e1⟩
  ·obtain⟨o',e1⟩:=I.base.there b o e hx;exact⟨o',(hs.2 b (hAi (hAl (Heap.lt_size e) (I.ok.cab x c hfn hc)))).trans e1⟩
  ·by_cases hj:j=i
   ·subst hj;rw[hi]at e1;cases e1;rw[hD2 hiσ]at e2;cases e2;exact⟨u,r,.inr ⟨.inl hk,c,hc,hc'⟩⟩
   ·rw[hCu (Ne.symm hj)]at e2;obtain⟨u',r',q⟩:=hl j y v' e1 e2 e3;refine⟨u',r',?_⟩;rcases q with q|⟨k,c',e,z'⟩
    ·exact .inl q
    ·refine .inr ⟨k,c',e,z'.sameBut hs ?_⟩;rintro rfl;exact hj (qIx hN e1 (I.ok.inj _ _ _ e hc▸hi))
  ·by_cases hcc:c'=c
   ·subst hcc;exact⟨_,hc'⟩
   ·obtain⟨w2,z2⟩:=I.cell y c' e;exact⟨w2,z2.sameBut hs hcc⟩
  ·obtain⟨e,n,ne,nf,d⟩:=I.pin p hp;refine⟨(hs.2 p.1 ?_).trans e,n,ne,nf,d⟩;intro q;rw[q,hoc]at e;have q':oc=p.2:=hAr e;exact d w' (by rw[<-q'];exact hocd)
theorem qEj{M:Model}{A:Around}{E:Value->Shared->Prop}{i:Nat}{x:Str}{v:V}{u:Value}{Q:Unit->Shared->Prop}(I:Inv X aB σ H s)(hN:X.N.Nodup)(hi:X.N[i]?=some x)(hx:Loc X.env.scope x)(r:qB6 v u)
  (h:∀s',Inv X aB (σ.set i (some v)) H s'->Q () s') (hf:X.fn x=true\/X.env.scope.names.lookup x=some .local:=by first|exact .inl rfl|exact .inr rfl|assumption):wpAny M A (storeName X.env x u) Q E s :=
 qF3 I hN hi hx r (λs' I' _=>h s' I') hf
theorem Inv.call'{s':Shared}{ch:List Addr}(I:Inv X aB σ H s)(ho:s'.os=s.os)(u:Un (frs X.stack) ch H H' s.heap s'.heap)(hok:HOk X.prog X.w H' s'.heap)(hg:AllBare s'.gens)
  (hch:∀b∈ch,(b∈X.ex\/X.s₀.heap.objs.size<=b)/\b≠X.env.locals/\(∀x c,X.env.cells.lookup x=some c->c≠b)/\∀p∈X.pn++aB,p.1≠b):Inv X aB σ H' s':=by
 obtain⟨h',g',d',t',o'⟩:=s';have e:o'=s.os:=ho;subst e;exact I.call (g':=g') (t':=t') (d':=d') u hok hg hch
end
abbrev XK:=Value->Option Addr->Hp->Prop
abbrev St:=List (Option V)
abbrev VK:=V->Hp->Prop
abbrev TE:=St->Hp->VK->Prop
abbrev TT:=St->Hp->(Bool->Hp->Prop)->Prop
abbrev TA:=St->Hp->(List V->Hp->Prop)->Prop
structure Ends where
 nx:St->Hp->Prop
 rt:VK
 bk:St->Hp->Prop:=λ_ _=>False
 ct:St->Hp->Prop:=λ_ _=>False
abbrev TS:=Ends->St->Hp->Prop
def EP(X:Cx)(aB:List (Addr×Obj))(σ:St)(Q:VK)(u:Value)(s':Shared):Prop:=∃v H',Inv X aB σ H' s'/\qB6 v u/\Q v H'
def TP(X:Cx)(aB:List (Addr×Obj))(σ:St)(Q:Bool->Hp->Prop)(b:Bool)(s':Shared):Prop:=∃H',Inv X aB σ H' s'/\Q b H'
def AP(X:Cx)(aB:List (Addr×Obj))(σ:St)(Q:List V->Hp->Prop)(us:List Value)(s':Shared):Prop:=∃vs H',Inv X aB σ H' s'/\qBh vs us/\Q vs H'
def SP(X:Cx)(aB:List (Addr×Obj))(D:Ends)(f:Flow)(s':Shared):Prop :=
 match f with
 |.next=>∃σ' H',Inv X aB σ' H' s'/\D.nx σ' H'
 |.brk=>∃σ' H',Inv X aB σ' H' s'/\D.bk σ' H'
 |.cont=>∃σ' H',Inv X aB σ' H' s'/\D.ct σ' H'
 |.ret u=>∃v σ' H',Inv X aB σ' H' s'/\qB6 v u/\D.rt v H'
def PE(X:Cx)(e:Expr)(t:TE):Prop :=
 ∀(aB:List (Addr×Obj)) (s:Shared) (σ:St) (H:Hp) (Q:VK),Inv X aB σ H s->t σ H Q->wpAny (model X.prog X.w) X.A (eval e X.env) (EP X aB σ Q) X.xe s
def PT(X:Cx)(e:Expr)(t:TT):Prop :=
 ∀(aB:List (Addr×Obj)) (s:Shared) (σ:St) (H:Hp) (Q:Bool->Hp->Prop),Inv X aB σ H s->t σ H Q->wpAny (model X.prog X.w) X.A (isTrue e X.env (eval e X.env)) (TP X aB σ Q) X.xe s
def PW(X:Cx)(e:Expr)(t:TT):Prop :=
 ∀(whole:Sem Value) (aB:List (Addr×Obj)) (s:Shared) (σ:St) (H:Hp) (Q:Bool->Hp->Prop),Inv X aB σ H s->t σ H Q->wpAny (model X.prog X.w) X.A (isTrue e X.env whole) (TP X aB σ Q) X.xe s
theorem PW.pt{X:Cx}{e:Expr}{t:TT}(h:PW X e t):PT X e t:=h _
def PA(X:Cx)(es:List Expr)(t:TA):Prop :=
 ∀(pos:Pos) (aB:List (Addr×Obj)) (s:Shared) (σ:St) (H:Hp) (Q:List V->Hp->Prop),Inv X aB σ H s->t σ H Q->wpAny (model X.prog X.w) X.A (spliced (backTo pos (starEach es X.env))) (AP X aB σ Q) X.xe s
def PS(X:Cx)(st:Stmt)(t:TS):Prop :=
 ∀(aB:List (Addr×Obj)) (s:Shared) (σ:St) (H:Hp) (D:Ends),Inv X aB σ H s->t D σ H->wpAny (model X.prog X.w) X.A (exec st X.env) (SP X aB D) X.xe s
def PSs(X:Cx)(st:List Stmt)(t:TS):Prop :=
 ∀(aB:List (Addr×Obj)) (s:Shared) (σ:St) (H:Hp) (D:Ends),Inv X aB σ H s->t D σ H->wpAny (model X.prog X.w) X.A (execs st X.env) (SP X aB D) X.xe s
theorem thn{α:Type}{t:Sem α}{Q Q':α->Shared->Prop}{M:Model}{A:Around}{E:Value->Shared->Prop}{s:Shared}(h:wpAny M A t Q E s)(hQ:∀a s,Q a s->Q' a s):wpAny M A t Q' E s:=hDz h hQ λ_ _ x=>x
section
variable{X:Cx}
def qZf(i:Nat):TE:=λσ H Q=>∃v,σ[i]?=some (some v)/\Q v H
def tC(v:V):TE:=λ_ H Q=>Q v H
theorem zA0{i:Nat}{x:Str}{pos:Pos}(hN:X.N[i]?=some x)(hv:Vis X.env.scope x)(hd:(x == ("__debug__" : Str))=false:=by decide)(hcd:(x == ("__classdict__" : Str))=false:=by decide):PE X (.Name x pos) (qZf i):=by
 intro aB s σ H Q I h;obtain⟨v,e,h⟩:=h;obtain⟨m,hn,hl⟩:=I.loc;obtain⟨u,r,l⟩:=hl i x v hN e hv;have fin:EP X aB σ Q u s:=⟨v,H,I,r,h⟩;rcases l with ⟨hk,hm⟩|⟨hk,c,hc,hcell⟩
 ·exact wpAny_Name (wpAny_loadName_local I.ok.kind hk hn hm fin) hd
 ·rcases hk with hk|hk
  ·exact wpAny_Name (wpAny_loadName_cell I.ok.kind hk hc hcell fin) hd
  ·exact wpAny_Name (wpAny_loadName_free I.ok.kind hk hc hcell fin hcd) hd
theorem qAc{i j pos}:PE X (.Constant (.int i) j pos) (tC (.int i)):=λ_ _ _ H _ I h=>wpAny_Constant_int ⟨.int i,H,I.tok _,⟨_,rfl⟩,h⟩
theorem qFs{b j pos}:PE X (.Constant (.bool b) j pos) (tC (.bl b)):=λ_ _ _ H _ I h=>Constant_bool ⟨.bl b,H,I,rfl,h⟩
theorem qNf{j pos}:PE X (.Constant .none j pos) (tC .non):=λ_ _ _ H _ I h=>Constant_none ⟨.non,H,I,rfl,h⟩
theorem qA9{x j pos}:PE X (.Constant (.str x) j pos) (tC (.str x)):=λ_ _ _ H _ I h=>Calls.Constant_str ⟨.str x,H,I.tok _,⟨_,rfl⟩,h⟩
def Gl(X:Cx)(x:Str):Prop:=X.env.kindOf x=some .globalImplicit
theorem qGx{E:Value->Shared->Prop}{aB:List (Addr×Obj)}{s:Shared}{σ:St}{H:Hp}{x:Str}{u:Value}{pos:Pos}{Q:Value->Shared->Prop}(I:Inv X aB σ H s)(hg:Gl X x)(hm:X.mg x=some u)(h:Q u s)
  (hd:(x == ("__debug__" : Str))=false:=by decide):wpAny (model X.prog X.w) X.A (eval (.Name x pos) X.env) Q E s :=
 Calls.Name_function_global I.ok.kind hg (Calls.loadGlobal_global (by rw[I.ok.glob];exact I.mod.glob.keeps I.bk) hm h) hd
theorem qFn{E:Value->Shared->Prop}{aB:List (Addr×Obj)}{s:Shared}{σ:St}{H:Hp}{x:Str}{u:Value}{pos:Pos}{Q:Value->Shared->Prop}(I:Inv X aB σ H s)(hg:Gl X x)(hm:X.mg x=none)(hv:bootBuiltins x=some u)(h:Q u s)
  (hn:x≠"__name__":=by decide) (hd:(x == ("__debug__" : Str))=false:=by decide):wpAny (model X.prog X.w) X.A (eval (.Name x pos) X.env) Q E s:=by
 obtain⟨mb,h1,h2⟩:=I.mod.blt;exact Calls.Name_function_global I.ok.kind hg (Calls.loadGlobal_builtin (by rw[I.ok.glob];exact I.mod.glob.keeps I.bk) hm (by rw[I.ok.blt];exact h1.keeps I.bk) ((h2 x hn).trans hv) h) hd
theorem qCs{x:Str}{v:V}{u:Value}{pos:Pos}(hg:Gl X x)(hm:X.mg x=some u)(r:qB6 v u)(hd:(x == ("__debug__" : Str))=false:=by decide):PE X (.Name x pos) (tC v) :=
 λ_ _ _ H _ I h=>qGx I hg hm ⟨v,H,I,r,h⟩ hd
theorem qCl{x:Str}{v:V}{u:Value}{pos:Pos}(hg:Gl X x)(hm:X.mg x=none)(hv:bootBuiltins x=some u)(r:qB6 v u)(hn:x≠"__name__":=by decide)(hd:(x == ("__debug__" : Str))=false:=by decide):PE X (.Name x pos) (tC v) :=
 λ_ _ _ H _ I h=>qFn I hg hm hv ⟨v,H,I,r,h⟩ hn hd
variable{a b:Expr}{ta tb:TE}{pos:Pos}
def tB(t:TE):TT:=λσ H Q=>t σ H λx H1=>∃c,x = .bl c/\Q c H1
theorem qBr{e:Expr}{t:TE}(h:PE X e t)(he:∀whole,isTrue e X.env whole=(do let v ← whole;standAt e.pos;holding [v] (truthy v)):=by intro _;rfl):PT X e (tB t):=by
 intro aB s σ H Q I hw;refine isTrue_plain (thn (h aB s σ H _ I hw) λv s1 ⟨x,H1,I1,r1,q1⟩=>?_) (he _);obtain⟨d,rfl,q⟩:=q1;cases r1;exact hE8 ⟨H1,I1,q⟩
variable{tA tB':TT}{rest:List Expr}
def zEr(t u:TT):TT:=λσ H Q=>t σ H λc H1=>if c=true then u σ H1 Q else Q false H1
def tOr(t u:TT):TT:=λσ H Q=>t σ H λc H1=>if c=true then Q true H1 else u σ H1 Q
def zEk(t:TT):TT:=λσ H Q=>t σ H λc H1=>Q (!c) H1
theorem qEd(ha:PT X a tA):PW X (.BoolOp .And [a] pos) tA:=by
 intro wh aB s σ H Q I h;refine isTrue_and (thn (ha aB s σ H Q I h) λc s1 e=>?_);cases c with
 |true=>exact isTrue_and_nil e
 |false=>exact e
theorem qDi(ha:PT X a tA):PW X (.BoolOp .Or [a] pos) tA:=by
 intro wh aB s σ H Q I h;refine isTrue_or (thn (ha aB s σ H Q I h) λc s1 e=>?_);cases c with
 |false=>exact isTrue_or_nil e
 |true=>exact e
theorem qGk(ha:PT X a tA)(hb:PW X (.BoolOp .And (b :: rest) pos) tB'):PW X (.BoolOp .And (a :: b :: rest) pos) (zEr tA tB'):=by
 intro wh aB s σ H Q I h;refine isTrue_and (thn (ha aB s σ H _ I h) λc s1 ⟨H1,I1,q1⟩=>?_);cases c with
 |true=>exact hb wh aB s1 σ H1 Q I1 q1
 |false=>exact⟨H1,I1,q1⟩
theorem qD3(ha:PT X a tA)(hb:PW X (.BoolOp .Or (b :: rest) pos) tB'):PW X (.BoolOp .Or (a :: b :: rest) pos) (tOr tA tB'):=by
 intro wh aB s σ H Q I h;refine isTrue_or (thn (ha aB s σ H _ I h) λc s1 ⟨H1,I1,q1⟩=>?_);cases c with
 |true=>exact⟨H1,I1,q1⟩
 |false=>exact hb wh aB s1 σ H1 Q I1 q1
theorem qB0(ha:PT X a tA):PT X (.UnaryOp .Not a pos) (zEk tA):=by
 intro aB s σ H Q I h;exact isTrue_not (ha aB s σ H (λc H1=>Q (!c) H1) I h)
def zDa(ta tb:TE):TE:=λσ H Q=>ta σ H λx H1=>∃c,x = .bl c/\if c=true then tb σ H1 Q else Q (.bl false) H1
theorem qNe{op}{t:TE}(h:PE X a t):PE X (.BoolOp op [a] pos) t:=λaB s σ H Q I hw=>BoolOp_one (h aB s σ H Q I hw)
theorem qJw(ha:PE X a ta)(hb:PE X (.BoolOp .And (b :: rest) pos) tb):PE X (.BoolOp .And (a :: b :: rest) pos) (zDa ta tb):=by
 intro aB s σ H Q I h;refine BoolOp_and (thn (ha aB s σ H _ I h) λv s1 ⟨x,H1,I1,r1,q1⟩=>?_);obtain⟨c,rfl,q1⟩:=q1;cases r1;refine hE8 ?_;cases c with
 |true=>exact hb aB s1 σ H1 Q I1 q1
 |false=>exact⟨.bl false,H1,I1,rfl,q1⟩
def tIf(t:TT)(ta tb:TE):TE:=λσ H Q=>t σ H λc H1=>if c=true then ta σ H1 Q else tb σ H1 Q
theorem qDy{c:Expr}(hc:PT X c tA)(ha:PE X a ta)(hb:PE X b tb):PE X (.IfExp c a b pos) (tIf tA ta tb):=by
 intro aB s σ H Q I h;refine wpAny_IfExp (thn (hc aB s σ H _ I h) λd s1 ⟨H1,I1,q1⟩=>?_);cases d with
 |true=>exact ha aB s1 σ H1 Q I1 q1
 |false=>exact hb aB s1 σ H1 Q I1 q1
end
def SqL(K:PySem.W.Frag)(H:Hp)(a:Addr)(xs:List V):Prop :=
 Rd H a (.lst xs) \/
  ∃(o:Obj) (its:Array Value) (n:Nat),K.lookup a=some o/\o.cls = .type "list"/\o.dict=none/\o.data = .seq its n/\its.size<=sizeLine/\qBh xs its.toList
def SqT(K:PySem.W.Frag)(H:Hp)(a:Addr)(xs:List V):Prop :=
 Rd H a (.tup xs) \/
  ∃(o:Obj) (its:Array Value) (n:Nat),K.lookup a=some o/\o.cls = .type "tuple"/\o.data = .seq its n/\its.size<=sizeLine/\qBh xs its.toList
def zFi:Value->Option V
 |.none=>some .non
 |.bool b=>some (.bl b)
 |.int i _=>some (.int i)
 |.str x _=>some (.str x)
 |.bytes b _=>some (.byt b)
 |.float b _=>some (.flt b)
 |.ref a=>some (.ref a)
 |.type n=>some (.ty n)
 |_=>none
theorem qB6.abs{x:V}{u:Value}(r:qB6 x u):zFi u=some x:=by
 cases x with
 |non=>cases r;rfl
 |bl _=>cases r;rfl
 |int _=>obtain⟨t,rfl⟩:=r;rfl
 |str _=>obtain⟨t,rfl⟩:=r;rfl
 |byt _=>obtain⟨t,rfl⟩:=r;rfl
 |flt _=>obtain⟨t,rfl⟩:=r;rfl
 |ref _=>cases r;rfl
 |ty _=>cases r;rfl
theorem qB6.inj{x y:V}{u:Value}(r:qB6 x u)(q:qB6 y u):x=y:=hAr (r.abs.symm.trans q.abs)
theorem qBh.inj:∀ {xs ys:List V} {us:List Value},qBh xs us->qBh ys us->xs=ys
 |_,_,_,.nil,.nil=>rfl
 |_,_,_,.cons r t,.cons r' t'=>by rw[r.inj r',qBh.inj t t']
section
variable{X:Cx}{aB:List (Addr×Obj)}{σ:St}{H:Hp}{s:Shared}{a:Addr}{xs ys:List V}
theorem SqL.of{K:PySem.W.Frag}(h:H a=some (.lst xs)):SqL K H a xs:=.inl (.inl h)
theorem SqT.of{K:PySem.W.Frag}(h:H a=some (.tup xs)):SqT K H a xs:=.inl (.inl h)
theorem Inv.list(I:Inv X aB σ H s)(h:SqL X.K H a xs):∃its:List Value,qBh xs its/\PlainL s.heap a its.toArray/\xs.length<=sizeLine:=by
 rcases h with h|⟨o,its,n,hk,hc,hd,hs,hz,r⟩
 ·obtain⟨z,its,n,r,e⟩:=h.ok I.hok;exact⟨its,r,⟨_,n,e,rfl,rfl,rfl⟩,z⟩
 ·refine⟨its.toList,r,⟨o,n,I.kIn a o hk,hc,hd,by simpa using hs⟩,?_⟩;have e:=r.length;simp only[hBo]at e;omega
theorem Inv.tuple(I:Inv X aB σ H s)(h:SqT X.K H a xs):∃its:List Value,qBh xs its/\IsTup s.heap a its.toArray/\xs.length<=sizeLine:=by
 rcases h with h|⟨o,its,n,hk,hc,hs,hz,r⟩
 ·obtain⟨z,its,r,p⟩:=h.ok I.hok;exact⟨its,r,p,z⟩
 ·refine⟨its.toList,r,⟨o,I.kIn a o hk,hc,n,by simpa using hs⟩,?_⟩;have e:=r.length;simp only[hBo]at e;omega
theorem Inv.list_inj(I:Inv X aB σ H s)(h:SqL X.K H a xs)(h':SqL X.K H a ys):xs=ys:=by
 obtain⟨its,r,⟨o,n,e,_,_,d⟩,_⟩:=I.list h;obtain⟨its',r',⟨o',n',e',_,_,d'⟩,_⟩:=I.list h';rw[e]at e';cases e';rw[d]at d';injection d' with d1 _
 have:its=its':=by simpa using congrArg Array.toList d1
 subst this;exact r.inj r'
theorem Inv.tuple_inj(I:Inv X aB σ H s)(h:SqT X.K H a xs)(h':SqT X.K H a ys):xs=ys:=by
 obtain⟨its,r,⟨o,e,_,n,d⟩,_⟩:=I.tuple h;obtain⟨its',r',⟨o',e',_,n',d'⟩,_⟩:=I.tuple h';rw[e]at e';cases e';rw[d]at d';injection d' with d1 _
 have:its=its':=by simpa using congrArg Array.toList d1
 subst this;exact r.inj r'
end
abbrev Cx.wish(X:Cx)(E:Value->Shared->Prop):Cx:={ X with xe:=E }
abbrev Cx.nox(X:Cx):Cx:=X.wish λ_ _=>False
theorem Cx.Ok.wish{X:Cx}(ok:X.Ok)(E:Value->Shared->Prop):(X.wish E).Ok :=
 ⟨ok.mod,ok.kind,ok.glob,ok.blt,ok.above,ok.inj,ok.has,ok.cab,ok.hd,ok.frames,ok.stk,ok.exf,ok.bs,ok.bsz,ok.noex,ok.exfs,ok.funs,ok.frf⟩
theorem Cx.Ok.unwish{X:Cx}{E:Value->Shared->Prop}(ok:(X.wish E).Ok):X.Ok :=
 ⟨ok.mod,ok.kind,ok.glob,ok.blt,ok.above,ok.inj,ok.has,ok.cab,ok.hd,ok.frames,ok.stk,ok.exf,ok.bs,ok.bsz,ok.noex,ok.exfs,ok.funs,ok.frf⟩
section
variable{X:Cx}{aB:List (Addr×Obj)}{σ:St}{H:Hp}{s:Shared}{E:Value->Shared->Prop}
theorem Inv.wish(I:Inv X aB σ H s)(E:Value->Shared->Prop):Inv (X.wish E) aB σ H s:=⟨I.ok.wish E,I.os,I.bare,I.base,I.loc,I.cell,I.free,I.freeC,I.pin,I.hok,I.len⟩
theorem Inv.unwish(I:Inv (X.wish E) aB σ H s):Inv X aB σ H s:=⟨I.ok.unwish,I.os,I.bare,I.base,I.loc,I.cell,I.free,I.freeC,I.pin,I.hok,I.len⟩
theorem SP.unwish{D:Ends}{f:Flow}{s':Shared}(h:SP (X.wish E) aB D f s'):SP X aB D f s':=by
 cases f with
 |next=>obtain⟨σ',H',I,q⟩:=h;exact⟨σ',H',I.unwish,q⟩
 |brk=>obtain⟨σ',H',I,q⟩:=h;exact⟨σ',H',I.unwish,q⟩
 |cont=>obtain⟨σ',H',I,q⟩:=h;exact⟨σ',H',I.unwish,q⟩
 |ret u=>obtain⟨v,σ',H',I,r,q⟩:=h;exact⟨v,σ',H',I.unwish,r,q⟩
theorem PSs.nox{st:List Stmt}{t:TS}(h:PSs X.nox st t):PSs X st t:=λaB s σ H D I hw =>
 hDz (h aB s σ H D (I.wish _) hw) (λ_ _ q=>q.unwish) λ_ _ z=>False.elim z
end
section
variable{X:Cx}{st:Stmt}{rest:List Stmt}{t u:TS}{e:Expr}{te:TE}{pos:Pos}
def zC4:TS:=λD σ H=>D.nx σ H
def qK8(t u:TS):TS:=λD σ H=>t { D with nx:=u D } σ H
theorem qAw:PSs X [] zC4:=λ_ _ σ H _ I h=>hEw ⟨σ,H,I,h⟩
theorem qAb(h1:PS X st t)(h2:PSs X rest u):PSs X (st :: rest) (qK8 t u):=by
 intro aB s σ H D I h;refine wpAny_execs_cons (thn (h1 aB s σ H { D with nx:=u D } I h) λf s1 q=>?_);cases f with
 |next =>
  obtain⟨σ',H',I',q⟩:=q;exact h2 aB s1 σ' H' D I' q
 |ret v=>exact q
 |brk=>exact q
 |cont=>exact q
theorem qAe(h1:PS X st t):PSs X [st] t:=by
 intro aB s σ H D I h;refine wpAny_execs_cons (thn (h1 aB s σ H D I h) λf s1 q=>?_);cases f with
 |next=>exact hEw q
 |ret v=>exact q
 |brk=>exact q
 |cont=>exact q
theorem Inv.quiet{aB:List (Addr×Obj)}{σ:St}{H:Hp}{s:Shared}(I:Inv X aB σ H s):interactive X.env=false:=by simp[interactive,I.ok.kind]
def zC8(te:TE):TS:=λD σ H=>te σ H λ_ H1=>D.nx σ H1
theorem qCa(he:PE X e te)(hs:swapsWith e none pos.line X.env=pure false:=by rfl):PS X (.Expr e pos) (zC8 te):=by
 intro aB s σ H D I h;exact wpAny_Expr_any (thn (he aB s σ H _ I h) λv s1 ⟨x,H1,I1,r1,q1⟩=>⟨σ,H1,I1,q1⟩) I.quiet hs
def zCm(te:TE):TS:=λD σ H=>te σ H D.rt
theorem qAo(he:PE X e te):PS X (.Return (some e) pos) (zCm te):=by
 intro aB s σ H D I h;exact wpAny_Return_some (thn (he aB s σ H _ I h) λv s1 ⟨x,H1,I1,r1,q1⟩=>⟨x,σ,H1,I1,r1,q1⟩)
def zEl(c:TT)(t u:TS):TS:=λD σ H=>c σ H λb H1=>if b=true then t D σ H1 else u D σ H1
theorem qBl{c:Expr}{a b:List Stmt}{tc:TT}(hc:PT X c tc)(ha:PSs X a t)(hb:PSs X b u):PS X (.If c a b pos) (zEl tc t u):=by
 intro aB s σ H D I h;refine wpAny_If (thn (hc aB s σ H _ I h) λd s1 ⟨H1,I1,q1⟩=>?_);cases d with
 |true=>exact ha aB s1 σ H1 D I1 q1
 |false=>exact hb aB s1 σ H1 D I1 q1
def qZz:TS:=λ_ _ _=>False
theorem qQ7{sts:List Stmt}:PSs X sts qZz:=λ_ _ _ _ _ _ h=>h.elim
end
abbrev TG:=V->St->Hp->(St->Hp->Prop)->Prop
abbrev TGs:=List V->St->Hp->(St->Hp->Prop)->Prop
def PG(X:Cx)(target:Expr)(t:TG):Prop :=
 ∀(aB:List (Addr×Obj)) (s:Shared) (σ:St) (H:Hp) (v:V) (u:Value) (Q:St->Hp->Prop),Inv X aB σ H s->qB6 v u->t v σ H Q ->
  wpAny (model X.prog X.w) X.A (assign target X.env u) (λ_ s'=>∃σ' H',Inv X aB σ' H' s'/\Q σ' H') X.xe s
def PGs(X:Cx)(ts:List Expr)(t:TGs):Prop :=
 ∀(aB:List (Addr×Obj)) (s:Shared) (σ:St) (H:Hp) (vs:List V) (us:List Value) (Q:St->Hp->Prop),Inv X aB σ H s->qBh vs us->t vs σ H Q ->
  wpAny (model X.prog X.w) X.A (assignInOrder ((assignEach ts X.env).map (·.2)) us) (λ_ s'=>∃σ' H',Inv X aB σ' H' s'/\Q σ' H') X.xe s
abbrev TIp:=V->V->Hp->VK->Prop
def PIp(X:Cx)(op:Operator)(t:TIp):Prop :=
 ∀(aB:List (Addr×Obj)) (s:Shared) (σ:St) (H:Hp) (x y:V) (v u:Value) (Q:VK),Inv X aB σ H s->qB6 x v->qB6 y u->t x y H Q ->
  wpAny (model X.prog X.w) X.A (inplaceOp op v u) (EP X aB σ Q) X.xe s
section
variable{X:Cx}{pos:Pos}
def qFu(i:Nat):TG:=λv σ H Q=>Q (σ.set i (some v)) H
theorem qAh{i:Nat}{x:Str}(hN:X.N.Nodup)(hi:X.N[i]?=some x)(hx:Loc X.env.scope x)(hf:X.fn x=true\/X.env.scope.names.lookup x=some .local:=by first|exact .inl rfl|exact .inr rfl|assumption):PG X (.Name x pos) (qFu i):=by
 intro aB s σ H v u Q I r h;exact wpAny_assign_Name (qEj I hN hi hx r (λs' I'=>⟨_,H,I',h⟩) hf)
def zDv:TGs:=λvs σ H Q=>vs=[]/\Q σ H
def qPc(t:TG)(u:TGs):TGs:=λvs σ H Q=>∃v r,vs=v :: r/\t v σ H λσ' H'=>u r σ' H' Q
theorem qBj:PGs X [] zDv:=by
 intro aB s σ H vs us Q I r h;obtain⟨e,h⟩:=h;subst e;cases r;exact assignInOrder_nil ⟨σ,H,I,h⟩
theorem qAi{e:Expr}{es:List Expr}{t:TG}{u:TGs}(h1:PG X e t)(h2:PGs X es u)
  (hs:(assignEach (e :: es) X.env).map (·.2)=assign e X.env :: (assignEach es X.env).map (·.2):=by rfl):PGs X (e :: es) (qPc t u):=by
 intro aB s σ H vs us Q I r h;obtain⟨v,vr,e1,h⟩:=h;subst e1;cases r with
 |cons r rr =>
  rw[hs];refine assignInOrder_cons (thn (h1 aB s σ H _ _ _ I r h) λ_ s1 ⟨σ1,H1,I1,q1⟩=>?_);exact h2 aB s1 σ1 H1 _ _ Q I1 rr q1
def qUp(K:PySem.W.Frag)(n:Nat)(t:TGs):TG:=λv σ H Q=>∃a xs,v = .ref a/\SqT K H a xs/\xs.length=n/\t xs σ H Q
theorem qCe{es:List Expr}{k:Nat}{t:TGs}{n:Nat}(hc:X.calm=true)(h:PGs X es t)
  (hn:(assignEach es X.env).length=n:=by rfl) (hst:(assignEach es X.env).findIdx? (·.1)=none:=by rfl):PG X (.Tuple es k pos) (qUp X.K n t):=by
 intro aB s σ H v u Q I r hw;obtain⟨a,xs,e1,hq,hl,hw⟩:=hw;subst e1;cases r;obtain⟨its,rv,ht,hz⟩:=I.tuple hq;refine assign_Tuple_tuple (I.ok.hd hc) ht (by simp[hn,<-hl,rv.length]) hst λh' hx=>?_
 have I1:Inv X aB σ H { s with heap:=h' }:=I.kept (t':=s.toks) λb o e=>hx b o (hAi (Heap.lt_size e)) e
 exact h aB _ σ H xs _ Q I1 (by simpa using rv) hw
def qZh(te:TE)(g:TG):TS:=λD σ H=>te σ H λx H1=>g x σ H1 D.nx
theorem qGl{tg e:Expr}{te:TE}{g:TG}(he:PE X e te)(hg:PG X tg g)(hs:swapsWithSole [tg] e pos.line X.env=pure false:=by rfl)(hw:swappedStores [tg] e X.env=pure none:=by rfl)
  (h1:(assignEach [tg] X.env).map (·.2)=[assign tg X.env]:=by rfl):PS X (.Assign [tg] e pos) (qZh te g):=by
 intro aB s σ H D I h;refine wpAny_Assign_stores (thn (he aB s σ H _ I h) λv s1 ⟨x,H1,I1,r1,q1⟩=>?_) hs hw;rw[h1];exact thn (hg aB s1 σ H1 x v _ I1 r1 q1) λ_ s2 q=>q
theorem qAn{i:Nat}{x:Str}{e:Expr}{te:TE}{pos':Pos}(hN:X.N.Nodup)(hi:X.N[i]?=some x)(hx:Loc X.env.scope x)(he:PE X e te)(hs:swapsWith e (some (.Name x pos')) pos.line X.env=pure false:=by rfl)(hf:X.fn x=true\/X.env.scope.names.lookup x=some .local:=by first|exact .inl rfl|exact .inr rfl|assumption) :
  PS X (.Assign [.Name x pos'] e pos) (qZh te (qFu i)):=by
 intro aB s σ H D I h;refine wpAny_Assign_Name (thn (he aB s σ H _ I h) λv s1 ⟨y,H1,I1,r1,q1⟩=>?_) hs;exact qEj I1 hN hi hx r1 (λs2 I2=>⟨_,H1,I2,q1⟩) hf
def zEq(i:Nat)(te:TE)(ti:TIp):TS:=λD σ H=>∃x,σ[i]?=some (some x)/\te σ H λy H1=>ti x y H1 λz H2=>D.nx (σ.set i (some z)) H2
theorem zAz{i:Nat}{x:Str}{e:Expr}{te:TE}{op:Operator}{ti:TIp}{pos':Pos}(hN:X.N.Nodup)(hi:X.N[i]?=some x)(hx:Loc X.env.scope x)(he:PE X e te)(ho:PIp X op ti)(hf:X.fn x=true\/X.env.scope.names.lookup x=some .local:=by first|exact .inl rfl|exact .inr rfl|assumption) :
  PS X (.AugAssign (.Name x pos') op e pos) (zEq i te ti):=by
 intro aB s σ H D I h;obtain⟨v,e1,h⟩:=h;obtain⟨m,hn,hl⟩:=I.loc;have vis:Vis X.env.scope x:=by rcases hx with k|k;exact .inl k;exact .inr (.inl k)
 obtain⟨u,r,l⟩:=hl i x v hi e1 vis;refine wpAny_AugAssign_Name ?_;have go:wpAny (model X.prog X.w) X.A (eval e X.env) (λw s₂=>wpAny (model X.prog X.w) X.A (inplaceOp op u w) (λr s₃=>wpAny (model X.prog X.w) X.A (storeName X.env x r) (λ_=>SP X aB D .next) X.xe s₃) X.xe s₂) X.xe s:=by
  refine thn (he aB s σ H _ I h) λw s1 ⟨y,H1,I1,r1,q1⟩=>?_
  refine thn (ho aB s1 σ H1 v y u w _ I1 r r1 q1) λz s2 ⟨zv,H2,I2,r2,q2⟩=>?_
  exact qEj I2 hN hi hx r2 (λs3 I3=>⟨_,H2,I3,q2⟩) hf
 rcases l with ⟨hk,hm⟩|⟨hk,c,hc,hcell⟩
 ·exact wpAny_loadName_local I.ok.kind hk hn hm go
 ·rcases hk with hk|hk
  ·exact wpAny_loadName_cell I.ok.kind hk hc hcell go
  ·rcases hx with k|k
   ·have:X.env.scope.names.lookup x=some .free:=hk;rw[k]at this;cases this
   ·have:X.env.scope.names.lookup x=some .free:=hk;rw[k]at this;cases this
def ipI(f:Int->Int->Int):TIp:=λx y H Q=>∃i j,x = .int i/\y = .int j/\Q (.int (f i j)) H
theorem zBw:PIp X .Add (ipI λi j=>i+j):=by
 intro aB s σ H x y v u Q I r1 r2 h;obtain⟨i,j,e1,e2,q⟩:=h;subst e1;subst e2;obtain⟨t,rfl⟩:=r1;obtain⟨t',rfl⟩:=r2;exact iadd_int ⟨.int _,H,I.tok _,⟨_,rfl⟩,q⟩
end
structure It where
 go:Nat->Hp->Prop
 yld:Nat->Hp->V->Hp->Prop
 stop:Nat->Hp->Prop
def qJg(X:Cx)(aB:List (Addr×Obj))(H:Hp)(b:Addr):Prop :=
 H b=none/\b≠X.env.locals/\b∉X.fs/\(b∈X.ex\/X.s₀.heap.objs.size<=b)/\(∀x c,X.env.cells.lookup x=some c->c≠b)/\∀p∈X.pn++aB,p.1≠b
theorem Inv.fpOk{X:Cx}{aB:List (Addr×Obj)}{σ:St}{H H':Hp}{s:Shared}{b:Addr}(I:Inv X aB σ H s)(hb:s.heap.objs.size<=b)(hn:H' b=none):qJg X aB H' b:=by
 refine⟨hn,hCw (hAl I.lt hb),I.nofs hb,.inr (hAx I.sz hb),λx c e z=>?_,λp hp z=>?_⟩
 ·obtain⟨v,q⟩:=I.cell x c e;exact absurd (hAl q.lt (by rw[z];exact hb)) (hBe _)
 ·exact absurd (hAl (Heap.lt_size (I.pin p hp).1) (by rw[z];exact hb)) (hBe _)
structure Turn(P:Program)(w:World)(K:PySem.W.Frag)(tg:Expr)(J:It)(fp:List Addr)(it:Addr)(tn:Nat->Heap->Prop)(c:Cx->Prop:=λX=>X.calm=true):Prop where
 mem:it∈fp
 obj:∀i h,tn i h->∀b∈fp,∃o,h.get? b=some o/\∀v,o.data≠.cell v
 keep:∀i h h',tn i h->(∀b∈fp,∀o,h.get? b=some o->h'.get? b=some o)->tn i h'
 item:∀(X:Cx),X.prog=P->X.w=w->X.K=K->c X->∀(i:Nat) (aB:List (Addr×Obj)) (s:Shared) (σ:St) (H:Hp) (E:Value->Shared->Prop),Inv X aB σ H s->(∀b∈fp,qJg X aB H b)->tn i s.heap->J.go i H ->
  wpAny (model P w) X.A (pyNext (.ref it)) (λr s1=>∃u,r=some u /\
   wpAny (model P w) X.A (letOwnedTupleGo tg (.ref it) u) (λ_ s2=>∃x H',Inv X aB σ H' s2/\qB6 x u/\J.yld i H x H'/\tn (i+1) s2.heap/\∀b∈fp,H' b=none) E s1) E s
 done:∀(X:Cx),X.prog=P->X.w=w->X.K=K->c X->∀(i:Nat) (aB:List (Addr×Obj)) (s:Shared) (σ:St) (H:Hp) (E:Value->Shared->Prop),Inv X aB σ H s->(∀b∈fp,qJg X aB H b)->tn i s.heap->J.stop i H ->
  wpAny (model P w) X.A (pyNext (.ref it)) (λr s1=>r=none/\Inv X aB σ H s1) E s
 self:∀(A:Around) (i:Nat) (s:Shared) (Q:Value->Shared->Prop) (E:Value->Shared->Prop),tn i s.heap->Q (.ref it) s->wpAny (model P w) A (pyIter (.ref it)) Q E s
abbrev TI:=St->Hp->(It->Hp->Prop)->Prop
def PIE(X:Cx)(aB:List (Addr×Obj))(σ:St)(tg:Expr)(R:It->Hp->Prop)(itv:Value)(s2:Shared):Prop :=
 ∃(it:Addr) (fp:List Addr) (tn:Nat->Heap->Prop) (J:It) (H':Hp),itv = .ref it/\Inv X aB σ H' s2/\Turn X.prog X.w X.K tg J fp it tn/\tn 0 s2.heap/\(∀b∈fp,qJg X aB H' b)/\R J H'
def PI(X:Cx)(tg iter:Expr)(wi:TI):Prop :=
 ∀(aB:List (Addr×Obj)) (s:Shared) (σ:St) (H:Hp) (R:It->Hp->Prop),Inv X aB σ H s->wi σ H R ->
  wpAny (model X.prog X.w) X.A (eval iter X.env) (λv s1=>wpAny (model X.prog X.w) X.A (pyIter v) (PIE X aB σ tg R) X.xe s1) X.xe s
theorem qUl{M:Model}{A:Around}{E:Value->Shared->Prop}{s:Shared}{tg:Expr}{it:Addr}{u:Value}{o:Obj}{n:String}{vs:Array Value}{Q:Unit->Shared->Prop}(ho:s.heap.get? it=some o)(hc:o.cls = .type n)(hd:o.data = .fields vs)
  (hn:["enumerate","zip","dict_itemiterator","dict_reverseitemiterator","odict_iterator","itertools.zip_longest","itertools.pairwise"].contains n=false) (hQ:Q () s):wpAny M A (letOwnedTupleGo tg (.ref it) u) Q E s:=by
 unfold letOwnedTupleGo;cases tg <;> first
  |exact hDq hQ
  |(cases u <;> first
    |exact hDq hQ
    |(refine hDo (wpAny_load ho ?_);rw[hc,hd];show wpAny M A (if (["enumerate","zip","dict_itemiterator","dict_reverseitemiterator","odict_iterator","itertools.zip_longest","itertools.pairwise"].contains n && vs[0]? == some (rawInt _))=true then _ else _) Q E s;rw[hDt (by intro h;rw[hn,Bool.false_and]at h;cases h)];exact hDq hQ))
def Itl(K:PySem.W.Frag)(a:Addr):It :=
 ⟨λi H=>∃xs x,SqL K H a xs/\xs[i]?=some x,λi H x H'=>H'=H/\∀xs,SqL K H a xs->xs[i]?=some x,λi H=>∃xs,SqL K H a xs/\xs.length<=i⟩
def Itt(K:PySem.W.Frag)(a:Addr):It :=
 ⟨λi H=>∃xs x,SqT K H a xs/\xs[i]?=some x,λi H x H'=>H'=H/\∀xs,SqT K H a xs->xs[i]?=some x,λi H=>∃xs,SqT K H a xs/\xs.length<=i⟩
def Itr(lo:Int)(n:Nat):It:=⟨λi _=>i<n,λi H x H'=>H'=H/\x = .int (lo+i),λi _=>n<=i⟩
theorem qPu{P:Program}{w:World}{K:PySem.W.Frag}{tg:Expr}(a it:Addr):Turn P w K tg (Itl K a) [it] it (λi h=>h.IsListIter it a i) where
 mem:=by simp
 obj:=λi h st b hb=>by
  have e:b=it:=by simpa using hb
  subst e;obtain⟨o,e,c,d⟩:=st;exact⟨o,e,λv z=>by rw[d]at z;cases z⟩
 keep:=λi h h' st k=>st.at λo e=>k it (by simp) o e
 item:=by
  intro X hP hw hK hc i aB s σ H E I hf st hg;subst hP hw hK;obtain⟨xs,x,hq,hx⟩:=hg;obtain⟨its,rv,p,hz⟩:=I.list hq;obtain⟨u,hu,ru⟩:=rv.get hx;obtain⟨f0,f1,f2,f3,f4,f5⟩:=hf it (by simp);refine wpAny_pyNext_list_item st p.isList (x:=u) (by simpa using hu) λh' st' sb=>?_
  have I1:Inv X aB σ H { s with heap:=h' }:=I.turned (t':=s.toks) (λb o hb e=>(sb.2 b hb).trans e) f0 f1 f3 f4 f5;obtain⟨o,e,c,d⟩:=id st';exact⟨u,rfl,qUl (s:={ s with heap:=h' }) e c d (by decide) ⟨x,H,I1,ru,⟨rfl,λys hy=>by rw[I.list_inj hy hq];exact hx⟩,st',λb hb=>(hf b hb).1⟩⟩
 done:=by
  intro X hP hw hK hc i aB s σ H E I hf st hg;subst hP hw hK;obtain⟨xs,hq,hx⟩:=hg;obtain⟨its,rv,p,hz⟩:=I.list hq;obtain⟨f0,f1,f2,f3,f4,f5⟩:=hf it (by simp);have hl:=rv.length;exact wpAny_pyNext_list_end (I.ok.hd hc) st p.isList (by simp;omega) λh' eb=>⟨rfl,I.turned (t':=s.toks) (λb o hb e=>eb b o hb e) f0 f1 f3 f4 f5⟩
 self:=λ_ _ _ _ _ st h=>wpAny_pyIter_listiter st h
theorem qOe{P:Program}{w:World}{K:PySem.W.Frag}{tg:Expr}(a it:Addr):Turn P w K tg (Itt K a) [it] it (λi h=>h.IsTupleIter it a i) where
 mem:=by simp
 obj:=λi h st b hb=>by
  have e:b=it:=by simpa using hb
  subst e;obtain⟨o,e,c,d⟩:=st;exact⟨o,e,λv z=>by rw[d]at z;cases z⟩
 keep:=λi h h' st k=>st.at λo e=>k it (by simp) o e
 item:=by
  intro X hP hw hK hc i aB s σ H E I hf st hg;subst hP hw hK;obtain⟨xs,x,hq,hx⟩:=hg;obtain⟨its,rv,p,hz⟩:=I.tuple hq;obtain⟨u,hu,ru⟩:=rv.get hx;obtain⟨f0,f1,f2,f3,f4,f5⟩:=hf it (by simp);refine wpAny_pyNext_tuple_item st (show s.heap.IsTuple a its.toArray from p) (x:=u) (by simpa using hu) λh' st' sb=>?_
  have I1:Inv X aB σ H { s with heap:=h' }:=I.turned (t':=s.toks) (λb o hb e=>(sb.2 b hb).trans e) f0 f1 f3 f4 f5;obtain⟨o,e,c,d⟩:=id st';exact⟨u,rfl,qUl (s:={ s with heap:=h' }) e c d (by decide) ⟨x,H,I1,ru,⟨rfl,λys hy=>by rw[I.tuple_inj hy hq];exact hx⟩,st',λb hb=>(hf b hb).1⟩⟩
 done:=by
  intro X hP hw hK hc i aB s σ H E I hf st hg;subst hP hw hK;obtain⟨xs,hq,hx⟩:=hg;obtain⟨its,rv,p,hz⟩:=I.tuple hq;obtain⟨f0,f1,f2,f3,f4,f5⟩:=hf it (by simp);have hl:=rv.length;exact wpAny_pyNext_tuple_end (I.ok.hd hc) st (show s.heap.IsTuple a its.toArray from p) (by simp;omega) λh' eb=>⟨rfl,I.turned (t':=s.toks) (λb o hb e=>eb b o hb e) f0 f1 f3 f4 f5⟩
 self:=λ_ _ _ _ _ st h=>wpAny_pyIter_tupleiter st h
theorem qOf{P:Program}{w:World}{K:PySem.W.Frag}{tg:Expr}(it:Addr)(lo:Int)(n:Nat):Turn P w K tg (Itr lo n) [it] it (λi h=>IsRangeIter h it (lo+(i:Nat)*1) ((n:Int)-(i:Nat)) 1) where
 mem:=by simp
 obj:=λi h st b hb=>by
  have e:b=it:=by simpa using hb
  subst e;exact⟨_,st,λv z=>by
   have z':Data.fields _=Data.cell v:=z;cases z'⟩
 keep:=λi h h' st k=>k it (by simp) _ st
 item:=by
  intro X hP hw hK hc i aB s σ H E I hf st hg;subst hP hw hK;obtain⟨f0,f1,f2,f3,f4,f5⟩:=hf it (by simp);have W:=Walks.range (prog:=X.prog) (w:=X.w) (I.ok.hd hc) it lo 1 n;refine W.item i s _ _ hg st λv h' tk hv st' kk=>?_
  obtain⟨t,rfl⟩:=hv;have I1:Inv X aB σ H { s with heap:=h',toks:=tk }:=I.turned (λb o hb e=>kk b o (by simpa using hb) e) f0 f1 f3 f4 f5;refine⟨_,rfl,qUl (s:={ s with heap:=h',toks:=tk }) (n:="range_iterator") st' rfl rfl (by decide) ⟨.int (lo+i),H,I1,⟨t,?_⟩,⟨rfl,rfl⟩,st',λb hb=>(hf b hb).1⟩⟩;rw[Int.mul_one]
 done:=by
  intro X hP hw hK hc i aB s σ H E I hf st hg;subst hP hw hK;obtain⟨f0,f1,f2,f3,f4,f5⟩:=hf it (by simp);exact wpAny_pyNext_range_end (I.ok.hd hc) st (by have:n<=i:=hg;omega) λh' eb=>⟨rfl,I.turned (t':=s.toks) (λb o hb e=>eb b o hb e) f0 f1 f3 f4 f5⟩
 self:=λ_ _ _ _ _ st h=>wpAny_pyIter_rangeiter st h
section
variable{X:Cx}{tg:Expr}
def zDt(K:PySem.W.Frag)(tl:TE):TI:=λσ H R=>tl σ H λx H1=>∃a,x = .ref a/\(∃xs,SqL K H1 a xs)/\R (Itl K a) H1
def zEe(K:PySem.W.Frag)(tl:TE):TI:=λσ H R=>tl σ H λx H1=>∃a,x = .ref a/\(∃xs,SqT K H1 a xs)/\R (Itt K a) H1
theorem qAx{l:Expr}{tl:TE}(hl:PE X l tl):PI X tg l (zDt X.K tl):=by
 intro aB s σ H R I h;refine thn (hl aB s σ H _ I h) λv s1 ⟨x,H1,I1,r1,q1⟩=>?_
 obtain⟨a,e,⟨xs,hq⟩,q⟩:=q1;subst e;cases r1;obtain⟨its,rv,p,hz⟩:=I1.list hq;refine hEa p.isList ?_;refine⟨s1.heap.objs.size,[s1.heap.objs.size],_,_,H1,rfl,I1.kept (t':=s1.toks) λb o e=>Heap.get?_push_of_some _ e,qPu a _,⟨_,Heap.get?_push_size _ rfl,rfl,rfl⟩,λb hb=>?_,q⟩;have e:b=s1.heap.objs.size:=by simpa using hb
 subst e;exact I1.fpOk (hA3 _) (I1.hok.fresh (hA3 _))
theorem qJv{l:Expr}{tl:TE}(hl:PE X l tl):PI X tg l (zEe X.K tl):=by
 intro aB s σ H R I h;refine thn (hl aB s σ H _ I h) λv s1 ⟨x,H1,I1,r1,q1⟩=>?_
 obtain⟨a,e,⟨xs,hq⟩,q⟩:=q1;subst e;cases r1;obtain⟨its,rv,p,hz⟩:=I1.tuple hq;refine hEm (show s1.heap.IsTuple a its.toArray from p) ?_;refine⟨s1.heap.objs.size,[s1.heap.objs.size],_,_,H1,rfl,I1.kept (t':=s1.toks) λb o e=>Heap.get?_push_of_some _ e,qOe a _,⟨_,Heap.get?_push_size _ rfl,rfl,rfl⟩,λb hb=>?_,q⟩;have e:b=s1.heap.objs.size:=by simpa using hb
 subst e;exact I1.fpOk (hA3 _) (I1.hok.fresh (hA3 _))
theorem qTm{aB:List (Addr×Obj)}{σ:St}{H:Hp}{s:Shared}{R:It->Hp->Prop}{E:Value->Shared->Prop}{lo hi:Int}{t u v:Tok}{tk:Nat}(I:Inv X aB σ H s)(h1:-(2^62)<=lo)(h2:lo<2^62)(h3:-(2^62)<=hi)(h4:hi<2^62)
  (q:R (Itr lo (hi-lo).toNat) H):wpAny (model X.prog X.w) X.A (pyIter (.ref s.heap.objs.size)) (PIE X aB σ tg R) E { s with heap:=s.heap.push { cls:=.type "range",data:=.fields #[.int lo t,.int hi u,.int 1 v] },toks:=tk }:=by
 refine wpAny_pyIter_range (IsRange.new ..) (small_one h1 h2 h3 h4) ?_;have I1:Inv X aB σ H { s with heap:=s.heap.push { cls:=.type "range",data:=.fields #[.int lo t,.int hi u,.int 1 v] },toks:=tk }:=I.kept λb o e=>Heap.get?_push_of_some _ e
 refine⟨(s.heap.push { cls:=.type "range",data:=.fields #[.int lo t,.int hi u,.int 1 v] }).objs.size,[(s.heap.push { cls:=.type "range",data:=.fields #[.int lo t,.int hi u,.int 1 v] }).objs.size],_,_,H,rfl,
  I1.kept (t':=tk) λb o e=>Heap.get?_push_of_some _ e,qOf _ lo (hi-lo).toNat,?_,λb hb=>?_,q⟩
 ·have e1:lo+((0:Nat):Int)*1=lo:=by simp
  have e2:(((hi-lo).toNat:Nat):Int)-((0:Nat):Int)=Builtin.Range.rangeSize lo hi 1:=by rw[rangeSize_one];split <;> omega
  show IsRangeIter _ _ (lo+((0:Nat):Int)*1) ((((hi-lo).toNat:Nat):Int)-((0:Nat):Int)) 1;rw[e1,e2];exact Heap.get?_push_size _ rfl
 ·have e:b=(s.heap.push { cls:=.type "range",data:=.fields #[.int lo t,.int hi u,.int 1 v] }).objs.size:=by simpa using hb
  subst e;exact I1.fpOk (hA3 _) (I1.hok.fresh (hA3 _))
def zDs(ta:TA):TI:=λσ H R=>ta σ H λvs H1=>∃j:Int,vs=[.int j]/\-(2^62)<=j/\j<2^62/\R (Itr 0 j.toNat) H1
theorem qCq{a:Expr}{ta:TA}{p pos:Pos}(hg:Gl X "range")(hm:X.mg "range"=none)(ha:PA X [a] ta)(hs:starEach [a] X.env=[(false,eval a X.env)]:=by rfl):PI X tg (.Call (.Name "range" p) [a] [] pos) (zDs ta):=by
 intro aB s σ H R I h;refine Call_ (qFn I hg hm boot_range (hC7 (thn (ha pos aB s σ H _ I h) λus s1 ⟨vs,H1,I1,r1,q1⟩=>?_) hs rfl));obtain⟨j,e,q1,q2,q⟩:=q1;subst e;cases r1 with
 |cons r rr =>
  cases rr;obtain⟨t,rfl⟩:=r;exact call_range_1 (qTm I1 (by omega) (by omega) q1 q2 (by simpa using q))
def zEm(wi:TI)(g:TG)(tb:TS):TS:=λD σ H=>wi σ H λJ H1=>∃W:Nat->Nat->St->Hp->Prop,(∃m,W 0 m σ H1)/\∀i m σ H,W i m σ H ->
 (J.stop i H/\D.nx σ H)\/(J.go i H/\∃N:St->Hp->Prop,(∀σ' H',N σ' H'->∃m',m'<m/\W (i+1) m' σ' H')/\∀x H',J.yld i H x H'->g x σ H' λσ2 H2=>tb { D with nx:=N,ct:=N,bk:=D.nx } σ2 H2)
def pinsAt(fp:List Addr)(h:Heap):List (Addr×Obj):=fp.filterMap λb=>(h.get? b).map λo=>(b,o)
theorem qB5{fp:List Addr}{h:Heap}{b:Addr}{o:Obj}(hb:b∈fp)(e:h.get? b=some o):(b,o)∈pinsAt fp h:=hD5.mpr ⟨b,hb,by rw[e];rfl⟩
theorem qJ5{fp:List Addr}{h:Heap}{p:Addr×Obj}(hp:p∈pinsAt fp h):p.1∈fp/\h.get? p.1=some p.2:=by
 obtain⟨b,hb,e⟩:=hD5.mp hp;cases q:h.get? b with
 |none=>rw[q]at e;cases e
 |some o =>
  rw[q]at e;have e':(b,o)=p:=hAr e;subst e';exact⟨hb,q⟩
theorem Inv.pinned{aB:List (Addr×Obj)}{σ:St}{H:Hp}{s:Shared}{fp:List Addr}(I:Inv X aB σ H s)(hf:∀b∈fp,qJg X aB H b)(ho:∀b∈fp,∃o,s.heap.get? b=some o/\∀v,o.data≠.cell v):Inv X (aB++pinsAt fp s.heap) σ H s :=
 I.pins_of λp hp=>(hAh.mp hp).elim (λz=>I.pin p (hAb _ z)) λz=>by
  obtain⟨hb,e⟩:=qJ5 z;obtain⟨f0,f1,f2,_⟩:=hf p.1 hb;obtain⟨o,e',d⟩:=ho p.1 hb;rw[e]at e';cases e';exact⟨e,f0,f1,f2,d⟩
theorem Inv.unpinned{aB pl:List (Addr×Obj)}{σ:St}{H:Hp}{s:Shared}(I:Inv X (aB++pl) σ H s):Inv X aB σ H s:=I.pins_of λp hp=>I.pin p (hAb _ (hAk _ hp))
theorem qCp{iter:Expr}{body:List Stmt}{wi:TI}{g:TG}{tb:TS}{pos:Pos}(hp:PassesOwn (model X.prog X.w) X.A X.env X.xe)(hc:X.calm=true)(hi:PI X tg iter wi)(hg:PG X tg g)(hb:PSs X body tb)
  (hs:∀x,foldedSetIterable iter X.env x=pure x:=by intro _;rfl):PS X (.For tg iter body [] pos) (zEm wi g tb):=by
 intro aB s σ H D I h;refine wpAny_For (thn (hi aB s σ H _ I h) λv s1 h1=>thn h1 λitv s2 h2=>?_) hs;obtain⟨it,fp,tn,J,H2,e,I2,T,st2,f2,W,⟨m0,w0⟩,turn⟩:=h2;subst e;have stat:∀ {H':Hp},(∀b∈fp,H' b=none)->∀b∈fp,qJg X aB H' b:=λhn b hb=>⟨hn b hb,(f2 b hb).2⟩
 refine codeAny_forLoop_any (λn s'=>∃i σ' H',Inv X aB σ' H' s'/\tn i s'.heap/\(∀b∈fp,H' b=none)/\W i n σ' H') ?_ m0 ⟨0,σ,H2,I2,st2,λb hb=>(f2 b hb).1,w0⟩;rintro n s3 ⟨i,σ3,H3,I3,st3,fr3,w3⟩;rcases turn i n σ3 H3 w3 with ⟨stop,qn⟩|⟨go,N,hN,step⟩
 ·refine hEn hp (thn (T.done X rfl rfl rfl hc i aB s3 σ3 H3 X.xe I3 (stat fr3) st3 stop) λr s4 ⟨hr,I4⟩=>?_);subst hr;exact hEw ⟨σ3,H3,I4,qn⟩
 ·refine hEn hp (thn (T.item X rfl rfl rfl hc i aB s3 σ3 H3 X.xe I3 (stat fr3) st3 go) λr s4 ⟨u,hr,h4⟩=>?_);subst hr;refine hEn hp (thn h4 λ_ s5 ⟨x,H5,I5,r5,y5,st5,fr5⟩=>?_);have I5':=I5.pinned (stat fr5) (T.obj _ _ st5);refine hEn hp (thn (hg _ s5 σ3 H5 x u _ I5' r5 (step x H5 y5)) λ_ s6 ⟨σ6,H6,I6,q6⟩=>?_);refine hEn hp (thn (hb _ s6 σ6 H6 _ I6 q6) λf s7 q7=>?_);have again:∀ {σ7:St} {H7:Hp},Inv X (aB++pinsAt fp s5.heap) σ7 H7 s7->N σ7 H7->∃m,m<n/\∃i σ' H',Inv X aB σ' H' s7/\tn i s7.heap/\(∀b∈fp,H' b=none)/\W i m σ' H':=λ{σ7 H7} I7 n7=>by
   obtain⟨m',hm,w7⟩:=hN σ7 H7 n7;refine⟨m',hm,i+1,σ7,H7,I7.unpinned,T.keep _ _ _ st5 λb hb o e=>(I7.pin (b,o) (hAb _ (hAb _ (qB5 hb e)))).1,λb hb=>?_,w7⟩;obtain⟨o,e,d⟩:=T.obj _ _ st5 b hb;exact(I7.pin (b,o) (hAb _ (hAb _ (qB5 hb e)))).2.1
  cases f with
  |next=>obtain⟨σ7,H7,I7,n7⟩:=q7;exact again I7 n7
  |cont=>obtain⟨σ7,H7,I7,n7⟩:=q7;exact again I7 n7
  |brk=>obtain⟨σ7,H7,I7,q7⟩:=q7;exact⟨σ7,H7,I7.unpinned,q7⟩
  |ret v=>obtain⟨x7,σ7,H7,I7,r7,q7⟩:=q7;exact⟨x7,σ7,H7,I7.unpinned,r7,q7⟩
end
theorem qCx{K:PySem.W.Frag}{a:Addr}{xs:List V}{g:TG}{tb:TS}{D:Ends}{σ:St}{H:Hp}(Pv:Nat->St->Hp->Prop)(h0:Pv 0 σ H)(hl:∀i σ H,i<=xs.length->Pv i σ H->SqL K H a xs)
  (hs:∀i x σ H,xs[i]?=some x->Pv i σ H->g x σ H λσ2 H2=>tb { D with nx:=Pv (i+1),ct:=Pv (i+1),bk:=D.nx } σ2 H2) (hd:∀σ H,Pv xs.length σ H->D.nx σ H) :
  ∃W:Nat->Nat->St->Hp->Prop,(∃m,W 0 m σ H)/\∀i m σ H,W i m σ H ->
   ((Itl K a).stop i H/\D.nx σ H)\/((Itl K a).go i H/\∃N:St->Hp->Prop,(∀σ' H',N σ' H'->∃m',m'<m/\W (i+1) m' σ' H')/\∀x H',(Itl K a).yld i H x H'->g x σ H' λσ2 H2=>tb { D with nx:=N,ct:=N,bk:=D.nx } σ2 H2):=by
 refine⟨λi m σ H=>m=xs.length-i/\i<=xs.length/\Pv i σ H,⟨xs.length,by simp,hAq _,h0⟩,?_⟩;rintro i m σ H ⟨rfl,hi,p⟩;have q:=hl i σ H hi p;by_cases hlt:i<xs.length
 ·refine .inr ⟨⟨xs,xs[i],q,by simp[hlt]⟩,Pv (i+1),λσ' H' p'=>⟨xs.length-(i+1),by omega,rfl,hlt,p'⟩,λx H' y=>?_⟩;obtain⟨e,y⟩:=y;subst e;exact hs i x σ _ (y xs q) p
 ·have e:i=xs.length:=by omega
  subst e;exact .inl ⟨⟨xs,q,hA3 _⟩,hd σ H p⟩
theorem qDr{lo:Int}{n:Nat}{g:TG}{tb:TS}{D:Ends}{σ:St}{H:Hp}(Pv:Nat->St->Hp->Prop)(h0:Pv 0 σ H)
  (hs:∀i σ H,i<n->Pv i σ H->g (.int (lo+i)) σ H λσ2 H2=>tb { D with nx:=Pv (i+1),ct:=Pv (i+1),bk:=D.nx } σ2 H2) (hd:∀σ H,Pv n σ H->D.nx σ H) :
  ∃W:Nat->Nat->St->Hp->Prop,(∃m,W 0 m σ H)/\∀i m σ H,W i m σ H ->
   ((Itr lo n).stop i H/\D.nx σ H)\/((Itr lo n).go i H/\∃N:St->Hp->Prop,(∀σ' H',N σ' H'->∃m',m'<m/\W (i+1) m' σ' H')/\∀x H',(Itr lo n).yld i H x H'->g x σ H' λσ2 H2=>tb { D with nx:=N,ct:=N,bk:=D.nx } σ2 H2):=by
 refine⟨λi m σ H=>m=n-i/\i<=n/\Pv i σ H,⟨n,by simp,hAq _,h0⟩,?_⟩;rintro i m σ H ⟨rfl,hi,p⟩;by_cases hlt:i<n
 ·refine .inr ⟨hlt,Pv (i+1),λσ' H' p'=>⟨n-(i+1),by omega,rfl,hlt,p'⟩,λx H' y=>?_⟩;obtain⟨e,y⟩:=y;subst e y;exact hs i σ _ hlt p
 ·have e:i=n:=by omega
  subst e;exact .inl ⟨hA3 _,hd σ H p⟩
abbrev R2:=V->V->Hp->VK->Prop
def OpR(X:Cx)(f:Value->Value->Sem Value)(r:R2):Prop :=
 ∀(aB:List (Addr×Obj)) (s:Shared) (σ:St) (H:Hp) (x y:V) (v u:Value) (Q:VK),Inv X aB σ H s->qB6 x v->qB6 y u->r x y H Q ->
  wpAny (model X.prog X.w) X.A (f v u) (EP X aB σ Q) X.xe s
def UnR(X:Cx)(f:Value->Sem Value)(r:V->Hp->VK->Prop):Prop :=
 ∀(aB:List (Addr×Obj)) (s:Shared) (σ:St) (H:Hp) (x:V) (v:Value) (Q:VK),Inv X aB σ H s->qB6 x v->r x H Q ->
  wpAny (model X.prog X.w) X.A (f v) (EP X aB σ Q) X.xe s
def qB2(X:Cx)(f:Value)(r:List V->Hp->VK->Prop):Prop :=
 ∀(aB:List (Addr×Obj)) (s:Shared) (σ:St) (H:Hp) (xs:List V) (us:List Value) (Q:VK),Inv X aB σ H s->qBh xs us->r xs H Q ->
  wpAny (model X.prog X.w) X.A (call f us) (EP X aB σ Q) X.xe s
def zFj(X:Cx)(r:V->Hp->(Bool->Hp->Prop)->Prop):Prop :=
 ∀(aB:List (Addr×Obj)) (s:Shared) (σ:St) (H:Hp) (x:V) (v:Value) (Q:Bool->Hp->Prop),Inv X aB σ H s->qB6 x v->r x H Q ->
  wpAny (model X.prog X.w) X.A (truthy v) (TP X aB σ Q) X.xe s
def tOp(r:R2)(ta tb:TE):TE:=λσ H Q=>ta σ H λx H1=>tb σ H1 λy H2=>r x y H2 Q
def tUn(r:V->Hp->VK->Prop)(ta:TE):TE:=λσ H Q=>ta σ H λx H1=>r x H1 Q
def rI(C:Int->Int->Prop)(g:Int->Int->V):R2:=λx y H Q=>∃i j,x = .int i/\y = .int j/\C i j/\Q (g i j) H
def rI0(g:Int->Int->V):R2:=λx y H Q=>∃i j,x = .int i/\y = .int j/\Q (g i j) H
def rU(g:Int->V):V->Hp->VK->Prop:=λx H Q=>∃i,x = .int i/\Q (g i) H
section
variable{X:Cx}{a b c:Expr}{ta tb tc:TE}{pos:Pos}
theorem zDz(ha:PE X a ta)(hb:PE X b tb){aB:List (Addr×Obj)}{s:Shared}{σ:St}{H:Hp}{R:V->V->Hp->Prop}(I:Inv X aB σ H s)
  (h:ta σ H λx H1=>tb σ H1 λy H2=>R x y H2) {Q:Value->Shared->Prop} {f:Value->Value->Sem Value}
  (hf:∀v u s2 x y H2,Inv X aB σ H2 s2->qB6 x v->qB6 y u->R x y H2->wpAny (model X.prog X.w) X.A (f v u) Q X.xe s2) :
  wpAny (model X.prog X.w) X.A (eval a X.env) (λv s₁=>wpAny (model X.prog X.w) X.A (eval b X.env) (λu s₂=>wpAny (model X.prog X.w) X.A (f v u) Q X.xe s₂) X.xe s₁) X.xe s:=by
 refine thn (ha aB s σ H _ I h) λv s1 ⟨x,H1,I1,r1,q1⟩=>?_
 refine thn (hb aB s1 σ H1 _ I1 q1) λu s2 ⟨y,H2,I2,r2,q2⟩=>?_
 exact hf v u s2 x y H2 I2 r1 r2 q2
theorem qAl{op:Operator}{r:R2}(ho:OpR X (binaryOp op) r)(ha:PE X a ta)(hb:PE X b tb):PE X (.BinOp a op b pos) (tOp r ta tb):=by
 intro aB s σ H Q I h;exact wpAny_BinOp (zDz ha hb I h λv u s2 x y H2 I2 rx ry q=>ho aB s2 σ H2 x y v u Q I2 rx ry q)
theorem qXn{op:UnaryOp}{r:V->Hp->VK->Prop}(ho:UnR X (unaryOp op) r)(ha:PE X a ta):PE X (.UnaryOp op a pos) (tUn r ta):=by
 intro aB s σ H Q I h;exact UnaryOp_ (thn (ha aB s σ H _ I h) λv s1 ⟨x,H1,I1,r1,q1⟩=>ho aB s1 σ H1 x v Q I1 r1 q1)
theorem opI{f:Value->Value->Sem Value}{C:Int->Int->Prop}{g:Int->Int->Int}
  (rule:∀(i j:Int) (t u:Tok) (s:Shared) (Q:Value->Shared->Prop) (E:Value->Shared->Prop),C i j->Q (.int (g i j) s.toks) { s with toks:=s.toks+1 }->wpAny (model X.prog X.w) X.A (f (.int i t) (.int j u)) Q E s) :
  OpR X f (rI C λi j=>.int (g i j)):=by
 intro aB s σ H x y v u Q I rx ry h;obtain⟨i,j,rfl,rfl,hc,q⟩:=h;obtain⟨t,rfl⟩:=rx;obtain⟨t',rfl⟩:=ry;exact rule i j t t' s _ _ hc ⟨.int (g i j),H,I.tok _,⟨_,rfl⟩,q⟩
theorem zCp{f:Value->Value->Sem Value}{g:Int->Int->Int}
  (rule:∀(i j:Int) (t u:Tok) (s:Shared) (Q:Value->Shared->Prop) (E:Value->Shared->Prop),Q (.int (g i j) s.toks) { s with toks:=s.toks+1 }->wpAny (model X.prog X.w) X.A (f (.int i t) (.int j u)) Q E s) :
  OpR X f (rI0 λi j=>.int (g i j)):=by
 intro aB s σ H x y v u Q I rx ry h;obtain⟨i,j,rfl,rfl,q⟩:=h;obtain⟨t,rfl⟩:=rx;obtain⟨t',rfl⟩:=ry;exact rule i j t t' s _ _ ⟨.int (g i j),H,I.tok _,⟨_,rfl⟩,q⟩
theorem zCq{f:Value->Value->Sem Value}{g:Int->Int->Bool}
  (rule:∀(i j:Int) (t u:Tok) (s:Shared) (Q:Value->Shared->Prop) (E:Value->Shared->Prop),Q (.bool (g i j)) s->wpAny (model X.prog X.w) X.A (f (.int i t) (.int j u)) Q E s) :
  OpR X f (rI0 λi j=>.bl (g i j)):=by
 intro aB s σ H x y v u Q I rx ry h;obtain⟨i,j,rfl,rfl,q⟩:=h;obtain⟨t,rfl⟩:=rx;obtain⟨t',rfl⟩:=ry;exact rule i j t t' s _ _ ⟨.bl (g i j),H,I,rfl,q⟩
def zD4(i j:Int):Prop:=0<j/\j<1073741824
def zEh(i j:Int):Prop:=0<=j/\j<=1000000/\i.natAbs<2^64
def zD3(i j:Int):Prop:=(-(2^64)<i/\i<2^64)\/(-(2^64)<j/\j<2^64)
theorem zD3.ok{i j:Int}(h:zD3 i j):IntMulOk i j:=by
 rcases h with ⟨h1,h2⟩|⟨h1,h2⟩
 ·exact .of_left (intBits_le_64 h1 h2)
 ·exact .of_right (intBits_le_64 h1 h2)
theorem qOc(k:Nat):(0:Int)<=2^k:=by
 rw[two_pow_cast];exact hD6 _
theorem qCf:OpR X (binaryOp .Add) (rI0 λi j=>.int (i+j)):=zCp λ_ _ _ _ _ _ _ q=>add_int q
theorem qGq:OpR X (binaryOp .Sub) (rI0 λi j=>.int (i-j)):=zCp λ_ _ _ _ _ _ _ q=>sub_int q
theorem qEn:OpR X (binaryOp .Mult) (rI zD3 λi j=>.int (i*j)):=opI λ_ _ _ _ _ _ _ hc q=>mul_int q hc.ok
theorem qBs:OpR X (binaryOp .FloorDiv) (rI zD4 λi j=>.int (i / j)):=opI λi j _ _ _ _ _ hc q=>by
 have h1:(0:Int)<j:=hc.1;have h2:j<1073741824:=hc.2;exact floordiv_int (by omega) (by rw[Int.fdiv_eq_ediv_of_nonneg i (by omega)];exact q) (.inl (PyProof.noPylong_small (by omega)))
theorem qB4:OpR X (binaryOp .Mod) (rI (λ_ j=>0<j) λi j=>.int (i % j)):=opI λi j _ _ _ _ _ hc q=>by
 have h1:(0:Int)<j:=hc;exact mod_int' (by omega) (by rw[Int.fmod_eq_emod_of_nonneg i (by omega)];exact q)
theorem qVz:OpR X (binaryOp .Pow) (rI zEh λi j=>.int (i^j.toNat)):=opI λ_ _ _ _ _ _ _ hc q=>pow_int_small hc.1 hc.2.1 hc.2.2 q
theorem qJ0:OpR X (binaryOp .LShift) (rI zEh λi j=>.int (i*2^j.toNat)):=opI λ_ _ _ _ _ _ _ hc q=>lshift_int_small hc.1 hc.2.1 hc.2.2 q
theorem qVy:OpR X (binaryOp .RShift) (rI (λ_ j=>0<=j) λi j=>.int (i / 2^j.toNat)):=opI λi j _ _ _ _ _ hc q =>
 rshift_int hc (by rw[Int.fdiv_eq_ediv_of_nonneg i (qOc _)];exact q)
theorem qD7:OpR X (binaryOp .BitAnd) (rI0 λi j=>.int (Builtin.bitAnd i j)):=zCp λ_ _ _ _ _ _ _ q=>and_int q
theorem qGp:OpR X (binaryOp .BitXor) (rI0 λi j=>.int (Builtin.bitXor i j)):=zCp λ_ _ _ _ _ _ _ q=>xor_int q
theorem unI{f:Value->Sem Value}{g:Int->Int}
  (rule:∀(i:Int) (t:Tok) (s:Shared) (Q:Value->Shared->Prop) (E:Value->Shared->Prop),Q (.int (g i) s.toks) { s with toks:=s.toks+1 }->wpAny (model X.prog X.w) X.A (f (.int i t)) Q E s) :
  UnR X f (rU λi=>.int (g i)):=by
 intro aB s σ H x v Q I rx h;obtain⟨i,rfl,q⟩:=h;obtain⟨t,rfl⟩:=rx;exact rule i t s _ _ ⟨.int (g i),H,I.tok _,⟨_,rfl⟩,q⟩
theorem qPr:UnR X (unaryOp .USub) (rU λi=>.int (-i)):=unI λ_ _ _ _ _ q=>neg_int q
end
def zD8:V->V->Bool
 |.non,.non=>true | .non,.int _=>true | .int _,.non=>true | .non,.bl _=>true | .bl _,.non=>true | .non,.str _=>true | .str _,.non=>true
 |.int _,.int _=>true | .bl _,.bl _=>true | .str _,.str _=>true | .byt _,.byt _=>true
 |.int _,.str _=>true | .str _,.int _=>true | .bl _,.str _=>true | .str _,.bl _=>true
 |_,_=>false
def rEq:R2:=λx y H Q=>zD8 x y=true/\Q (.bl (decide (x=y))) H
def rNe:R2:=λx y H Q=>zD8 x y=true/\Q (.bl (!decide (x=y))) H
theorem qSl{i j:Int}:decide (V.int i=V.int j)=(i == j):=by
 rw[Bool.eq_iff_iff];simp
theorem qWd{i j:Bool}:decide (V.bl i=V.bl j)=(i == j):=by
 rw[Bool.eq_iff_iff];simp
theorem qSk{i j:Str}:decide (V.str i=V.str j)=(i == j):=by
 rw[Bool.eq_iff_iff];simp
theorem qSm{i j:Array UInt8}:decide (V.byt i=V.byt j)=(i.toList == j.toList):=by
 rw[Bool.eq_iff_iff];cases i;cases j;simp
section
variable{X:Cx}{a b c:Expr}{ta tb tc:TE}{pos:Pos}
theorem qA8{aB:List (Addr×Obj)}{σ:St}{H:Hp}{s:Shared}{Q:VK}{k k':Bool}(I:Inv X aB σ H s)(q:Q (.bl k) H)(e:k=k'):EP X aB σ Q (.bool k') s:=by
 subst e;exact⟨.bl k,H,I,rfl,q⟩
theorem qDb:OpR X (compareOp .Eq) rEq:=by
 intro aB s σ H x y v u Q I rx ry h;obtain⟨hs,q⟩:=h;cases x with
 |non =>
  cases rx;cases y with
  |non=>cases ry;exact PySem.EqNone.eq_none_none (qA8 I q (by simp))
  |bl j=>cases ry;exact PySem.EqNone.eq_none_bool (qA8 I q (by simp))
  |int j=>obtain⟨t',rfl⟩:=ry;exact PySem.EqNone.eq_none_int (qA8 I q (by simp))
  |str j=>obtain⟨t',rfl⟩:=ry;exact PySem.EqNone.eq_none_str (qA8 I q (by simp))
  |_=>exact absurd (show false=true from hs) hAm
 |bl i =>
  cases rx;cases y with
  |non=>cases ry;exact PySem.EqNone.eq_bool_none (qA8 I q (by simp))
  |bl j=>cases ry;exact eq_bool (qA8 I q qWd)
  |str j=>obtain⟨t',rfl⟩:=ry;exact PySem.EqMixed.eq_bool_str (qA8 I q (by simp))
  |_=>exact absurd (show false=true from hs) hAm
 |int i =>
  obtain⟨t,rfl⟩:=rx;cases y with
  |non=>cases ry;exact PySem.EqNone.eq_int_none (qA8 I q (by simp))
  |int j=>obtain⟨t',rfl⟩:=ry;exact eq_int (qA8 I q qSl)
  |str j=>obtain⟨t',rfl⟩:=ry;exact PySem.EqMixed.eq_int_str (qA8 I q (by simp))
  |_=>exact absurd (show false=true from hs) hAm
 |str i =>
  obtain⟨t,rfl⟩:=rx;cases y with
  |non=>cases ry;exact PySem.EqNone.eq_str_none (qA8 I q (by simp))
  |bl j=>cases ry;exact PySem.EqMixed.eq_str_bool (qA8 I q (by simp))
  |int j=>obtain⟨t',rfl⟩:=ry;exact PySem.EqMixed.eq_str_int (qA8 I q (by simp))
  |str j=>obtain⟨t',rfl⟩:=ry;exact eq_str (qA8 I q qSk)
  |_=>exact absurd (show false=true from hs) hAm
 |byt i =>
  obtain⟨t,rfl⟩:=rx;cases y with
  |byt j=>obtain⟨t',rfl⟩:=ry;exact PySem.W.eq_bytes (qA8 I q qSm)
  |_=>exact absurd (show false=true from hs) hAm
 |_=>cases y <;> exact absurd (show false=true from hs) hAm
theorem qEe:OpR X (compareOp .NotEq) rNe:=by
 intro aB s σ H x y v u Q I rx ry h;obtain⟨hs,q⟩:=h;cases x with
 |non =>
  cases rx;cases y with
  |non=>cases ry;exact PySem.EqNone.ne_none_none (qA8 I q (by simp))
  |bl j=>cases ry;exact PySem.EqNone.ne_none_bool (qA8 I q (by simp))
  |int j=>obtain⟨t',rfl⟩:=ry;exact PySem.EqNone.ne_none_int (qA8 I q (by simp))
  |str j=>obtain⟨t',rfl⟩:=ry;exact PySem.EqNone.ne_none_str (qA8 I q (by simp))
  |_=>exact absurd (show false=true from hs) hAm
 |bl i =>
  cases rx;cases y with
  |non=>cases ry;exact PySem.EqNone.ne_bool_none (qA8 I q (by simp))
  |bl j=>cases ry;exact ne_bool (qA8 I q (congrArg not qWd))
  |str j=>obtain⟨t',rfl⟩:=ry;exact PySem.EqMixed.ne_bool_str (qA8 I q (by simp))
  |_=>exact absurd (show false=true from hs) hAm
 |int i =>
  obtain⟨t,rfl⟩:=rx;cases y with
  |non=>cases ry;exact PySem.EqNone.ne_int_none (qA8 I q (by simp))
  |int j=>obtain⟨t',rfl⟩:=ry;exact ne_int (qA8 I q (congrArg not qSl))
  |str j=>obtain⟨t',rfl⟩:=ry;exact PySem.EqMixed.ne_int_str (qA8 I q (by simp))
  |_=>exact absurd (show false=true from hs) hAm
 |str i =>
  obtain⟨t,rfl⟩:=rx;cases y with
  |non=>cases ry;exact PySem.EqNone.ne_str_none (qA8 I q (by simp))
  |bl j=>cases ry;exact PySem.EqMixed.ne_str_bool (qA8 I q (by simp))
  |int j=>obtain⟨t',rfl⟩:=ry;exact PySem.EqMixed.ne_str_int (qA8 I q (by simp))
  |str j=>obtain⟨t',rfl⟩:=ry;exact ne_str (qA8 I q (congrArg not qSk))
  |_=>exact absurd (show false=true from hs) hAm
 |byt i =>
  obtain⟨t,rfl⟩:=rx;cases y with
  |byt j=>obtain⟨t',rfl⟩:=ry;exact PySem.W.ne_bytes (qA8 I q (congrArg not qSm))
  |_=>exact absurd (show false=true from hs) hAm
 |_=>cases y <;> exact absurd (show false=true from hs) hAm
theorem qJ2:OpR X (compareOp .Lt) (rI0 λi j=>.bl (decide (i<j))):=zCq λ_ _ _ _ _ _ _ q=>lt_int q
theorem qXu:OpR X (compareOp .LtE) (rI0 λi j=>.bl (decide (i<=j))):=zCq λ_ _ _ _ _ _ _ q=>le_int q
theorem qJ4:OpR X (compareOp .Gt) (rI0 λi j=>.bl (decide (j<i))):=zCq λ_ _ _ _ _ _ _ q=>gt_int q
theorem zDm:OpR X (compareOp .GtE) (rI0 λi j=>.bl (decide (j<=i))):=zCq λ_ _ _ _ _ _ _ q=>ge_int q
theorem qRh:OpR X (compareOp .Lt) (λx y H Q=>∃i j,x = .str i/\y = .str j/\Q (.bl (decide (i.cps.toList<j.cps.toList))) H):=by
 intro aB s σ H x y v u Q I rx ry h;obtain⟨i,j,rfl,rfl,q⟩:=h;obtain⟨t,rfl⟩:=rx;obtain⟨t',rfl⟩:=ry;exact lt_str (qA8 I q rfl)
theorem qJ3:OpR X (compareOp .In) (λx y H Q=>∃i j,x = .str i/\y = .str j/\Q (.bl (!(Builtin.Str.occurrences j i 0 j.length 1).isEmpty)) H):=by
 intro aB s σ H x y v u Q I rx ry h;obtain⟨i,j,rfl,rfl,q⟩:=h;obtain⟨t,rfl⟩:=rx;obtain⟨t',rfl⟩:=ry;exact in_str (qA8 I q rfl)
theorem qXt:OpR X (compareOp .IsNot) (λx y H Q=>y = .non/\Q (.bl (!decide (x = .non))) H):=by
 intro aB s σ H x y v u Q I rx ry h;obtain⟨rfl,q⟩:=h;cases ry;refine isnot_none_gen (qA8 I q ?_);cases x <;> first
  |(cases rx;rfl)
  |(obtain⟨t,rfl⟩:=rx;rfl)
theorem qAu(b:Expr){op:CmpOp}(h:op≠.In:=by decide)(h2:op≠.NotIn:=by decide):behindInMarks op b=false:=by
 have e1:(op == CmpOp.In)=false:=by cases op <;> first|rfl|exact absurd rfl h
 have e2:(op == CmpOp.NotIn)=false:=by cases op <;> first|rfl|exact absurd rfl h2
 cases b <;> simp[behindInMarks,e1,e2]
theorem qCk{op:CmpOp}{r:R2}(ho:OpR X (compareOp op) r)(ha:PE X a ta)(hb:PE X b tb)(hm:behindInMarks op b=false):PE X (.Compare a [op] [b] pos) (tOp r ta tb):=by
 intro aB s σ H Q I h;exact wpAny_Compare1 (zDz ha hb I h λv u s2 x y H2 I2 rx ry q=>ho aB s2 σ H2 x y v u Q I2 rx ry q) hm
def zC1(t:TE):TT:=λσ H Q=>t σ H λx H'=>∃k,x = .bl k/\Q k H'
theorem qAm{op:CmpOp}{r:R2}(ho:OpR X (compareOp op) r)(ha:PE X a ta)(hb:PE X b tb)(hm:behindInMarks op b=false):PT X (.Compare a [op] [b] pos) (zC1 (tOp r ta tb)):=by
 intro aB s σ H Q I h;refine wpAny_isTrue_Compare1 (thn (ha aB s σ H _ I h) λv s1 ⟨x,H1,I1,r1,q1⟩=>thn (hb aB s1 σ H1 _ I1 q1) λu s2 ⟨y,H2,I2,r2,q2⟩ =>
  thn (ho aB s2 σ H2 x y v u _ I2 r1 r2 q2) λc s3 ⟨z,H3,I3,r3,k,e,q3⟩=>?_) hm
 subst e;cases r3;exact hE8 ⟨H3,I3,q3⟩
def qZ3(r r':R2)(ta tb tc:TE):TE:=λσ H Q=>ta σ H λx H1=>tb σ H1 λy H2=>r x y H2 λz H3=>∃k,z = .bl k /\
 (if k=true then tc σ H3 λw' H4=>r' y w' H4 Q else Q (.bl false) H3)
theorem qTu{op op':CmpOp}{r r':R2}(ho:OpR X (compareOp op) r)(ho':OpR X (compareOp op') r')(ha:PE X a ta)(hb:PE X b tb)(hc:PE X c tc)
  (hm:lastMarks [op,op'] [b,c]=false:=by with_unfolding_all rfl):PE X (.Compare a [op,op'] [b,c] pos) (qZ3 r r' ta tb tc):=by
 intro aB s σ H Q I h;refine Compare_chain (thn (ha aB s σ H _ I h) λv s1 ⟨x,H1,I1,r1,q1⟩=>chain_link (thn (hb aB s1 σ H1 _ I1 q1) λu s2 ⟨y,H2,I2,r2,q2⟩ =>
  thn (ho aB s2 σ H2 x y v u _ I2 r1 r2 q2) λd s3 ⟨z,H3,I3,r3,k,e,q3⟩=>?_)) hm
 subst e;cases r3;refine hE8 ?_;cases k with
 |false=>exact ite_ff ⟨.bl false,H3,I3,rfl,q3⟩
 |true=>exact ite_tt (chain_last (thn (hc aB s3 σ H3 _ I3 q3) λw' s4 ⟨z',H4,I4,r4,q4⟩=>ho' aB s4 σ H4 y z' u w' Q I4 r2 r4 q4))
def zEf(K:PySem.W.Frag)(x:V)(H:Hp)(k:Bool):Prop :=
 match x with
 |.non=>k=false
 |.bl b=>k=b
 |.int i=>k=(i != 0)
 |.str y=>y.length<=sizeLine/\k=((y.length:Int) != 0)
 |.byt y=>y.size<=sizeLine/\k=((y.size:Int) != 0)
 |.ref p=>(∃xs,SqL K H p xs/\k=!xs.isEmpty)\/(∃xs,SqT K H p xs/\k=!xs.isEmpty)\/∃kvs,H p=some (.dK kvs)/\k=!kvs.isEmpty
 |_=>False
theorem qPa{κ:Type}{kvs:List (κ×V)}{vs:List (κ×Value)}(r:KV kvs vs):(!vs.isEmpty)=!kvs.isEmpty:=by
 cases r <;> rfl
theorem qHw{xs:List V}{its:List Value}(r:qBh xs its):(!its.toArray.isEmpty)=!xs.isEmpty:=by
 cases r <;> simp
theorem qHv:(sizeLine:Nat)<2^63:=by rw[hE6];decide
theorem qZu:zFj X (λx H Q=>∃k,zEf X.K x H k/\Q k H):=by
 intro aB s σ H x v Q I rx h;obtain⟨k,e,q⟩:=h;have hl:=qHv;have hs:sizeLine=16777216:=hE6;cases x with
 |non =>
  cases rx;have e':k=false:=e;subst e';exact truthy_none ⟨H,I,q⟩
 |bl b =>
  cases rx;have e':k=b:=e;subst e';exact hE8 ⟨H,I,q⟩
 |int i =>
  obtain⟨t,rfl⟩:=rx;have e':k=(i != 0):=e;subst e';exact PySem.P.truthy_int ⟨H,I,q⟩
 |str y =>
  obtain⟨t,rfl⟩:=rx;obtain⟨hy,e'⟩:y.length<=sizeLine/\k=((y.length:Int) != 0):=e;subst e';exact PySem.P.truthy_str (by omega) ⟨H,I.tok _,q⟩
 |byt y =>
  obtain⟨t,rfl⟩:=rx;obtain⟨hy,e'⟩:y.size<=sizeLine/\k=((y.size:Int) != 0):=e;subst e';exact PySem.W.truthy_bytes (by omega) ⟨H,I.tok _,q⟩
 |ref p =>
  cases rx;have e':(∃xs,SqL X.K H p xs/\k=!xs.isEmpty)\/(∃xs,SqT X.K H p xs/\k=!xs.isEmpty)\/∃kvs,H p=some (.dK kvs)/\k=!kvs.isEmpty:=e;rcases e' with ⟨xs,hx,e'⟩|⟨xs,hx,e'⟩|⟨kvs,hx,e'⟩
  ·subst e';obtain⟨its,r,pl,hz⟩:=I.list hx;have hlen:=r.length;exact wpAny_truthy_list pl.isList (by simp only[hAf];omega) ⟨H,I.tok _,by rw[qHw r];exact q⟩
  ·subst e';obtain⟨its,r,pl,hz⟩:=I.tuple hx;have hlen:=r.length;exact truthy_tuple pl (by simp only[hAf];omega) ⟨H,I.tok _,by rw[qHw r];exact q⟩
  ·subst e';obtain⟨hz,hS,vs,r,m⟩:kvs.length<=sizeLine/\(p == sysModules)=false/\∃vs,KV kvs vs/\s.heap.DictOf (qBu X.prog X.w) p vs:=I.hok p _ hx;have hlen:kvs.length=vs.length:=Paired.length r;exact wpAny_truthy_dict hS m (by omega) ⟨H,I.tok _,by rw[qPa r];exact q⟩
 |_=>exact(show False from e).elim
theorem qTp(ha:PE X a ta)(he:∀whole,isTrue a X.env whole=(do let v ← whole;standAt a.pos;holding [v] (truthy v))) :
  PT X a (λσ H Q=>ta σ H λx H'=>∃k,zEf X.K x H' k/\Q k H'):=by
 intro aB s σ H Q I h;exact isTrue_plain (thn (ha aB s σ H _ I h) λv s1 ⟨x,H1,I1,r1,q1⟩=>qZu aB s1 σ H1 x v Q I1 r1 q1) (he _)
theorem qDz:OpR X (binaryOp .Add) (λx y H Q=>∃i j,x = .str i/\y = .str j/\i.length+j.length<=sizeLine/\Q (.str (i++j)) H):=by
 intro aB s σ H x y v u Q I rx ry h;obtain⟨i,j,rfl,rfl,hz,q⟩:=h;obtain⟨t,rfl⟩:=rx;obtain⟨t',rfl⟩:=ry;exact add_str (λt' tk=>⟨.str (i++j),H,I.tok _,⟨_,rfl⟩,q⟩) hz
theorem qCw{x:V}{us:List Value}(r:qBh [x] us):∃u,us=[u]/\qB6 x u:=by
 cases r with
 |cons r1 r2=>cases r2;exact⟨_,rfl,r1⟩
theorem qH6{x y:V}{us:List Value}(r:qBh [x,y] us):∃u w',us=[u,w']/\qB6 x u/\qB6 y w':=by
 cases r with
 |cons r1 r2 =>
  cases r2 with
  |cons r3 r4=>cases r4;exact⟨_,_,rfl,r1,r3⟩
theorem qN4:qB2 X (.builtin "abs") (λxs H Q=>∃i,xs=[.int i]/\Q (.int (if i<0 then -i else i)) H):=by
 intro aB s σ H xs us Q I r h;obtain⟨i,rfl,q⟩:=h;obtain⟨u,rfl,t,rfl⟩:=qCw r;exact call_abs_int λu tk=>⟨.int (if i<0 then -i else i),H,I.tok _,⟨_,rfl⟩,q⟩
theorem qKs(hc:X.calm=true):qB2 X (.builtin "min") (λxs H Q=>∃i j,xs=[.int i,.int j]/\Q (.int (if j<i then j else i)) H):=by
 intro aB s σ H xs us Q I r h;obtain⟨i,j,rfl,q⟩:=h;obtain⟨u,w',rfl,⟨t,rfl⟩,⟨t',rfl⟩⟩:=qH6 r;refine min_two_ints (I.ok.hd hc) λh' tk k=>⟨_,H,I.kept k,?_,q⟩
 by_cases hj:j<i
 ·rw[hDu hj,hDu hj];exact⟨_,rfl⟩
 ·rw[hDt hj,hDt hj];exact⟨_,rfl⟩
theorem qSv:qB2 X (.type "int") (λxs H Q=>(∃i,xs=[.int i]/\Q (.int i) H)\/∃k,xs=[.bl k]/\Q (.int (if k then 1 else 0)) H):=by
 intro aB s σ H xs us Q I r h;rcases h with ⟨i,rfl,q⟩|⟨k,rfl,q⟩
 ·obtain⟨u,rfl,t,rfl⟩:=qCw r;exact call_int_int ⟨.int i,H,I,⟨_,rfl⟩,q⟩
 ·obtain⟨u,rfl,r1⟩:=qCw r;cases r1;exact call_int_bool ⟨.int (if k then 1 else 0),H,I.tok _,⟨_,rfl⟩,q⟩
theorem qKp:qB2 X (.type "str") (λxs H Q=>∃i,xs=[.int i]/\i.natAbs.log2<1920/\Q (.str (toString i)) H):=by
 intro aB s σ H xs us Q I r h;obtain⟨i,rfl,hz,q⟩:=h;obtain⟨u,rfl,t,rfl⟩:=qCw r;exact PySem.P.str_of_int hz ⟨.str _,H,I.tok _,⟨_,rfl⟩,q⟩
end
structure ObjM(h:Heap)(x dx C:Addr)(mA:Str->Option Value):Prop where
 obj:h.get? x=some (PySem.W.instObj C dx)
 ns:h.Ns1 dx mA
 ne:dx≠x
theorem qRt{h:Heap}{dx:Addr}{mA:Str->Option Value}(n:h.Ns1 dx mA):∃od,h.get? dx=some od/\∀name,PySem.W.lookIn name od=some (mA name):=by
 obtain⟨o,es,ep,ho,hd,hk,_,hm⟩:=n;refine⟨o,ho,λname=>?_⟩;have e:=hm name;unfold nsFind findBy at e;rw[<-Array.find?_toList]at e;unfold PySem.W.lookIn;rw[hd];dsimp only;split
 ·rename_i y q;rw[q]at e;exact congrArg some e
 ·rename_i q;rw[q]at e;have a:es.toList.any (·.refKey)=false:=by
   rw[List.any_eq_false];intro y hy;obtain⟨z,t,hkey⟩:=hk y (Array.mem_toList_iff.mp hy);simp[DictEntry.refKey,hkey]
  have a':¬es.toList.any (·.refKey)=true:=by rw[a];exact hAm
  rw[hDt a'];exact congrArg some e
theorem ObjM.look{h:Heap}{x dx C:Addr}{mA:Str->Option Value}(I:ObjM h x dx C mA):∃od,PySem.W.InstAt h x (PySem.W.instObj C dx) C (some od)/\∀name,PySem.W.lookIn name od=some (mA name) :=
 let ⟨od,ho,hl⟩:=qRt I.ns
 ⟨od,⟨I.obj,rfl,rfl,ho⟩,hl⟩
section
variable{prog:Program}{w:World}{A:Around}{E:Value->Shared->Prop}{s:Shared}{K:PySem.W.Frag}{x dx C f:Addr}{mA:Str->Option Value}{name:Str}{v:Value}
theorem qYz{expr:Bool}{Q:Value->Shared->Prop}(X:K.In s.heap)(I:ObjM s.heap x dx C mA)(hg:PySem.W.plainGet K C name=true)(hh:PySem.W.hasDictIn K C=true)
  (ha:PySem.W.findIn K (.ref C) name=some none) (hv:mA name=some v) (hv':PySem.W.handedIn v=true) (h:Q v { s with toks:=s.toks+1 }) :
  wpAny (model prog w) A (getAttr (.ref x) name expr) Q E s:=by
 obtain⟨od,J,hl⟩:=I.look;exact PySem.W.get_value X J (PySem.W.plainGet_of hg).1 (PySem.W.findObj_own hh ha rfl (by rw[hl,hv])) hv' h
theorem qUm{pl:Sem Bool}{Q:Value×List Value->Shared->Prop}(X:K.In s.heap)(I:ObjM s.heap x dx C mA)(hg:PySem.W.plainGet K C name=true)
  (hf:PySem.W.findIn K (.ref C) name=some (some (.ref f))) (ht:PySem.W.isFn K (.ref f)=true) (hv:mA name=none) (h:Q (.ref f,[.ref x]) s) :
  wpAny (model prog w) A (getMethod (.ref x) name pl) Q E s:=by
 obtain⟨od,J,hl⟩:=I.look;exact PySem.W.method_fn X J (PySem.W.plainGet_of hg).1 (PySem.W.plainGet_of hg).2 hf (beq_iff_eq.mp ht) (by show(PySem.W.lookIn name od).map (·.isSome)=some false;rw[hl,hv];rfl) h
theorem qWy{ns:List Str}{Q:Unit->Shared->Prop}(X:K.In s.heap)(I:ObjM s.heap x dx C mA)
  (hs:PySem.W.findIn K (.ref C) "__setattr__"=some (some (.builtin "object.__setattr__"))) (hp:PySem.W.plainOver K C=true) (ht:PySem.W.takerIn K C name=some none) (hh:PySem.W.hasDictIn K C=true)
  (hw:PySem.Within mA ns) (hsz:ns.length<=sizeLine)
  (h:∀h',ObjM h' x dx C (λy=>if y=name then some v else mA y)->Heap.SameBut dx s.heap h'->Q () { s with heap:=h',toks:=s.toks+2 }) :
  wpAny (model prog w) A (setAttr (.ref x) name v) Q E s:=by
 obtain⟨od,J,hl⟩:=I.look;refine PySem.W.set_plain X J hs (PySem.W.osa_open (s:={ s with toks:=s.toks+1 }) (r:=none) X J hp ht λb=>?_);obtain⟨cd,hc,hd'⟩:=PySem.W.any_some hh;have hx:s.heap.get? x=some ⟨.ref C,some dx,.plain,#[]⟩:=I.obj;refine hDo (hDq (hDo (hDo (wpAny_loadPart hx (hDo (PySem.W.Looks.here (s:={ s with toks:=s.toks+1 }) (PySem.W.looks_clsIn X hc) ?_))))));rw[hd'];refine hDq (a:=some dx) (hDo (hDq (hDo ?_)));refine wpAny_nsSet1 (s:={ s with toks:=s.toks+1 }) I.ns λh' hn2 hs2=>?_
 obtain⟨oD,esD,epD,hoD,hdD,hcD⟩:=hn2.count (PySem.Within.cons name v hw);refine hDo (wpAny_lookBehind hoD (by rw[hdD];exact pastItsLine_dict (hAx hcD (by rw[hB8];omega))) ?_);exact hDq (h _ ⟨(hs2.2 _ (Ne.symm I.ne)).trans I.obj,hn2,I.ne⟩ hs2)
theorem qUb{R:Result->Shared->Prop}{vs:List Value}{kw:List (Str×Value)}(X:K.In s.heap)(hm:PySem.W.makesIn K C=true)
  (hi:PySem.W.findIn K (.ref C) "__init__"=some (some (.ref f))) (hf:PySem.W.typeIn K (.ref f)=some (.type "function"))
  (h:codeAny (model prog w) (A.under (.builtin "type.__call__" ⟨.ref C :: vs,kw⟩)) (.call (.ref f) ⟨.ref (s.heap.objs.size+1) :: vs,kw⟩) (PySem.W.InitBack (s.heap.objs.size+1) R)
   { s with heap:=(s.heap.push PySem.W.emptyDict).push (PySem.W.instObj C s.heap.objs.size) }) :
  codeAny (model prog w) A (.call (.ref C) ⟨vs,kw⟩) R s:=by
 obtain⟨hh,g,d,t,os⟩:=s;exact PySem.W.make_core (PySem.W.makes_of X hm) (hDc X hi) (λself=>PySem.W.bind_fn X self hf) (.inl rfl) h
end
def qIp(f:Str)(v:V):List (Str×V)->List (Str×V)
 |[]=>[(f,v)]
 |(g,x) :: r=>if g=f then (g,v) :: r else (g,x) :: qIp f v r
theorem qDd(f g:Str)(v:V):∀fs:List (Str×V),(qIp f v fs).lookup g=if g=f then some v else fs.lookup g
 |[]=>by
  show List.lookup g [(f,v)]=_;by_cases h:g=f
  ·have hb:(g == f)=true:=beq_iff_eq.mpr h;simp only[List.lookup,hb,hDu h]
  ·have hb:(g == f)=false:=beq_eq_false_iff_ne.mpr h;simp only[List.lookup,hb,hDt h]
 |(k,x) :: r=>by
  have ih:=qDd f g v r;rw[show qIp f v ((k,x) :: r)=(if k=f then (k,v) :: r else (k,x) :: qIp f v r) from rfl];by_cases hk:k=f
  ·rw[hDu hk];by_cases h:g=k
   ·have hb:(g == k)=true:=beq_iff_eq.mpr h;simp only[List.lookup,hb,hDu (h.trans hk)]
   ·have hb:(g == k)=false:=beq_eq_false_iff_ne.mpr h;simp only[List.lookup,hb,hDt (λe:g=f=>h (e.trans hk.symm))]
  ·rw[hDt hk];by_cases h:g=k
   ·have hb:(g == k)=true:=beq_iff_eq.mpr h;simp only[List.lookup,hb,hDt (λe:g=f=>hk (h.symm.trans e))]
   ·have hb:(g == k)=false:=beq_eq_false_iff_ne.mpr h;simp only[List.lookup,hb];exact ih
theorem qGy(f:Str)(v:V):∀fs:List (Str×V),f∈(qIp f v fs).map (·.1)/\∀g,g∈fs.map (·.1)->g∈(qIp f v fs).map (·.1)
 |[]=>⟨by simp[qIp],λg h=>by simp at h⟩
 |(k,x) :: r=>by
  obtain⟨i1,i2⟩:=qGy f v r;rw[show qIp f v ((k,x) :: r)=(if k=f then (k,v) :: r else (k,x) :: qIp f v r) from rfl];by_cases hk:k=f
  ·rw[hDu hk];subst hk;exact⟨by simp,λg h=>by simpa using h⟩
  ·rw[hDt hk];refine⟨?_,λg h=>?_⟩
   ·rw[hAv];exact hA4 _ i1
   ·rw[hAv]at h ⊢;rcases hA8.mp h with e|e
    ·exact hA8.mpr (.inl e)
    ·exact hA4 _ (i2 g e)
theorem qGw(f:Str)(v:V):∀fs:List (Str×V),(qIp f v fs).length<=fs.length+1
 |[]=>by simp[qIp]
 |(k,x) :: r=>by
  have ih:=qGw f v r;rw[show qIp f v ((k,x) :: r)=(if k=f then (k,v) :: r else (k,x) :: qIp f v r) from rfl];by_cases hk:k=f
  ·rw[hDu hk,hB8,hB8];omega
  ·rw[hDt hk,hB8,hB8];omega
theorem qN8.some_of{v:V}{o:Option Value}(r:qN8 (some v) o):∃u,o=some u/\qB6 v u:=by
 cases o with
 |none=>exact(show False from r).elim
 |some u=>exact⟨u,rfl,r⟩
theorem qN8.none_of{o:Option Value}(r:qN8 none o):o=none:=by
 cases o with
 |none=>rfl
 |some u=>exact(show False from r).elim
theorem qR5{v:V}{u:Value}(r:qB6 v u):PySem.W.handedIn u=true:=by
 cases v with
 |non=>cases(show u=Value.none from r);rfl
 |bl b=>cases(show u=Value.bool b from r);rfl
 |int i=>obtain⟨t,e⟩:=(show ∃t,u=Value.int i t from r);cases e;rfl
 |str x=>obtain⟨t,e⟩:=(show ∃t,u=Value.str x t from r);cases e;rfl
 |byt b=>obtain⟨t,e⟩:=(show ∃t,u=Value.bytes b t from r);cases e;rfl
 |flt b=>obtain⟨t,e⟩:=(show ∃t,u=Value.float b t from r);cases e;rfl
 |ref a=>cases(show u=Value.ref a from r);rfl
 |ty n=>cases(show u=Value.type n from r);rfl
section
variable{P:Program}{w:World}{H H':Hp}{h h':Heap}{a C dx:Addr}{fs fs':List (Str×V)}
theorem qI1(hok:HOk P w H h)(e:H a=some (.ins C dx fs)):∃mA,ObjM h a dx C mA/\(∀f,qN8 (fs.lookup f) (mA f))/\PySem.Within mA (fs.map (·.1))/\fs.length<=1000/\H dx=some (.own a):=by
 obtain⟨d,z,ne,ob,mA,n,r,q⟩:=(show qB3 P w H h a (.ins C dx fs) from hok a _ e);exact⟨mA,⟨ob,n,ne⟩,r,q,z,d⟩
end
structure Cls(K:PySem.W.Frag)(C:Addr):Prop where
 pg:PySem.W.plainGet K C Str.empty=true
 hd:PySem.W.hasDictIn K C=true
 po:PySem.W.plainOver K C=true
 sa:PySem.W.findIn K (.ref C) "__setattr__"=some (some (.builtin "object.__setattr__"))
theorem Cls.get{K:PySem.W.Frag}{C:Addr}(c:Cls K C)(f:Str):PySem.W.plainGet K C f=true:=c.pg
def qHe(K:PySem.W.Frag)(C:Addr)(f:Str):Prop:=PySem.W.findIn K (.ref C) f=some none
theorem qHe.taker{K:PySem.W.Frag}{C:Addr}{f:Str}(n:qHe K C f):PySem.W.takerIn K C f=some none:=by
 unfold PySem.W.takerIn;rw[show PySem.W.findIn K (.ref C) f=some none from n];rfl
structure Con(K:PySem.W.Frag)(C:Addr)(f:Str)(v:V)(u:Value):Prop where
 at_:PySem.W.findIn K (.ref C) f=some (some u)
 rel:qB6 v u
 get:PySem.W.specialIn K u "__get__"=some none
 cp:PySem.W.copiedNames.contains f=false
structure Meth(K:PySem.W.Frag)(C:Addr)(m:Str)(f:Addr):Prop where
 at_:PySem.W.findIn K (.ref C) m=some (some (.ref f))
 fn:PySem.W.isFn K (.ref f)=true
 kp:PySem.W.keepIn K (.ref f)=true
section
variable{X:Cx}{aB:List (Addr×Obj)}{σ:St}{H:Hp}{s:Shared}{a C dx:Addr}{fs:List (Str×V)}{f:Str}{v:V}{A:Around}{E:Value->Shared->Prop}
theorem qPb{b:Bool}{Q:Value->Shared->Prop}(I:Inv X aB σ H s)(e:H a=some (.ins C dx fs))(c:Cls X.K C)(n:qHe X.K C f)(l:fs.lookup f=some v)
  (h:∀u s',Inv X aB σ H s'->qB6 v u->Q u s'):wpAny (model X.prog X.w) A (getAttr (.ref a) f b) Q E s:=by
 obtain⟨mA,O,r,_,_,_⟩:=qI1 I.hok e;obtain⟨u,hu,ru⟩:=qN8.some_of (v:=v) (o:=mA f) (by rw[<-l];exact r f);exact qYz I.kIn O (c.get f) c.hd n hu (qR5 ru) (h u _ (I.tok _) ru)
theorem qHx{m:Str}{g:Addr}{pl:Sem Bool}{Q:Value×List Value->Shared->Prop}(I:Inv X aB σ H s)(e:H a=some (.ins C dx fs))(c:Cls X.K C)(k:Meth X.K C m g)(l:fs.lookup m=none)
  (h:Q (.ref g,[.ref a]) s):wpAny (model X.prog X.w) A (getMethod (.ref a) m pl) Q E s:=by
 obtain⟨mA,O,r,_,_,_⟩:=qI1 I.hok e;have hn:mA m=none:=qN8.none_of (by rw[<-l];exact r m);exact qUm I.kIn O (c.get m) k.at_ k.fn hn h
theorem qOk{y:V}{u:Value}{Q:Unit->Shared->Prop}(I:Inv X aB σ H s)(e:H a=some (.ins C dx fs))(c:Cls X.K C)(n:qHe X.K C f)(hl:fs.length<1000)(ry:qB6 y u)
  (h:∀s',Inv X aB σ (upd H a (.ins C dx (qIp f y fs))) s'->Q () s'):wpAny (model X.prog X.w) A (setAttr (.ref a) f u) Q E s:=by
 obtain⟨mA,O,r,wi,_,ho⟩:=qI1 I.hok e;have hz:(fs.map (·.1)).length<=sizeLine:=by rw[hA1,hE6];omega
 refine qWy I.kIn O c.sa c.po n.taker c.hd wi hz λh' O' sb=>h _ ?_
 have hd:∃o,h'.get? dx=some o:=let ⟨o,_,_,e',_⟩:=O'.ns;⟨o,e'⟩;refine I.write (x:=a) (e:=dx) (by rw[e];exact True.intro) (.inr ho) (λb q hb z=>(sb.2 b hb).trans z) hd ?_;refine⟨by rw[qAj O.ne];exact ho,?_,O.ne,O'.obj,_,O'.ns,λg=>?_,λg hg=>?_⟩
 ·have:=qGw f y fs;omega
 ·show qN8 ((qIp f y fs).lookup g) (if g=f then some u else mA g);rw[qDd];by_cases q:g=f
  ·rw[hDu q,hDu q];exact ry
  ·rw[hDt q,hDt q];exact r g
 ·by_cases q:g=f
  ·rw[q];exact(qGy f y fs).1
  ·refine(qGy f y fs).2 g (wi g λz=>hg ?_);show(if g=f then some u else mA g)=none;rw[hDt q];exact z
theorem Inv.made(I:Inv X aB σ H s):Inv X aB σ (upd (upd H s.heap.objs.size (.own (s.heap.objs.size+1))) (s.heap.objs.size+1) (.ins C s.heap.objs.size []))
  { s with heap:=(s.heap.push PySem.W.emptyDict).push (PySem.W.instObj C s.heap.objs.size) }:=by
 have e1:(s.heap.push PySem.W.emptyDict).get? s.heap.objs.size=some PySem.W.emptyDict:=Heap.get?_push_size s.heap rfl;have e2:((s.heap.push PySem.W.emptyDict).push (PySem.W.instObj C s.heap.objs.size)).get? (s.heap.objs.size+1)=some (PySem.W.instObj C s.heap.objs.size):=by
  have:=Heap.get?_push_size (s.heap.push PySem.W.emptyDict) (o:=PySem.W.instObj C s.heap.objs.size) rfl
  rwa [Heap.size_push]at this
 have e3:(s.heap.push PySem.W.emptyDict).Ns s.heap.objs.size (λ_=>none):=⟨PySem.W.emptyDict,#[],_,e1,rfl,(λe he=>absurd he (by simp)),λ_=>rfl⟩;have I1:=I.laid (a:=s.heap.objs.size) (o:=.own (s.heap.objs.size+1)) (h':=s.heap.push PySem.W.emptyDict) (t':=s.toks) (λb u q=>Heap.get?_push_of_some _ q) (hA3 _) ⟨_,e1⟩;refine I1.laid (a:=s.heap.objs.size+1) (o:=.ins C s.heap.objs.size []) (t':=s.toks) (λb u q=>Heap.get?_push_of_some _ q) (Nat.le_of_eq (Heap.size_push _ _)) ?_;have ne:s.heap.objs.size≠s.heap.objs.size+1:=hAi (hAt _);refine⟨by rw[qAj ne,upd_same],hAq _,ne,e2,λ_=>none,(Heap.Ns1.of_empty e3).at λo q=>Heap.get?_push_of_some _ q,λ_=>True.intro,λy hy=>absurd rfl hy⟩
theorem qZc{prog:Program}{w:World}{env:Env}{e:Expr}{f:Str}{pos:Pos}{s:Shared}{Q:Value->Shared->Prop}(hb:attributeBase e f env (eval e env)=eval e env)
  (h:wpAny (model prog w) A (eval e env) (λo s₁=>wpAny (model prog w) A (getAttr o f true) Q E s₁) E s):wpAny (model prog w) A (eval (.Attribute e f pos) env) Q E s :=
 Attribute_any_ h (by rw[arm_eval_Attribute,hb])
end
def zEn(K:PySem.W.Frag)(ta:TE)(f:Str):TE:=λσ H Q=>ta σ H λx H1=>∃a C dx fs v,x = .ref a/\H1 a=some (.ins C dx fs)/\Cls K C/\qHe K C f/\fs.lookup f=some v/\Q v H1
def zEt(K:PySem.W.Frag)(ta tv:TE)(f:Str):TS:=λD σ H=>tv σ H λy H1=>ta σ H1 λx H2=>∃a C dx fs,x = .ref a/\H2 a=some (.ins C dx fs)/\Cls K C/\qHe K C f/\fs.length<1000 /\
 D.nx σ (upd H2 a (.ins C dx (qIp f y fs)))
section
variable{X:Cx}{o e value:Expr}{f:Str}{pos pos' tpos:Pos}{ta tv:TE}
theorem qRc(he:PE X e ta)(hb:attributeBase e f X.env (eval e X.env)=eval e X.env):PE X (.Attribute e f pos) (zEn X.K ta f):=by
 intro aB s σ H Q I h;refine qZc hb (thn (he aB s σ H _ I h) λu s1 ⟨x,H1,I1,rx,a,C,dx,fs,v,ex,ea,c,n,l,q⟩=>?_);subst ex;obtain rfl:u=Value.ref a:=rx;exact qPb I1 ea c n l λu' s2 I2 ru=>⟨v,H1,I2,ru,q⟩
theorem qVr(ha:PE X o ta)(hv:PE X value tv)(hs:swapsWith value (some (.Attribute o f pos')) pos.line X.env=pure false):PS X (.Assign [.Attribute o f pos'] value pos) (zEt X.K ta tv f):=by
 intro aB s σ H D I h;refine plainObj_wpAny_Assign_Attribute (thn (hv aB s σ H _ I h) λu s1 ⟨y,H1,I1,ry,q⟩=>thn (ha aB s1 σ H1 _ I1 q) λov s2 ⟨x,H2,I2,rx,a,C,dx,fs,ex,ea,c,n,l,q2⟩=>?_) hs;subst ex;obtain rfl:ov=Value.ref a:=rx;exact qOk I2 ea c n l ry λs3 I3=>⟨σ,_,I3,q2⟩
end
section
variable{X:Cx}{aB:List (Addr×Obj)}{σ:St}{H:Hp}{s:Shared}{A:Around}{E:Value->Shared->Prop}{Q:Value->Shared->Prop}{c:Value}{b:Bool}
inductive TyOf (K:PySem.W.Frag) (H:Hp):V->Value->Prop where
 |non:TyOf K H .non (.type "NoneType")
 |bl (x:Bool):TyOf K H (.bl x) (.type "bool")
 |int (i:Int):TyOf K H (.int i) (.type "int")
 |str (x:Str):TyOf K H (.str x) (.type "str")
 |flt (x:UInt64):TyOf K H (.flt x) (.type "float")
 |lst {a:Addr} {xs:List V} (e:H a=some (.lst xs)):TyOf K H (.ref a) (.type "list")
 |frz {a:Addr} {o:Obj} {xs:List V} (e:H a=some (.frz o (.lst xs))):TyOf K H (.ref a) (.type "list")
 |tup {a:Addr} {xs:List V} (e:H a=some (.tup xs)):TyOf K H (.ref a) (.type "tuple")
 |dK {a:Addr} {kvs:List (Key×V)} (e:H a=some (.dK kvs)):TyOf K H (.ref a) (.type "dict")
 |dT {a:Addr} {kvs:List (List Key×V)} (e:H a=some (.dT kvs)):TyOf K H (.ref a) (.type "dict")
 |ins {a C dx:Addr} {fs:List (Str×V)} (e:H a=some (.ins C dx fs)) (cl:Cls K C) (ha:PySem.W.findIn K (.ref C) "__class__"=some (some (.builtin "object.__class__")))
   (hn:PySem.W.specialIn K (.builtin "object.__class__") "__get__"=some (some (.builtin "getset_descriptor.__get__"))) (htk:PySem.W.takesIn K (.builtin "object.__class__")=some true)
   (hm:PySem.W.mroIn K C (.type "object")=some true):TyOf K H (.ref a) (.ref C)
theorem qR1{x:V}{u t:Value}(I:Inv X aB σ H s)(rx:qB6 x u)(ty:TyOf X.K H x t)(e:PySem.W.kitOne X.K t c=some b)(h:∀tk,Q (.bool b) { s with toks:=tk }) :
  wpAny (model X.prog X.w) A (call (.builtin "isinstance") [u,c]) Q E s:=by
 cases ty with
 |non=>cases(show u=Value.none from rx);exact hBt PySem.W.kitx_none I.kIn True.intro e (λz=>nomatch z) h
 |bl y=>cases(show u=Value.bool y from rx);exact hBt PySem.W.kitx_bool I.kIn True.intro e (λz=>nomatch z) h
 |int i=>obtain⟨t,q⟩:=(show ∃t,u=Value.int i t from rx);cases q;exact hBt PySem.W.kitx_int I.kIn True.intro e (λz=>nomatch z) h
 |str y=>obtain⟨t,q⟩:=(show ∃t,u=Value.str y t from rx);cases q;exact hBt PySem.W.kitx_str I.kIn True.intro e (λz=>nomatch z) h
 |flt y=>obtain⟨t,q⟩:=(show ∃t,u=Value.float y t from rx);cases q;exact hBt PySem.W.kitx_float I.kIn True.intro e (λz=>nomatch z) h
 |@lst a xs ea =>
  cases(show u=Value.ref a from rx);obtain⟨_,_,n,_,h1⟩:=(show qB3 X.prog X.w H s.heap a (.lst xs) from I.hok a _ ea);exact hBt PySem.W.kitx_list I.kIn ⟨_,h1,rfl⟩ e (λz=>nomatch z) h
 |@frz a ob xs ea =>
  cases(show u=Value.ref a from rx);obtain⟨_,_,_,n,_,h1⟩:=(show qB3 X.prog X.w H s.heap a (.frz ob (.lst xs)) from I.hok a _ ea);exact hBt PySem.W.kitx_list I.kIn ⟨_,h1,rfl⟩ e (λz=>nomatch z) h
 |@tup a xs ea =>
  cases(show u=Value.ref a from rx);obtain⟨_,_,_,p⟩:=(show qB3 X.prog X.w H s.heap a (.tup xs) from I.hok a _ ea);obtain⟨o,h1,h2,_⟩:=p;exact hBt PySem.W.kitx_tuple I.kIn ⟨o,h1,h2⟩ e (λz=>nomatch z) h
 |@dK a kvs ea =>
  cases(show u=Value.ref a from rx);obtain⟨_,_,vs,_,p⟩:=(show qB3 X.prog X.w H s.heap a (.dK kvs) from I.hok a _ ea);obtain⟨o,es,ep,h1,h2,_⟩:=p;exact hBt PySem.W.kitx_dict I.kIn ⟨o,h1,h2.1⟩ e (λz=>nomatch z) h
 |@dT a kvs ea =>
  cases(show u=Value.ref a from rx);obtain⟨_,_,xs,_,o,es,ep,h1,h2,_⟩:=(show qB3 X.prog X.w H s.heap a (.dT kvs) from I.hok a _ ea);exact hBt PySem.W.kitx_dict I.kIn ⟨o,h1,h2.1⟩ e (λz=>nomatch z) h
 |@ins a C dx fs ea cl ha hn htk hm =>
  cases(show u=Value.ref a from rx);obtain⟨mA,O,_⟩:=qI1 I.hok ea;obtain⟨od,J,_⟩:=O.look;exact hBt (PySem.W.kitx_own (cl.get _) cl.hd ha hn htk hm) I.kIn J e (λz=>nomatch z) h
end
structure Room(k:Nat)(A:Around):Prop where
 hd:A.handled=none
 dp:A.depth+3*k+5<recursionLimit
 un:A.units+16*k+200<cLine
 gd:A.guards=some []
theorem Room.mono{j k:Nat}{A:Around}(r:Room k A)(h:j<=k):Room j A:=⟨r.hd,by have:=r.dp;omega,by have:=r.un;omega,r.gd⟩
theorem Room.deeper{k:Nat}{A:Around}(r:Room (k+1) A)(env:Env):Room k (A.deeper env) :=
 ⟨r.hd,by have:=r.dp;show A.depth+1+3*k+5<_;omega,by have:=r.un;show A.units+3+16*k+200<_;omega,r.gd⟩
theorem qO7{A:Around}{C:Addr}{us:List Value}{kw:List (Str×Value)}:(A.under (.builtin "type.__call__" ⟨.ref C :: us,kw⟩)).depth=A.depth+1:=by
 first|rfl|simp[Around.under,Code.weight,Code.isCreation,Code.isGuard,Code.isCaller,Code.frames,Code.isFrame,guardIds]
theorem qO6{A:Around}{C:Addr}{us:List Value}{kw:List (Str×Value)}:(A.under (.builtin "type.__call__" ⟨.ref C :: us,kw⟩)).units=A.units+1:=by
 first|rfl|simp[Around.under,Code.cUnits,Code.frames,Code.isFrame]
theorem qL6{A:Around}{C:Addr}{us:List Value}{kw:List (Str×Value)}:(A.under (.builtin "type.__call__" ⟨.ref C :: us,kw⟩)).guards=A.guards:=by
 first|rfl|simp[Around.under,Code.guards,Code.isGuard,guardIds,pushGuards]
theorem Room.make{k:Nat}{A:Around}(r:Room (k+1) A)(C:Addr)(us:List Value)(kw:List (Str×Value)):Room k (A.under (.builtin "type.__call__" ⟨.ref C :: us,kw⟩)) :=
 ⟨r.hd,by have:=r.dp;rw[qO7];omega,by have:=r.un;rw[qO6];omega,by rw[qL6];exact r.gd⟩
theorem Room.depth{k:Nat}{A:Around}(r:Room k A):A.depth<recursionLimit:=by have:=r.dp;omega
def qPk:TA:=λ_ H Q=>Q [] H
def qBi(ta:TE)(tr:TA):TA:=λσ H Q=>ta σ H λx H1=>tr σ H1 λxs H2=>Q (x :: xs) H2
section
variable{X:Cx}{e:Expr}{es:List Expr}{te:TE}{t:TA}{pos:Pos}
theorem qAs:PA X [] qPk:=λ_ _ _ _ H Q I h=>Calls.spliced_nil ⟨[],H,I,.nil,h⟩
theorem qAd(ha:PE X e te)(hr:PA X es t)(hs:starEach (e :: es) X.env=(false,eval e X.env) :: starEach es X.env:=by rfl):PA X (e :: es) (qBi te t):=by
 intro pos aB s σ H Q I h;rw[hs];show wpAny _ _ (spliced ((false,eval e X.env) :: backTo pos (starEach es X.env))) _ _ s;refine Calls.spliced_cons (thn (ha aB s σ H _ I h) λu s1 ⟨x,H1,I1,r1,q1⟩=>?_);exact thn (hr pos aB s1 σ H1 _ I1 q1) λus s2 ⟨xs,H2,I2,r2,q2⟩=>⟨x :: xs,H2,I2,.cons r1 r2,q2⟩
theorem pa1{X:Cx}{e:Expr}{te:TE}(ha:PE X e te)(hs:starEach [e] X.env=(false,eval e X.env) :: starEach [] X.env:=by rfl):PA X [e] (qBi te qPk):=qAd ha qAs hs
def qZx(t:TA):TE:=λσ H Q=>t σ H λxs H1=>xs.length<=sizeLine/\∀p,H1 p=none->Q (.ref p) (upd H1 p (.tup xs))
def qZg(t:TA):TE:=λσ H Q=>t σ H λxs H1=>xs.length<=sizeLine/\∀p,H1 p=none->Q (.ref p) (upd H1 p (.lst xs))
theorem qBk{x1}(h:PA X es t):PE X (.Tuple es x1 pos) (qZx t):=by
 intro aB s σ H Q I hq;refine wpAny_Tuple_spliced (thn (h pos aB s σ H _ I hq) λus s1 ⟨xs,H1,I1,r,z,q⟩=>⟨by rw[<-r.length];exact z,?_⟩);have hf:H1 s1.heap.objs.size=none:=I1.hok.fresh (hA3 _);refine⟨.ref s1.heap.objs.size,upd H1 s1.heap.objs.size (.tup xs),I1.laid (t':=s1.toks) (λb u e=>Heap.get?_push_of_some _ e) (hA3 _) ?_,rfl,q _ hf⟩;exact⟨z,us,r,⟨_,Heap.get?_push_size _ rfl,rfl,_,rfl⟩⟩
theorem qB9(h:PA X es t):PE X (.List es pos) (qZg t):=by
 intro aB s σ H Q I hq;refine wpAny_List_spliced (thn (h pos aB s σ H _ I hq) λus s1 ⟨xs,H1,I1,r,z,q⟩=>⟨by rw[<-r.length];exact z,?_⟩);have hf:H1 s1.heap.objs.size=none:=I1.hok.fresh (hA3 _);refine⟨.ref s1.heap.objs.size,upd H1 s1.heap.objs.size (.lst xs),I1.laid (t':=s1.toks) (λb u e=>Heap.get?_push_of_some _ e) (hA3 _) ?_,rfl,q _ hf⟩;exact⟨z,us,0,r,Heap.get?_push_size _ rfl⟩
end
abbrev Sp:=List V->Hp->VK->XK->Prop
abbrev CXT:=List Env->Hp->Shared->XK->Value->Shared->Prop
structure Env0(P:Program)(w:World)(K:PySem.W.Frag)(mg:Str->Option Value)(base:Heap)(A:Around)(outer:List Env)(s:Shared)(H:Hp):Prop where
 frames:A.frames=some outer
 mod:Mod K mg base
 bs:∀b o,base.get? b=some o->s.heap.get? b=some o/\H b=none
 bsz:base.objs.size<=s.heap.objs.size
 funs:s.heap.FunFrames base outer
 frf:∀b∈frs outer,H b=none
 hok:HOk P w H s.heap
 bare:AllBare s.gens
def CE(outer:List Env)(P:Program)(w:World)(H:Hp)(s:Shared)(Q:VK)(u:Value)(s':Shared):Prop :=
 ∃v H',s'.os=s.os/\AllBare s'.gens/\Un (frs outer) [] H H' s.heap s'.heap/\HOk P w H' s'.heap/\qB6 v u/\Q v H'
def CR(CX:CXT)(outer:List Env)(P:Program)(w:World)(H:Hp)(s:Shared)(Q:VK)(E:XK)(r:Result)(s':Shared):Prop :=
 match r with
 |.ok (.ret u)=>CE outer P w H s Q u s'
 |.ok _=>False
 |.error e=>CX outer H s E e s'
structure FnOk(P:Program)(w:World)(K:PySem.W.Frag)(mg:Str->Option Value)(base:Heap)(CX:CXT)(k:Nat)(f:Addr)(fd:FuncData)(ps:List Str)(sp:Sp):Prop where
 len:∀vs H Q E,sp vs H Q E->vs.length=ps.length
 run:∀(A:Around) (outer:List Env) (s:Shared) (H:Hp) (args:Args) (us:List Value) (vs:List V) (Q:VK) (E:XK),Room k A->Env0 P w K mg base A outer s H->BindsTo s fd args (ps.zip us)->qBh vs us->sp vs H Q E ->
  codeAny (model P w) A (.call (.ref f) args) (CR CX outer P w H s Q E) s
theorem Env0.make{P:Program}{w:World}{K:PySem.W.Frag}{mg:Str->Option Value}{base:Heap}{A:Around}{outer:List Env}{s:Shared}{H:Hp}(e:Env0 P w K mg base A outer s H)(C:Addr)(us:List Value)(kw:List (Str×Value)) :
  Env0 P w K mg base (A.under (.builtin "type.__call__" ⟨.ref C :: us,kw⟩)) outer s H:=⟨by first|exact e.frames|(simpa [Around.under,Code.envs,Code.isFrame,pushEnvs] using e.frames),e.mod,e.bs,e.bsz,e.funs,e.frf,e.hok,e.bare⟩
section
variable{X:Cx}{aB:List (Addr×Obj)}{σ:St}{H:Hp}{s s':Shared}
theorem Inv.env0(I:Inv X aB σ H s):Env0 X.prog X.w X.K X.mg X.base X.A X.stack s H :=
 ⟨I.ok.frames,I.ok.mod,I.bs,hAx I.ok.bsz I.sz,I.stack,I.stkFree,I.hok,I.bare⟩
theorem Inv.after{Q:VK}{u:Value}(I:Inv X aB σ H s)(h:CE X.stack X.prog X.w H s Q u s'):EP X aB σ Q u s':=by
 obtain⟨v,H',os,bare,un,hok,r,q⟩:=h;obtain⟨hh,g,d,t,os'⟩:=s';obtain rfl:os'=s.os:=os;exact⟨v,H',I.call (h':=hh) (g':=g) (d':=d) (t':=t) (ch:=[]) un hok bare (λb z=>absurd z (by simp)),r,q⟩
end
def qZ4(sp:Sp)(dvs:List V)(E:XK)(t:TA):TE:=λσ H Q=>t σ H λvs H1=>sp (vs++dvs) H1 Q E
def qZ0(C:Addr)(m:Str)(sp:Sp)(dvs:List V)(E:XK)(ta:TE)(t:TA):TE:=λσ H Q=>ta σ H λx H1=>∃a dx fs,x = .ref a/\H1 a=some (.ins C dx fs)/\fs.lookup m=none /\
 t σ H1 λvs H2=>sp (x :: (vs++dvs)) H2 Q E
def zC7(C:Addr)(sp:Sp)(dvs:List V)(E:XK)(t:TA):TE:=λσ H Q=>t σ H λvs H1=>∀x dx,H1 x=none->H1 dx=none->dx≠x ->
 sp (.ref x :: (vs++dvs)) (upd (upd H1 dx (.own x)) x (.ins C dx [])) (λv H2=>v = .non/\Q (.ref x) H2) E
def qE1(K:PySem.W.Frag)(fd:FuncData)(ps:List Str)(ds:List Value):Prop :=
 ∀(s:Shared) (us:List Value),K.In s.heap->(us++ds).length=ps.length->BindsTo s fd ⟨us,[]⟩ (ps.zip (us++ds))
theorem qE1.all{K:PySem.W.Frag}{fd:FuncData}{ps:List Str}(h:∀us:List Value,us.length=ps.length->bindArgs fd ⟨us,[]⟩=pure (ps.zip us)):qE1 K fd ps []:=λs us _ hl=>by
 rw[hCo]at hl ⊢;exact .of_eq (h us hl)
def qDt(CX:CXT)(X:Cx)(E:XK):Prop:=∀(aB:List (Addr×Obj)) (σ:St) (H:Hp) (s:Shared) (e:Value) (s':Shared),Inv X aB σ H s->CX X.stack H s E e s'->X.xe e s'
section
variable{X:Cx}{CX:CXT}{k:Nat}{f C:Addr}{fd:FuncData}{ps:List Str}{sp:Sp}{dvs:List V}{ds:List Value}{E:XK}{x m:Str}{p pos apos:Pos}{e o:Expr}{es:List Expr}{ta:TE}{t:TA}
theorem qQy{aB:List (Addr×Obj)}{σ:St}{H:Hp}{s:Shared}{Q:VK}{us:List Value}{vs:List V}(F:FnOk X.prog X.w X.K X.mg X.base CX k f fd ps sp)(hr:Room k X.A)(hb:qE1 X.K fd ps ds)(hd:qBh dvs ds)(hx:qDt CX X E)
  (I:Inv X aB σ H s) (r:qBh vs us) (h:sp (vs++dvs) H Q E):wpAny (model X.prog X.w) X.A (call (.ref f) us) (EP X aB σ Q) X.xe s:=by
 have r2:qBh (vs++dvs) (us++ds):=r.append hd;have hl:(us++ds).length=ps.length:=by rw[<-r2.length];exact F.len _ _ _ _ h
 refine wpAny_call (hEl (F.run X.A X.stack s H ⟨us,[]⟩ (us++ds) (vs++dvs) Q E hr I.env0 (hb s us I.kIn hl) r2 h) λr s' hq=>?_);cases r with
 |error e=>exact hx aB σ H s e s' I hq
 |ok fl =>
  cases fl with
  |ret u=>exact I.after hq
  |next=>exact False.elim hq
  |brk=>exact False.elim hq
  |cont=>exact False.elim hq
theorem qXr(F:FnOk X.prog X.w X.K X.mg X.base CX k f fd ps sp)(hr:Room k X.A)(hg:Gl X x)(hm:X.mg x=some (.ref f))(hk:PySem.W.keepIn X.K (.ref f)=true)(hb:qE1 X.K fd ps ds)(hd:qBh dvs ds)(hx:qDt CX X E)
  (ha:PA X (e :: es) t) (hdb:(x == ("__debug__" : Str))=false:=by decide) (he:starEach (e :: es) X.env=(false,eval e X.env) :: starEach es X.env:=by rfl) (hpl:(backTo pos (starEach es X.env)).any (·.1)=false:=by rfl) :
  PE X (.Call (.Name x p) (e :: es) [] pos) (qZ4 sp dvs E t):=by
 intro aB s σ H Q I h;refine hEf (qGx I hg hm ?_ hdb);refine PySem.W.callWith_K (h₀:=X.base) I.ok.mod.kin hk (thn (ha pos aB s σ H _ I h) λus s1 ⟨vs,H1,I1,r,q⟩=>⟨I1.kIn,?_⟩) he hpl;exact qQy F hr hb hd hx I1 r q
theorem qXo{pl:Sem Bool}(he:PE X o ta)(c:Cls X.K C)(hm:Meth X.K C m f)(F:FnOk X.prog X.w X.K X.mg X.base CX k f fd ps sp)(hr:Room k X.A)(hb:qE1 X.K fd ps ds)(hd:qBh dvs ds)(hx:qDt CX X E)(ha:PA X (e :: es) t)
  (hst:starEach (e :: es) X.env=(false,eval e X.env) :: starEach es X.env:=by rfl) (hpl:(backTo pos (starEach es X.env)).any (·.1)=false:=by rfl)
  (ht:eval (.Call (.Attribute o m apos) (e :: es) [] pos) X.env=(do
   let ov ← eval o X.env
   standAt apos.atName
   let (f,first) ← holding [ov] (getMethod ov m pl)
   callWith pos f first (backTo pos (starEach (e :: es) X.env)) (backToKw pos (keywordEach [] X.env))):=by rfl) :
  PE X (.Call (.Attribute o m apos) (e :: es) [] pos) (qZ0 C m sp dvs E ta t):=by
 intro aB s σ H Q I h;refine PySem.W.methodCall_KW (pl:=pl) (thn (he aB s σ H _ I h) λu s1 ⟨x,H1,I1,rx,a,dx,fs,ex,ea,l,q⟩=>?_) ht;subst ex;obtain rfl:u=Value.ref a:=rx;refine qHx I1 ea c hm l ?_;refine PySem.W.callWith_K (first:=[.ref a]) (h₀:=X.base) I.ok.mod.kin hm.kp (thn (ha pos aB s1 σ H1 _ I1 q) λus s2 ⟨vs,H2,I2,r,q2⟩=>⟨I2.kIn,?_⟩) hst hpl;exact qQy (us:=.ref a :: us) (vs:=.ref a :: vs) F hr hb hd hx I2 (.cons rfl r) q2
theorem qNg{pl:Sem Bool}(he:PE X o ta)(c:Cls X.K C)(hm:Meth X.K C m f)(F:FnOk X.prog X.w X.K X.mg X.base CX k f fd ps sp)(hr:Room k X.A)(hb:qE1 X.K fd ps ds)(hd:qBh dvs ds)(hx:qDt CX X E)
  (ht:eval (.Call (.Attribute o m apos) [] [] pos) X.env=(do
   let ov ← eval o X.env
   standAt apos.atName
   let (f,first) ← holding [ov] (getMethod ov m pl)
   callWith pos f first (backTo pos (starEach [] X.env)) (backToKw pos (keywordEach [] X.env))):=by rfl) :
  PE X (.Call (.Attribute o m apos) [] [] pos) (qZ0 C m sp dvs E ta qPk):=by
 intro aB s σ H Q I h;refine PySem.W.methodCall_KW (pl:=pl) (thn (he aB s σ H _ I h) λu s1 ⟨x,H1,I1,rx,a,dx,fs,ex,ea,l,q⟩=>?_) ht;subst ex;obtain rfl:u=Value.ref a:=rx;refine qHx I1 ea c hm l ?_;exact PySem.W.callWith_K0 (first:=[.ref a]) I1.kIn hm.kp (qQy (us:=[.ref a]) (vs:=[.ref a]) F hr hb hd hx I1 (.cons rfl .nil) q)
structure Mk(K:PySem.W.Frag)(C f:Addr):Prop where
 makes:PySem.W.makesIn K C=true
 init:PySem.W.findIn K (.ref C) "__init__"=some (some (.ref f))
 fn:PySem.W.isFn K (.ref f)=true
 kp:PySem.W.keepIn K (.ref C)=true
theorem qTf{aB:List (Addr×Obj)}{σ:St}{H:Hp}{s:Shared}{Q:VK}{us:List Value}{vs:List V}(M:Mk X.K C f)(F:FnOk X.prog X.w X.K X.mg X.base CX k f fd ps sp)(hr:Room (k+1) X.A)(hb:qE1 X.K fd ps ds)(hd:qBh dvs ds)
  (hx:qDt CX X E) (I:Inv X aB σ H s) (r:qBh vs us)
  (h:∀x dx,H x=none->H dx=none->dx≠x->sp (.ref x :: (vs++dvs)) (upd (upd H dx (.own x)) x (.ins C dx [])) (λv H2=>v = .non/\Q (.ref x) H2) E) :
  wpAny (model X.prog X.w) X.A (call (.ref C) us) (EP X aB σ Q) X.xe s:=by
 have hq:=h (s.heap.objs.size+1) s.heap.objs.size (I.hok.fresh (hAy _)) (I.hok.fresh (hA3 _)) (hAi (hAt _));have I2:=Inv.made (C:=C) I;have r2:qBh (V.ref (s.heap.objs.size+1) :: (vs++dvs)) (Value.ref (s.heap.objs.size+1) :: (us++ds)):=.cons rfl (r.append hd);have hl:(Value.ref (s.heap.objs.size+1) :: us++ds).length=ps.length:=by
  have e:=r2.length;rw[F.len _ _ _ _ hq]at e;exact e.symm
 refine wpAny_call (qUb (f:=f) I.kIn M.makes M.init (beq_iff_eq.mp M.fn) (hEl (F.run _ X.stack _ _ ⟨Value.ref (s.heap.objs.size+1) :: us,[]⟩ (Value.ref (s.heap.objs.size+1) :: (us++ds)) _ _ E (hr.make C us [])
  (I2.env0.make C us []) (hb _ (Value.ref (s.heap.objs.size+1) :: us) I2.kIn hl) r2 hq) λr s' hq'=>?_))
 cases r with
 |error e=>exact hx aB σ _ _ e s' I2 hq'
 |ok fl =>
  cases fl with
  |ret u =>
   obtain⟨v,H',I3,rv,ev,q3⟩:=I2.after hq';subst ev;exact⟨rv,⟨V.ref (s.heap.objs.size+1),H',I3,rfl,q3⟩⟩
  |next=>exact False.elim hq'
  |brk=>exact False.elim hq'
  |cont=>exact False.elim hq'
theorem qXp(M:Mk X.K C f)(F:FnOk X.prog X.w X.K X.mg X.base CX k f fd ps sp)(hr:Room (k+1) X.A)(hg:Gl X x)(hm:X.mg x=some (.ref C))(hb:qE1 X.K fd ps ds)(hd:qBh dvs ds)(hx:qDt CX X E)
  (ha:PA X (e :: es) t) (hdb:(x == ("__debug__" : Str))=false:=by decide) (he:starEach (e :: es) X.env=(false,eval e X.env) :: starEach es X.env:=by rfl) (hpl:(backTo pos (starEach es X.env)).any (·.1)=false:=by rfl) :
  PE X (.Call (.Name x p) (e :: es) [] pos) (zC7 C sp dvs E t):=by
 intro aB s σ H Q I h;refine hEf (qGx I hg hm ?_ hdb);refine PySem.W.callWith_K (h₀:=X.base) I.ok.mod.kin M.kp (thn (ha pos aB s σ H _ I h) λus s1 ⟨vs,H1,I1,r,q⟩=>⟨I1.kIn,?_⟩) he hpl;exact qTf M F hr hb hd hx I1 r q
end
section
variable{X:Cx}{CX:CXT}{k:Nat}{f C:Addr}{fd:FuncData}{ps ks:List Str}{sp:Sp}{E:XK}{x m:Str}{p pos apos kpos:Pos}{e o:Expr}{es:List Expr}{kws:List Keyword}{te ta:TE}{t tk:TA}{nm:Option Str}
structure KBinds(K:PySem.W.Frag)(fd:FuncData)(ps ks:List Str)(g:List Value->List Value->List Value)(gV:List V->List V->List V):Prop where
 to:∀(s:Shared) (us ws:List Value),K.In s.heap->(g us ws).length=ps.length->BindsTo s fd ⟨us,ks.zip ws⟩ (ps.zip (g us ws))
 rel:∀ {vs:List V} {us:List Value} {zs:List V} {ws:List Value},qBh vs us->qBh zs ws->qBh (gV vs zs) (g us ws)
variable{g:List Value->List Value->List Value}{gV:List V->List V->List V}
end
structure FnScope(N P:List Str)(sc:Scope):Prop where
 kind:sc.kind = .function
 co:sc.isCoroutine=false
 gen:sc.isGenerator=false
 nd:N.Nodup
 pre:N.take P.length=P
 par:∀x∈P,sc.names.lookup x=some .local\/sc.names.lookup x=some .cell
 nofree:∀y∈sc.names,y.2≠.free
theorem fsk{N P:List Str}{sc:Scope}(a:sc.kind = .function:=by rfl)(b:sc.isCoroutine=false:=by rfl)(c:sc.isGenerator=false:=by rfl)(d:N.Nodup:=by decide +kernel)(e:N.take P.length=P:=by rfl)(f:∀x∈P,sc.names.lookup x=some .local\/sc.names.lookup x=some .cell:=by decide +kernel)(g:∀y∈sc.names,y.2≠.free:=by decide +kernel):FnScope N P sc:=⟨a,b,c,d,e,f,g⟩
theorem qKx{kindOf:Str->Option NameKind}{x:Str}:∀ {binds:List (Str×Value)} {m:Str->Option Value},(∀v,(x,v)∉binds)->bindL kindOf binds m x=m x
 |[],_,_=>rfl
 |(n,v) :: r,m,h=>by
  unfold bindL;rw[qKx λw hw=>h w (hA4 _ hw)];split
  ·have:x≠n:=by rintro rfl;exact h v hA6
   simp[this]
  ·rfl
theorem qKz{kindOf:Str->Option NameKind}{x:Str}:∀ {binds:List (Str×Value)} {m:Str->Option Value},(∀v,(x,v)∉binds)->bindC kindOf binds m x=m x
 |[],_,_=>rfl
 |(n,v) :: r,m,h=>by
  unfold bindC;rw[qKz λw hw=>h w (hA4 _ hw)];split
  ·rfl
  ·have:x≠n:=by rintro rfl;exact h v hA6
   simp[this]
theorem qKy{kindOf:Str->Option NameKind}{x:Str}{v:Value}:∀ {P:List Str} {vs:List Value} {i:Nat} {m:Str->Option Value},P.Nodup->P[i]?=some x->vs[i]?=some v->kindOf x=some .local ->
  bindL kindOf (P.zip vs) m x=some v
 |[],_,_,_,_,h,_,_=>by simp at h
 |_ :: _,[],_,_,_,_,h,_=>by simp at h
 |p :: P,w :: vs,0,m,nd,h1,h2,hk=>by
  simp at h1 h2;subst h1;subst h2;show bindL kindOf ((p,w) :: P.zip vs) m p=_;unfold bindL;rw[qKx λv hv=>(hBq.mp nd).1 (List.of_mem_zip hv).1,hDu hk];simp
 |p :: P,w :: vs,i+1,m,nd,h1,h2,hk=>by
  show bindL kindOf ((p,w) :: P.zip vs) m x=_;unfold bindL;exact qKy (i:=i) (hBq.mp nd).2 (by simpa using h1) (by simpa using h2) hk
theorem qK0{kindOf:Str->Option NameKind}{x:Str}{v:Value}:∀ {P:List Str} {vs:List Value} {i:Nat} {m:Str->Option Value},P.Nodup->P[i]?=some x->vs[i]?=some v->kindOf x≠some .local ->
  bindC kindOf (P.zip vs) m x=some v
 |[],_,_,_,_,h,_,_=>by simp at h
 |_ :: _,[],_,_,_,_,h,_=>by simp at h
 |p :: P,w :: vs,0,m,nd,h1,h2,hk=>by
  simp at h1 h2;subst h1;subst h2;show bindC kindOf ((p,w) :: P.zip vs) m p=_;unfold bindC;rw[qKz λv hv=>(hBq.mp nd).1 (List.of_mem_zip hv).1,hDt hk];simp
 |p :: P,w :: vs,i+1,m,nd,h1,h2,hk=>by
  show bindC kindOf ((p,w) :: P.zip vs) m x=_;unfold bindC;exact qK0 (i:=i) (hBq.mp nd).2 (by simpa using h1) (by simpa using h2) hk
def start(N:List Str)(vs:List V):St:=vs.map some++List.replicate (N.length-vs.length) none
def qSn(CX:CXT)(P:Program)(w:World)(K:PySem.W.Frag)(mg:Str->Option Value)(base:Heap)(N:List Str)(qual:Str)(scope:Scope)(f:Addr)(cd:Value)(A:Around)(outer:List Env)(s:Shared)(H:Hp)(E:XK):Cx where
 prog:=P
 w:=w
 K:=K
 mg:=mg
 base:=base
 A:=A.deeper (envOfC qual scope s.heap.objs.size f cd)
 N:=N
 s₀:=s
 H₀:=H
 env:=envOfC qual scope s.heap.objs.size f cd
 outer:=outer
 stack:=envOfC qual scope s.heap.objs.size f cd :: outer
 ex:=[]
 calm:=true
 fn:=λ_=>true
 pn:=[]
 xe:=λe s'=>wpAny (model P w) (A.deeper (envOfC qual scope s.heap.objs.size f cd)) (leaving (envOfC qual scope s.heap.objs.size f cd) e) (λ_ s''=>CX outer H s E e s'') (λe' s''=>CX outer H s E e' s'') s'
theorem qN3{sc:Scope}{n:Nat}{x:Str}(h:sc.names.lookup x=some .cell):∃c,(cellsFrom n sc.names []).lookup x=some c:=by
 have q:=hD3 sc.names n [] (.inl h);exact hCf.mp q
theorem qR2{CX:CXT}{P:Program}{w:World}{K:PySem.W.Frag}{mg:Str->Option Value}{base:Heap}{N ps:List Str}{qual:Str}{scope:Scope}{f:Addr}{cd:Value}{A:Around}{outer:List Env}{s s1:Shared}{H:Hp}{E:XK}{us:List Value}{vs:List V}
  (S:FnScope N ps scope) (hd:A.handled=none) (e0:Env0 P w K mg base A outer s H) (hl:vs.length=ps.length) (r:qBh vs us)
  (x:InCallC s s.heap.objs.size (bindL (envOfC qual scope s.heap.objs.size f cd).kindOf (ps.zip us) λ_=>none) (cellsFrom (s.heap.objs.size+1) scope.names []) (bindC (envOfC qual scope s.heap.objs.size f cd).kindOf (ps.zip us) λ_=>none) s1) :
  Inv (qSn CX P w K mg base N qual scope f cd A outer s H E) [] (start N vs) H s1:=by
 have hpl:ps.length<=N.length:=by have:=congrArg List.length S.pre;rw[hAn]at this;omega
 obtain⟨h1,tk,rfl,hk⟩:=x.done;have noA:∀b:Addr,b∉(qSn CX P w K mg base N qual scope f cd A outer s H E).ex:=λb z=>absurd (show b∈([]:List Addr) from z) (by simp)
 refine⟨⟨e0.mod,S.kind,rfl,rfl,hA3 _,λy z c h1 h2=>?_,λy hy=>?_,λy c _ h=>?_,λ_=>hd,Around.frames_deeper e0.frames,.inr ⟨rfl,rfl⟩,λb z=>absurd z (noA b),e0.bs,e0.bsz,λb _ _=>noA b,λb z=>absurd z (noA b),e0.funs,e0.frf⟩,
  rfl,e0.bare,Un.kept hk,⟨_,x.toInCall.ns,λi y v h1 h2 h3=>?_⟩,λy c h=>⟨_,x.cell y c h⟩,e0.hok.fresh (hA3 _),λy c h=>?_,λp hp=>absurd (show p∈([]:List (Addr×Obj)) from hp) (by simp),e0.hok.kept hk,?_⟩
 ·exact name_of_addr x.apart (hBg h1) (hBg h2)
 ·have hy:scope.names.lookup y=some .cell\/scope.names.lookup y=some .free:=hy;rcases hy with hy|hy
  ·exact qN3 hy
  ·exact absurd rfl (S.nofree _ (hBg hy))
 ·exact hAz (x.above y c (hBg h))
 ·have hi:i<vs.length:=by
   unfold start at h2;by_cases hi:i<vs.length
   ·exact hi
   ·rw[List.getElem?_append_right (by simpa using hi)]at h2;rw[List.getElem?_replicate]at h2;split at h2 <;> cases h2
  have ha:vs[i]?=some v:=by
   unfold start at h2;rw[hCb (by simpa using hi),hAj]at h2;cases e:vs[i]? with
   |none=>rw[e]at h2;cases h2
   |some a=>rw[e]at h2;cases h2;rfl
  obtain⟨u,hu,rv⟩:=r.get ha;have hp:ps[i]?=some y:=by
   rw[<-S.pre,List.getElem?_take_of_lt (by omega)];exact h1
  have ndP:ps.Nodup:=by rw[<-S.pre];exact S.nd.sublist (List.take_sublist _ _)
  refine⟨u,rv,?_⟩;rcases S.par y (hAs hp) with k|k
  ·exact .inl ⟨k,qKy ndP hp hu k⟩
  ·obtain⟨c,e⟩:=qN3 (n:=s.heap.objs.size+1) k;refine .inr ⟨.inl k,c,e,?_⟩;have q:=x.cell y c e;rw[qK0 ndP hp hu (by show scope.names.lookup y≠_;rw[k];decide)]at q;exact q
 ·exact e0.hok.fresh (hAz (x.above y c (hBg h)))
 ·unfold start;show _=N.length;rw[hAd,hA1,List.length_replicate];omega
theorem zB2{CX:CXT}{P:Program}{w:World}{K:PySem.W.Frag}{mg:Str->Option Value}{base:Heap}{k:Nat}{f:Addr}{name qual:Str}{params:Arguments}{body:List Stmt}{scope:Scope}{dV kV doc pm cdv ct oc:Value}{an od:Option Addr}
  {osl:Array (Option Value)} {N ps:List Str} {sp:Sp} (lk:K.lookup f=some ⟨oc,od,.func (PySem.W.fnOf name qual params body scope dV kV doc pm an cdv ct),osl⟩) (hcd:PySem.W.codeIn K cdv qual=true) (S:FnScope N ps scope)
  (len:∀vs H Q E,sp vs H Q E->vs.length=ps.length)
  (hbody:∀(A:Around) (outer:List Env) (s:Shared) (H:Hp) (vs:List V) (Q:VK) (E:XK),Room k (A.deeper (envOfC qual scope s.heap.objs.size f cdv))->sp vs H Q E ->
   ∃t,PSs (qSn CX P w K mg base N qual scope f cdv A outer s H E) body t/\t { nx:=λ_ H'=>Q .non H',rt:=Q } (start N vs) H) :
  FnOk P w K mg base CX (k+1) f (PySem.W.fnOf name qual params body scope dV kV doc pm an cdv ct) ps sp:=by
 refine⟨len,λA outer s H args us vs Q E hr e0 hb r hsp=>?_⟩;have hl:=len _ _ _ _ hsp;have KX:K.In s.heap:=e0.mod.kin.keeps λb o e=>(e0.bs b o e).1
 have lim:s.heap.NoLimit:=e0.mod.nolimit.keeps λb o e=>(e0.bs b o e).1
 have hkind:∀y∈ps.zip us,scope.names.lookup y.1=some .local\/(scope.names.lookup y.1=some .cell/\((cellsFrom (s.heap.objs.size+1) scope.names []).lookup y.1).isSome=true):=λ⟨n,v⟩ hy=>by
  rcases S.par n (List.of_mem_zip hy).1 with q|q
  ·exact .inl q
  ·exact .inr ⟨q,hD3 _ _ _ (.inl q)⟩
 refine codeAny_call_function hr.depth (KX _ _ lk) rfl S.co S.gen rfl (PySem.W.codeRec_of KX hcd) (hb _ _ _ _ ?_);refine wpAny_newFunctionEnv_cells S.kind hkind λenv he s1 x=>?_
 subst he;refine⟨lim.keeps x.toInCall.keep,codeAny_func ?_⟩;obtain⟨t,ht,hq⟩:=hbody A outer s H vs Q E (hr.deeper _) hsp;have I:Inv (qSn CX P w K mg base N qual scope f cdv A outer s H E) [] (start N vs) H s1:=qR2 S hr.hd e0 hl r x;refine hDz (ht [] s1 (start N vs) H _ I hq) (λfl s' hs=>?_) λe s' hs=>hs
 have fin:∀ {σ':St} {H':Hp} {v:V} {u:Value},Inv (qSn CX P w K mg base N qual scope f cdv A outer s H E) [] σ' H' s'->qB6 v u->Q v H'->CE outer P w H s Q u s' :=
  λ{σ' H' v u} J rv q=>⟨v,H',J.os,J.bare,J.base,J.hok,rv,q⟩
 cases fl with
 |ret u =>
  obtain⟨v,σ',H',J,rv,q⟩:=hs;exact fin J rv q
 |next =>
  obtain⟨σ',H',J,q⟩:=hs;exact fin (v:=V.non) (u:=Value.none) J rfl q
 |brk =>
  obtain⟨_,_,_,q⟩:=hs;exact False.elim q
 |cont =>
  obtain⟨_,_,_,q⟩:=hs;exact False.elim q
section
variable{X:Cx}{x:Str}{p pos:Pos}{e:Expr}{es:List Expr}{t:TA}{id T:String}{r:List V->Hp->VK->Prop}
def tCB(r:List V->Hp->VK->Prop)(t:TA):TE:=λσ H Q=>t σ H λvs H1=>r vs H1 Q
theorem qAg(hc:qB2 X (.builtin id) r)(hg:Gl X x)(hm:X.mg x=none)(hv:bootBuiltins x=some (.builtin id))(ha:PA X (e :: es) t)(hn:x≠"__name__":=by decide)(hdb:(x == ("__debug__" : Str))=false:=by decide)
  (he:starEach (e :: es) X.env=(false,eval e X.env) :: starEach es X.env:=by rfl) (hpl:(backTo pos (starEach es X.env)).any (·.1)=false:=by rfl):PE X (.Call (.Name x p) (e :: es) [] pos) (tCB r t):=by
 intro aB s σ H Q I h;refine hEf (qFn I hg hm hv ?_ hn hdb);exact PyProof.Rows.callWith_builtin1 (thn (ha pos aB s σ H _ I h) λus s1 ⟨vs,H1,I1,r1,q1⟩=>hc aB s1 σ H1 vs us Q I1 r1 q1) he hpl
theorem qBf(hc:qB2 X (.type T) r)(hg:Gl X x)(hm:X.mg x=none)(hv:bootBuiltins x=some (.type T))(ha:PA X (e :: es) t)(hn:x≠"__name__":=by decide)(hdb:(x == ("__debug__" : Str))=false:=by decide)
  (he:starEach (e :: es) X.env=(false,eval e X.env) :: starEach es X.env:=by rfl) (hpl:(backTo pos (starEach es X.env)).any (·.1)=false:=by rfl):PE X (.Call (.Name x p) (e :: es) [] pos) (tCB r t):=by
 intro aB s σ H Q I h;refine hEf (qFn I hg hm hv ?_ hn hdb);exact hC7 (thn (ha pos aB s σ H _ I h) λus s1 ⟨vs,H1,I1,r1,q1⟩=>hc aB s1 σ H1 vs us Q I1 r1 q1) he hpl
end
end L2
namespace HT
open PySem PyProof.Rows
section
variable{prog:Program}{w:World}{A:Around}{E:Value->Shared->Prop}{s:Shared}
theorem cat_tup{t b:Addr}{vs ws:List Value}{Q:Value->Shared->Prop}(ht:IsTup s.heap t vs.toArray)(hb:IsTup s.heap b ws.toArray)(hv:vs≠[])
  (h1:ws=[]->Q (.ref t) s) (h2:ws≠[]->Q (.ref s.heap.objs.size) { s with heap:=s.heap.push { cls:=.type "tuple",data:=.seq (vs++ws).toArray } })
  (hsz:vs.length+ws.length<=sizeLine):wpAny (model prog w) A (binaryOp .Add (.ref t) (.ref b)) Q E s:=by
 obtain⟨⟨cls,dd,data,sl⟩,ho,hc,n,hd⟩:=id ht;obtain⟨⟨cls2,dd2,data2,sl2⟩,ho2,hc2,n2,hd2⟩:=id hb;simp only at hc hd hc2 hd2;subst hc hd hc2 hd2;have e:vs.toArray++ws.toArray=(vs++ws).toArray:=by simp
 by_cases hw:ws=[]
 ·exact concat_meets ⟨_,ho,rfl⟩ ⟨_,ho2,rfl⟩ noFill_tuple_add seq_tuple_add PySem.F.slot_tuple_add PySem.F.entry_tuple_add (PySem.F.args_tuple_add_2 _ _)
   (tuple_addW1 t b vs.toArray ws.toArray n n2 dd dd2 sl sl2 (by simpa using hv) (by simp[hw])) ⟨ho,ho2,h1 hw⟩
 ·refine concat_meets ⟨_,ho,rfl⟩ ⟨_,ho2,rfl⟩ noFill_tuple_add seq_tuple_add PySem.F.slot_tuple_add PySem.F.entry_tuple_add (PySem.F.args_tuple_add_2 _ _)
   (tuple_addW2 t b vs.toArray ws.toArray n n2 dd dd2 sl sl2 (by simpa using hv) (by simpa using hw) (by rw[hAf,hAf];exact hsz)) ⟨ho,ho2,?_⟩
  rw[e];exact h2 hw
def sIx(n d:Nat):Option Int->Nat
 |none=>d
 |some v=>if v<0 then (v+(n:Int)).toNat else min v.toNat n
theorem sIx_nat(n d k:Nat):sIx n d (some (k:Int))=min k n:=by
 show(if (k:Int)<0 then ((k:Int)+(n:Int)).toNat else min (k:Int).toNat n)=min k n;rw[hDt (by omega),hBr]
theorem zAs(n d:Nat)(hd:d<=n)(o:Option Int):sIx n d o<=n:=by
 cases o with
 |none=>exact hd
 |some v =>
  show(if v<0 then (v+(n:Int)).toNat else min v.toNat n)<=n;by_cases hv:v<0
  ·rw[hDu hv];omega
  ·rw[hDt hv];exact Nat.min_le_right _ _
theorem qSr(v:Int)(n d:Nat):(if v<0 then max (v+(n:Int)) 0 else min v (n:Int))=((sIx n d (some v):Nat):Int):=by
 show(if v<0 then max (v+(n:Int)) 0 else min v (n:Int))=(((if v<0 then (v+(n:Int)).toNat else min v.toNat n):Nat):Int);by_cases hv:v<0
 ·simp only[hDu hv];omega
 ·simp only[hDt hv];omega
theorem qPf(lo hi:Option Int)(n:Nat):Builtin.Slice.sliceAdjust lo hi 1 (n:Int)=(((sIx n 0 lo:Nat):Int),((sIx n n hi:Nat):Int)):=by
 have h1:¬((1:Int)<0):=by omega
 unfold Builtin.Slice.sliceAdjust;simp only[h1,hEr];refine Prod.ext ?_ ?_
 ·cases lo with
  |none=>rfl
  |some v=>exact qSr v n 0
 ·cases hi with
  |none=>rfl
  |some v=>exact qSr v n n
theorem qO0(i j:Nat):Builtin.Slice.slicePlaces (i:Int) (j:Int) 1=j-i:=by
 unfold Builtin.Slice.slicePlaces;have h1:(1:Int) > 0:=by omega
 simp only[h1,if_true,Int.ediv_one];split <;> omega
theorem qHp{v:Value}{o:Option Int}{Q:Option Int->Shared->Prop}(p:IsPart v o)(h:Q o s):wpAny (model prog w) A (Builtin.Slice.slicePartIndex v) Q E s:=by
 cases p with
 |none=>exact slicePart_none h
 |int i t=>exact slicePart_int h
theorem qFq{sl:Addr}{vl vu:Value}{lo hi:Option Int}{n:Nat}{Q:Int×Int×Nat->Shared->Prop}(hs:s.heap.IsSliceOf sl vl vu .none)(pl:IsPart vl lo)(pu:IsPart vu hi)
  (h:Q (((sIx n 0 lo:Nat):Int),1,sIx n n hi-sIx n 0 lo) s):wpAny (model prog w) A (Builtin.Slice.sliceApplied (.ref sl) (pure (n:Int))) Q E s:=by
 obtain⟨os,hos,hcs,hds⟩:=id hs;unfold Builtin.Slice.sliceApplied Builtin.Slice.sliceFields;refine hDo (hDo (hE2 hos hds (x:=vl) rfl (hDo (hE2 hos hds (x:=vu) rfl (hDo (hE2 hos hds (x:=.none) rfl (hDq ?_)))))));refine hDo (slicePart_none ?_);show wpAny _ _ (if ((1:Int) == 0)=true then _ else _) _ _ s;rw[hDt (by decide)];refine hDo (qHp pl (hDo (qHp pu (hDo (hDq ?_)))));show wpAny _ _ (match Builtin.Slice.sliceAdjust lo hi 1 (n:Int) with|(lo,hi)=>pure (lo,(1:Int),Builtin.Slice.slicePlaces lo hi 1)) _ _ s;rw[qPf lo hi n];show wpAny _ _ (pure (((sIx n 0 lo:Nat):Int),(1:Int),Builtin.Slice.slicePlaces ((sIx n 0 lo:Nat):Int) ((sIx n n hi:Nat):Int) 1)) _ _ s;rw[qO0];exact hDq h
theorem qTq(xs:Array Value)(i k:Nat):((List.range k).filterMap λ(m:Nat)=>xs[((i:Int)+(m:Int)*1).toNat]?).toArray=((xs.toList.drop i).take k).toArray:=by
 have e:(λ(m:Nat)=>xs[((i:Int)+(m:Int)*1).toNat]?)=λm=>xs[i+m]?:=by
  funext m
  have:((i:Int)+(m:Int)*1).toNat=i+m:=by omega
  rw[this]
 rw[e];have:=pick_run xs i k;rw[List.filterMap_map]at this;have e2:((λx=>xs[x]?)∘λx=>i+x)=λm=>xs[i+m]?:=rfl
 rw[e2]at this;rw[this]
theorem getItem_tuple_cut{t sl:Addr}{items:Array Value}{vl vu:Value}{lo hi:Option Int}{Q:Value->Shared->Prop}(ht:IsTup s.heap t items)(hs:s.heap.IsSliceOf sl vl vu .none)(pl:IsPart vl lo)(pu:IsPart vu hi)
  (hw:¬(sIx items.size 0 lo=0/\sIx items.size items.size hi=items.size))
  (h:Q (.ref s.heap.objs.size) { s with heap:=s.heap.push { cls:=.type "tuple",data:=.seq ((items.toList.drop (sIx items.size 0 lo)).take (sIx items.size items.size hi-sIx items.size 0 lo)).toArray } })
  (hsz:items.size<=sizeLine):wpAny (model prog w) A (getItem (.ref t) (.ref sl)) Q E s:=by
 have htake:sizeOk (.seq ((items.toList.drop (sIx items.size 0 lo)).take (sIx items.size items.size hi-sIx items.size 0 lo)).toArray):=by
  show((items.toList.drop (sIx items.size 0 lo)).take (sIx items.size items.size hi-sIx items.size 0 lo)).toArray.size<=sizeLine;rw[hAf,hAn,hDh,hBo];omega
 have hj:sIx items.size items.size hi<=items.size:=zAs _ _ (hA3 _) hi;obtain⟨os,hos,hcs,hds⟩:=id hs;have hTs:s.TypeIs (.ref sl) "slice":=⟨os,hos,hcs⟩;unfold getItem;try with_reducible refine hDv ?_
 first|refine hDo (hDq ?_)|skip
 refine hDo (wpAny_sequenceKey ht.typeIs (by decide) ?_);refine hDo (wpAny_callSpecial?_slot (name:=Str.ofString "__getitem__") ht.typeIs PyProof.Rows.slot_tuple_getitem
  (hDx PyProof.Rows.slot_tuple_getitem ht.typeIs entry_tuple_getitem ?_ (args_tuple_getitem _ _)))
 show wpAny _ _ (Builtin.Tuple.tupleItemsOf (.ref t) >>= _) _ _ s;refine hDo (tupleItemsOf_ ht ?_);refine hDo (wpAny_typeOf hTs ?_);rw[hDu (by decide)];refine hDo (qFq hs pl pu ?_);have hno:¬((((sIx items.size 0 lo:Nat):Int) == 0 && (1:Int) == 1 && (sIx items.size items.size hi-sIx items.size 0 lo) == items.size)=true):=by
  intro q;rw[hB9,hB9]at q;have q1:((sIx items.size 0 lo:Nat):Int)=0:=eq_of_beq q.1.1;have q2:sIx items.size items.size hi-sIx items.size 0 lo=items.size:=eq_of_beq q.2;exact hw ⟨by omega,by omega⟩
 show wpAny _ _ (if (((sIx items.size 0 lo:Nat):Int) == 0 && (1:Int) == 1 && (sIx items.size items.size hi-sIx items.size 0 lo) == items.size)=true then _ else _) _ _ s;rw[hDt hno,qTq]
 first
  |exact hDo (m:=Builtin.Tuple.tupleExact _) (hDw (hDq ⟨_,rfl,hDq h⟩) htake)
  |exact hDo (m:=Builtin.Tuple.tupleExact _) (hDw (hDo (hDq (hDq ⟨_,rfl,hDq h⟩))) htake)
  |exact hDo (hDo (m:=Builtin.Tuple.tupleExact _) (hDw (hDq (hDq ⟨_,rfl,hDq h⟩)) htake))
  |exact hDo (hDo (m:=Builtin.Tuple.tupleExact _) (hDw (hDq ⟨_,rfl,hDq h⟩) htake))
end
end HT
namespace L2
open PySem PySem.Spec PyProof.Rows
abbrev TO:=St->Hp->(Option Int->Hp->Prop)->Prop
def PO(X:Cx)(e:Option Expr)(t:TO):Prop :=
 ∀(aB:List (Addr×Obj)) (s:Shared) (σ:St) (H:Hp) (Q:Option Int->Hp->Prop),Inv X aB σ H s->t σ H Q ->
  wpAny (model X.prog X.w) X.A (evalPart e X.env) (λu s'=>∃o H',Inv X aB σ H' s'/\IsPart u o/\Q o H') X.xe s
def qWp:TO:=λ_ H Q=>Q none H
def zC3(t:TE):TO:=λσ H Q=>t σ H λx H1=>∃i,x = .int i/\Q (some i) H1
section
variable{X:Cx}{e:Expr}{te:TE}{lo hi:Option Expr}{tl th:TO}{pos p2:Pos}
theorem qIs:PO X none qWp:=by
 intro aB s σ H Q I h;rw[evalPart_none];exact hDq ⟨none,H,I,.none,h⟩
theorem qIr(h:PE X e te):PO X (some e) (zC3 te):=by
 intro aB s σ H Q I hw;rw[evalPart_some];refine thn (h aB s σ H _ I hw) λu s1 ⟨x,H1,I1,r1,q1⟩=>?_
 obtain⟨i,rfl,q⟩:=q1;obtain⟨t,rfl⟩:=r1;exact⟨some i,H1,I1,.int i t,q⟩
def SlR(X:Cx)(r:V->Option Int->Option Int->Hp->VK->Prop):Prop :=
 ∀(aB:List (Addr×Obj)) (s:Shared) (σ:St) (H:Hp) (x:V) (v vl vu:Value) (lo hi:Option Int) (sl:Addr) (Q:VK),Inv X aB σ H s->qB6 x v->s.heap.IsSliceOf sl vl vu .none->IsPart vl lo->IsPart vu hi->r x lo hi H Q ->
  ∃T id,typeLookup (.type T) "__getitem__"=pure (some (.builtin id))/\s.TypeIs v T/\wpAny (model X.prog X.w) X.A (getItem v (.ref sl)) (EP X aB σ Q) X.xe s
def tSl(r:V->Option Int->Option Int->Hp->VK->Prop)(te:TE)(tl th:TO):TE:=λσ H Q=>te σ H λx H1=>tl σ H1 λl H2=>th σ H2 λu H3=>r x l u H3 Q
theorem qFx{r:V->Option Int->Option Int->Hp->VK->Prop}(hr:SlR X r)(he:PE X e te)(hl:PO X lo tl)(hu:PO X hi th):PE X (.Subscript e (.Slice lo hi none p2) pos) (tSl r te tl th):=by
 intro aB s σ H Q I h;refine Subscript_ (thn (he aB s σ H _ I h) λv s1 ⟨x,H1,I1,r1,q1⟩=>?_);refine wpAny_Slice (thn (hl aB s1 σ H1 _ I1 q1) λvl s2 ⟨l,H2,I2,pl,q2⟩=>thn (hu aB s2 σ H2 _ I2 q2) λvu s3 ⟨u,H3,I3,pu,q3⟩=>?_);rw[evalPart_none];refine hDq ?_;have I4:Inv X aB σ H3 { s3 with heap:=s3.heap.push { cls:=.type "slice",data:=.fields #[vl,vu,.none] } }:=I3.kept (t':=s3.toks) λb ob q=>Heap.get?_push_of_some _ q
 obtain⟨T,id,hT,ht,hg⟩:=hr aB { s3 with heap:=s3.heap.push { cls:=.type "slice",data:=.fields #[vl,vu,.none] } } σ H3 x v vl vu l u s3.heap.objs.size Q I4 r1 (Heap.IsSliceOf.new ..) pl pu q3;show wpAny (model X.prog X.w) X.A (subscriptTail e (.Slice lo hi none p2) v (.ref s3.heap.objs.size)) (EP X aB σ Q) X.xe { s3 with heap:=s3.heap.push { cls:=.type "slice",data:=.fields #[vl,vu,.none] } };exact tail_any (ops:=[.ref s3.heap.objs.size,v]) ht hT hg (by with_unfolding_all rfl)
def qWe(xs:List V)(lo hi:Option Int):List V:=(xs.drop (HT.sIx xs.length 0 lo)).take (HT.sIx xs.length xs.length hi-HT.sIx xs.length 0 lo)
theorem qG3(xs:List V)(lo hi:Option Int):(qWe xs lo hi).length<=xs.length:=by
 unfold qWe;rw[hAn,hDh];omega
def zEu(K:PySem.W.Frag):V->Option Int->Option Int->Hp->VK->Prop:=λx lo hi H Q=>∃a xs,x = .ref a/\SqT K H a xs /\
 ¬(HT.sIx xs.length 0 lo=0/\HT.sIx xs.length xs.length hi=xs.length)/\∀p,H p=none->Q (.ref p) (upd H p (.tup (qWe xs lo hi)))
theorem zAd:SlR X (zEu X.K):=by
 intro aB s σ H x v vl vu lo hi sl Q I rx hs pl pu h;obtain⟨a,xs,rfl,hx,hw,q⟩:=h;cases rx;obtain⟨its,r,ht,hz⟩:=I.tuple hx;have hlen:its.toArray.size=xs.length:=by rw[hAf];exact r.length.symm
 refine⟨"tuple",_,PyProof.Rows.slot_tuple_getitem.lookup,ht.typeIs,?_⟩;refine HT.getItem_tuple_cut ht hs pl pu (by rw[hlen];exact hw) ?_ (by rw[hlen];exact hz);rw[hlen];refine⟨.ref s.heap.objs.size,_,I.laid (t':=s.toks) (o:=.tup (qWe xs lo hi)) (λb ob q=>Heap.get?_push_of_some _ q) (hA3 _) ?_,rfl,q _ (I.hok.fresh (hA3 _))⟩;exact⟨hAx (qG3 xs lo hi) hz,_,(r.drop (HT.sIx xs.length 0 lo)).take (HT.sIx xs.length xs.length hi-HT.sIx xs.length 0 lo),IsTup.new _ _⟩
def zDj(K:PySem.W.Frag):R2:=λx y H Q=>∃a b xs ys,x = .ref a/\y = .ref b/\SqT K H a xs/\SqT K H b ys/\xs≠[]/\xs.length+ys.length<=sizeLine /\
 (ys=[]->Q (.ref a) H)/\(ys≠[]->∀p,H p=none->Q (.ref p) (upd H p (.tup (xs++ys))))
theorem qBh.nil_iff{xs:List V}{us:List Value}(r:qBh xs us):us=[]↔xs=[]:=by
 cases r with
 |nil=>simp
 |cons _ _=>simp
theorem qL1:OpR X (binaryOp .Add) (zDj X.K):=by
 intro aB s σ H x y v u Q I rx ry h;obtain⟨a,b,xs,ys,rfl,rfl,ha,hb,hx,hz,q1,q2⟩:=h;cases rx;cases ry;obtain⟨its,r1,p1,_⟩:=I.tuple ha;obtain⟨its2,r2,p2,_⟩:=I.tuple hb;refine HT.cat_tup p1 p2 (λz=>hx (r1.nil_iff.mp z)) (λz=>⟨.ref a,H,I,rfl,q1 (r2.nil_iff.mp z)⟩) (λz=>?_) (by rw[<-r1.length,<-r2.length];exact hz);refine⟨.ref s.heap.objs.size,_,I.laid (t':=s.toks) (o:=.tup (xs++ys)) (λb ob q=>Heap.get?_push_of_some _ q) (hA3 _) ?_,rfl,q2 (λw=>z (r2.nil_iff.mpr w)) _ (I.hok.fresh (hA3 _))⟩;exact⟨by rw[hAd];exact hz,_,r1.append r2,IsTup.new _ _⟩
end
def ixN(n:Nat)(i:Int):Option Nat:=if 0<=i then (if i<n then some i.toNat else none) else if -(n:Int)<=i then some (i+n).toNat else none
def atI{α:Type}(xs:List α)(i:Int):Option α:=(ixN xs.length i).bind λj=>xs[j]?
theorem qYt{n:Nat}{i:Int}{j:Nat}(h:ixN n i=some j):seqIndex? i n=some j/\j<n/\-(n:Int)<=i/\i<n:=by
 unfold ixN at h;by_cases h0:0<=i
 ·rw[hDu h0]at h;by_cases h1:i<n
  ·rw[hDu h1]at h;have e:i.toNat=j:=hAr h;exact⟨by rw[seqIndex_of h0 h1,e],by omega,by omega,h1⟩
  ·rw[hDt h1]at h;cases h
 ·rw[hDt h0]at h;by_cases h1:-(n:Int)<=i
  ·rw[hDu h1]at h;have e:(i+n).toNat=j:=hAr h;exact⟨by rw[seqIndex_neg (by omega) h1,e],by omega,h1,by omega⟩
  ·rw[hDt h1]at h;cases h
theorem qMl{α:Type}{xs:List α}{i:Int}{v:α}(h:atI xs i=some v):∃j,seqIndex? i xs.length=some j/\xs[j]?=some v/\j<xs.length/\-(xs.length:Int)<=i/\i<xs.length:=by
 unfold atI at h;cases e:ixN xs.length i with
 |none=>rw[e]at h;cases h
 |some j =>
  rw[e]at h;obtain⟨h1,h2,h3,h4⟩:=qYt e;exact⟨j,h1,h,h2,h3,h4⟩
theorem qAv{α:Type}{xs:List α}{j:Nat}{v:α}(h:xs[j]?=some v):atI xs (j:Int)=some v:=by
 have hj:j<xs.length:=(hAc.mp h).1;have e:ixN xs.length (j:Int)=some j:=by
  unfold ixN;rw[hDu (by omega),hDu (by omega)];simp
 unfold atI;rw[e];exact h
def qMn(b:Expr):Prop:=∀o i,subscripted b false o i=operate [o,i] (getItem o i)
def IxR(X:Cx)(r:R2):Prop :=
 ∀(value slice:Expr) (aB:List (Addr×Obj)) (s:Shared) (σ:St) (H:Hp) (x y:V) (v u:Value) (Q:VK),Inv X aB σ H s->qB6 x v->qB6 y u->r x y H Q ->
  subscripted slice false v u=operate [v,u] (getItem v u)->wpAny (model X.prog X.w) X.A (subscriptTail value slice v u) (EP X aB σ Q) X.xe s
def MtR(X:Cx)(id:String)(r:V->List V->Hp->VK->Prop):Prop :=
 ∀(aB:List (Addr×Obj)) (s:Shared) (σ:St) (H:Hp) (x:V) (xs:List V) (v:Value) (us:List Value) (Q:VK),Inv X aB σ H s->qB6 x v->qBh xs us->r x xs H Q ->
  wpAny (model X.prog X.w) X.A (call (.builtin id) (v :: us)) (EP X aB σ Q) X.xe s
section
variable{X:Cx}{a b:Expr}{ta tb:TE}{pos:Pos}
theorem qA6{r:R2}(hr:IxR X r)(ha:PE X a ta)(hb:PE X b tb)(hs:qMn b):PE X (.Subscript a b pos) (tOp r ta tb):=by
 intro aB s σ H Q I h;exact Subscript_ (zDz ha hb I h λv u s2 x y H2 I2 rx ry q=>hr a b aB s2 σ H2 x y v u Q I2 rx ry q (hs _ _))
def zCn(K:PySem.W.Frag):R2:=λx y H Q=>∃p xs i v,x = .ref p/\y = .int i/\SqL K H p xs/\atI xs i=some v/\Q v H
def qLx(K:PySem.W.Frag):R2:=λx y H Q=>∃p xs i v,x = .ref p/\y = .int i/\SqT K H p xs/\atI xs i=some v/\Q v H
def zEw:R2:=λx y H Q=>∃z i c,x = .str z/\y = .int i/\z.length<=sizeLine/\atI z.cps.toList i=some c/\Q (.str ⟨#[c]⟩) H
theorem qBz:IxR X (zCn X.K):=by
 intro value slice aB s σ H x y v u Q I rx ry h hs;obtain⟨p,xs,i,z,rfl,rfl,hq,he,q⟩:=h;cases rx;obtain⟨t,rfl⟩:=ry;obtain⟨its,r,pl,hz⟩:=I.list hq;obtain⟨j,h1,h2,h3,h4,h5⟩:=qMl he;obtain⟨w,ew,rw'⟩:=r.get h2;have hl:=r.length;have hn:=qHv;have fin:EP X aB σ Q w s:=⟨z,H,I,rw',q⟩;by_cases h0:0<=i
 ·have hj:i.toNat=j:=by
   rw[seqIndex_of h0 h5]at h1;exact hAr h1
  exact item_listR pl.isList h0 (by omega) (by rw[hj];simpa using ew) fin hs
 ·have hj:(i+(its.toArray.size:Int)).toNat=j:=by
   rw[seqIndex_neg (by omega) h4]at h1;rw[hAf,<-hl];exact hAr h1
  exact subscriptTail_builtinR (x:=w) pl.isList.typeIs slot_list_getitem.lookup
   (wpAny_getItem_list_neg (Q:=λr s'=>r=w/\EP X aB σ Q r s') pl.isList (by omega) (by rw[hAf] <;> omega) (by omega) (by rw[hj];simpa using ew) ⟨rfl,fin⟩) hs
theorem qA7:IxR X (qLx X.K):=by
 intro value slice aB s σ H x y v u Q I rx ry h hs;obtain⟨p,xs,i,z,rfl,rfl,hq,he,q⟩:=h;cases rx;obtain⟨t,rfl⟩:=ry;obtain⟨its,r,pl,hz⟩:=I.tuple hq;obtain⟨j,h1,h2,h3,h4,h5⟩:=qMl he;obtain⟨w,ew,rw'⟩:=r.get h2;have hl:=r.length;have hn:=qHv;have fin:EP X aB σ Q w s:=⟨z,H,I,rw',q⟩;exact subscriptTail_builtinR (x:=w) pl.typeIs slot_tuple_getitem.lookup
  (getItem_tuple (j:=j) (Q:=λr s'=>r=w/\EP X aB σ Q r s') pl (by omega) (by omega) (by rw[hAf,<-hl];exact h1) (by simpa using ew) ⟨rfl,fin⟩) hs
theorem qV3:IxR X zEw:=by
 intro value slice aB s σ H x y v u Q I rx ry h hs;obtain⟨z,i,c,rfl,rfl,hz,he,q⟩:=h;obtain⟨t,rfl⟩:=rx;obtain⟨t',rfl⟩:=ry;obtain⟨j,h1,h2,h3,h4,h5⟩:=qMl he;have hl:z.cps.toList.length=z.length:=by simp[Str.length]
 rw[hl]at h1 h4 h5;have hn:=qHv;exact tail_any (typeIs_str s z t) slot_str_getitem.lookup (getItem_str (c:=c) (by
  have e1:decide (i < -(2^63:Int))=false:=hDr (by omega);have e2:decide (i >= 2^63)=false:=hDr (by omega);rw[e1,e2,Bool.or_false]) (by rw[h1];simpa using h2) ⟨.str ⟨#[c]⟩,H,I.tok _,⟨_,rfl⟩,q⟩) hs
theorem qJp(lo hi:Option Int)(n:Nat):(sliceBounds lo hi none n).1=((HT.sIx n 0 lo:Nat):Int)/\(sliceBounds lo hi none n).2.1=((HT.sIx n n hi:Nat):Int)/\(sliceBounds lo hi none n).2.2=1:=by
 refine⟨?_,?_,rfl⟩
 ·cases lo with
  |none=>simp[sliceBounds,HT.sIx]
  |some i =>
   simp only[sliceBounds,HT.sIx,Option.getD_none,show(1:Int) > 0 by decide,if_true];by_cases h:i<0
   ·simp only[h,if_true] <;> omega
   ·simp only[h,hEr] <;> omega
 ·cases hi with
  |none=>simp[sliceBounds,HT.sIx]
  |some i =>
   simp only[sliceBounds,HT.sIx,Option.getD_none,show(1:Int) > 0 by decide,if_true];by_cases h:i<0
   ·simp only[h,if_true] <;> omega
   ·simp only[h,hEr] <;> omega
theorem qIf(its:List Value)(lo hi:Option Int):slicePick its.toArray lo hi none=((its.drop (HT.sIx its.length 0 lo)).take (HT.sIx its.length its.length hi-HT.sIx its.length 0 lo)).toArray:=by
 obtain⟨h1,h2,h3⟩:=qJp lo hi its.toArray.size;unfold slicePick;rw[h1,h2,h3];simp only[sliceRange_one,pick_run,hAf] <;> rfl
def zEv(K:PySem.W.Frag):V->Option Int->Option Int->Hp->VK->Prop:=λx lo hi H Q=>∃a xs,x = .ref a/\SqL K H a xs/\∀p,H p=none->Q (.ref p) (upd H p (.lst (qWe xs lo hi)))
theorem qWu:SlR X (zEv X.K):=by
 intro aB s σ H x v vl vu lo hi sl Q I rx hs pl pu h;obtain⟨a,xs,rfl,hx,q⟩:=h;cases rx;obtain⟨its,r,ht,hz⟩:=I.list hx;have hlen:=r.length;refine⟨"list",_,slot_list_getitem.lookup,ht.isList.typeIs,?_⟩;refine wpAny_getItem_list_slice ht.isList hs pl pu .none (by simp) ?_ (by rw[hAf] <;> omega);rw[qIf,<-hlen];refine⟨.ref s.heap.objs.size,_,I.laid (t':=s.toks) (o:=.lst (qWe xs lo hi)) (λb ob q=>Heap.get?_push_of_some _ q) (hA3 _) ?_,rfl,q _ (I.hok.fresh (hA3 _))⟩;exact⟨hAx (qG3 xs lo hi) hz,_,0,(r.drop (HT.sIx xs.length 0 lo)).take (HT.sIx xs.length xs.length hi-HT.sIx xs.length 0 lo),Heap.get?_push_size _ rfl⟩
def qI5:V->Bool
 |.non=>true
 |.bl _=>true
 |.int _=>true
 |.str _=>true
 |_=>false
def eqV:V->V->Bool
 |.non,.non=>true
 |.bl a,.bl b=>a == b
 |.bl a,.int b=>(if a then 1 else 0) == b
 |.int a,.bl b=>a == (if b then 1 else 0)
 |.int a,.int b=>a == b
 |.str a,.str b=>a == b
 |_,_=>false
theorem zB4{A:Around}{s:Shared}{y x:V}{u v:Value}(ry:qB6 y u)(rx:qB6 x v)(fy:qI5 y=true)(fx:qI5 x=true):SeqAt.EqAt A s u v (eqV y x):=by
 cases y with
 |non =>
  cases ry;cases x with
  |non=>cases rx;exact SeqAt.EqAt.same _
  |bl b=>cases rx;exact SeqAt.EqAt.none_bool b
  |int b=>obtain⟨t,rfl⟩:=rx;exact SeqAt.EqAt.none_int b t
  |str b=>obtain⟨t,rfl⟩:=rx;exact SeqAt.EqAt.none_str b t
  |_=>exact absurd (show false=true from fx) hAm
 |bl a =>
  cases ry;cases x with
  |non=>cases rx;exact SeqAt.EqAt.bool_none a
  |bl b=>cases rx;exact SeqAt.EqAt.bool_bool a b
  |int b=>obtain⟨t,rfl⟩:=rx;exact SeqAt.EqAt.bool_int a b t
  |str b=>obtain⟨t,rfl⟩:=rx;exact SeqAt.EqAt.bool_str a b t
  |_=>exact absurd (show false=true from fx) hAm
 |int a =>
  obtain⟨t',rfl⟩:=ry;cases x with
  |non=>cases rx;exact SeqAt.EqAt.int_none a t'
  |bl b=>cases rx;exact SeqAt.EqAt.int_bool a t' b
  |int b=>obtain⟨t,rfl⟩:=rx;exact SeqAt.EqAt.int_int a t' b t
  |str b=>obtain⟨t,rfl⟩:=rx;exact SeqAt.EqAt.int_str a t' b t
  |_=>exact absurd (show false=true from fx) hAm
 |str a =>
  obtain⟨t',rfl⟩:=ry;cases x with
  |non=>cases rx;exact SeqAt.EqAt.str_none a t'
  |bl b=>cases rx;exact SeqAt.EqAt.str_bool a t' b
  |int b=>obtain⟨t,rfl⟩:=rx;exact SeqAt.EqAt.str_int a t' b t
  |str b=>obtain⟨t,rfl⟩:=rx;exact SeqAt.EqAt.str_str a t' b t
  |_=>exact absurd (show false=true from fx) hAm
 |_=>exact absurd (show false=true from fy) hAm
def eqU(x:V)(u:Value):Bool:=match u with
 |.none=>eqV .non x
 |.bool b=>eqV (.bl b) x
 |.int i _=>eqV (.int i) x
 |.str z _=>eqV (.str z) x
 |_=>false
theorem qV6{x y:V}{u:Value}(r:qB6 y u)(f:qI5 y=true):eqU x u=eqV y x:=by
 cases y with
 |non=>cases r;rfl
 |bl b=>cases r;rfl
 |int i=>obtain⟨t,rfl⟩:=r;rfl
 |str z=>obtain⟨t,rfl⟩:=r;rfl
 |_=>exact absurd (show false=true from f) hAm
theorem qG9{x:V}:∀ {xs:List V} {us:List Value},qBh xs us->xs.all qI5=true->us.any (eqU x)=xs.any λy=>eqV y x
 |_,_,.nil,_=>rfl
 |y :: xs,u :: us,.cons r t,f=>by
  rw[List.all_cons,hB9]at f;rw[hD9,hD9,qV6 r f.1,qG9 t f.2]
theorem qEr{A:Around}{s:Shared}{x:V}{v:Value}(rx:qB6 x v)(fx:qI5 x=true):∀ {xs:List V} {us:List Value},qBh xs us->xs.all qI5=true->∀u∈us,SeqAt.EqAt A s u v (eqU x u)
 |_,_,.nil,_=>λu hu=>by cases hu
 |y :: xs,u :: us,.cons r t,f=>λu' hu=>by
  rw[List.all_cons,hB9]at f;rcases hA8.mp hu with rfl|hu
  ·rw[qV6 r f.1];exact zB4 r rx f.1 fx
  ·exact qEr rx fx t f.2 u' hu
def inV(x:V)(xs:List V):Bool:=xs.any λy=>eqV y x
def rIn(K:PySem.W.Frag)(neg:Bool):R2:=λx y H Q=>∃p xs,y = .ref p/\(SqL K H p xs\/SqT K H p xs)/\qI5 x=true/\xs.all qI5=true/\Q (.bl (if neg then !inV x xs else inV x xs)) H
theorem qEo:OpR X (compareOp .In) (rIn X.K false):=by
 intro aB s σ H x y v u Q I rx ry h;obtain⟨p,xs,rfl,hq,fx,fs,q⟩:=h;cases ry;rcases hq with hq|hq
 ·obtain⟨its,r,pl,hz⟩:=I.list hq;refine SeqAt.in_listAt (eqU x) pl.isList (λw hw=>qEr rx fx r fs w (by simpa using hw)) ⟨.bl _,H,I,rfl,?_⟩;rw[show its.toArray.any (eqU x)=its.any (eqU x) by simp,qG9 r fs];exact q
 ·obtain⟨its,r,pl,hz⟩:=I.tuple hq;refine SeqAt.in_tupleAt (eqU x) pl (λw hw=>qEr rx fx r fs w (by simpa using hw)) ⟨.bl _,H,I,rfl,?_⟩;rw[show its.toArray.any (eqU x)=its.any (eqU x) by simp,qG9 r fs];exact q
theorem qJ1:OpR X (compareOp .NotIn) (rIn X.K true):=by
 intro aB s σ H x y v u Q I rx ry h;obtain⟨p,xs,rfl,hq,fx,fs,q⟩:=h;cases ry;rcases hq with hq|hq
 ·obtain⟨its,r,pl,hz⟩:=I.list hq;refine SeqAt.notIn_listAt (eqU x) pl.isList (λw hw=>qEr rx fx r fs w (by simpa using hw)) ⟨.bl _,H,I,rfl,?_⟩;rw[show its.toArray.any (eqU x)=its.any (eqU x) by simp,qG9 r fs];exact q
 ·obtain⟨its,r,pl,hz⟩:=I.tuple hq;refine SeqAt.notIn_tupleAt (eqU x) pl (λw hw=>qEr rx fx r fs w (by simpa using hw)) ⟨.bl _,H,I,rfl,?_⟩;rw[show its.toArray.any (eqU x)=its.any (eqU x) by simp,qG9 r fs];exact q
theorem qAt:qB2 X (.builtin "len") (λxs H Q=>∃p ys,xs=[.ref p]/\(SqL X.K H p ys\/SqT X.K H p ys)/\Q (.int ys.length) H):=by
 intro aB s σ H xs us Q I r h;obtain⟨p,ys,rfl,hq,q⟩:=h;obtain⟨u,rfl,rx⟩:=qCw r;cases rx;have hn:=qHv;rcases hq with hq|hq
 ·obtain⟨its,r',pl,hz⟩:=I.list hq;have hlen:=r'.length;exact Calls.call_len_list pl.isList (by simp only[hAf] <;> omega) ⟨.int ys.length,H,I.tok _,⟨s.toks+1,by rw[hAf,hlen]⟩,q⟩
 ·obtain⟨its,r',pl,hz⟩:=I.tuple hq;have hlen:=r'.length;exact len_tuple pl (by simp only[hAf] <;> omega) ⟨.int ys.length,H,I.tok _,⟨s.toks+1,by rw[hAf,hlen]⟩,q⟩
theorem qCy:qB2 X (.builtin "len") (λxs H Q=>∃z,xs=[.str z]/\z.length<=sizeLine/\Q (.int z.length) H):=by
 intro aB s σ H xs us Q I r h;obtain⟨z,rfl,hz,q⟩:=h;obtain⟨u,rfl,t,rfl⟩:=qCw r;have hn:=qHv;exact len_str (by omega) ⟨.int z.length,H,I.tok _,⟨_,rfl⟩,q⟩
theorem qCg:qB2 X (.type "list") (λxs H Q=>∃p ys,xs=[.ref p]/\(SqL X.K H p ys\/SqT X.K H p ys)/\∀l,H l=none->Q (.ref l) (upd H l (.lst ys))):=by
 intro aB s σ H xs us Q I r h;obtain⟨p,ys,rfl,hq,q⟩:=h;obtain⟨u,rfl,rx⟩:=qCw r;cases rx;have fin:∀(its:List Value),qBh ys its->ys.length<=sizeLine->∀(h':Heap) (c':Nat),(∀b o',s.heap.get? b=some o'->h'.get? b=some o') ->
   h'.get? s.heap.objs.size=some { cls:=.type "list",dict:=none,data:=.seq its.toArray c',slots:=#[] }->EP X aB σ Q (.ref s.heap.objs.size) { s with heap:=h' }:=λits r' hz h' c' kp e =>
  ⟨.ref s.heap.objs.size,_,I.laid (t':=s.toks) kp (hA3 _) (show qB3 X.prog X.w _ h' _ (.lst ys) from ⟨hz,its,c',r',e⟩),rfl,q _ (I.hok.fresh (hA3 _))⟩
 rcases hq with hq|hq
 ·obtain⟨its,r',pl,hz⟩:=I.list hq;have hlen:=r'.length;obtain⟨o,ho,hc,n,hd⟩:=pl.isList;exact call_list_seq p (.inl rfl) ho hc hd (λh' c' kp e=>fin its r' hz h' c' kp e) (by simp only[hAf] <;> omega)
 ·obtain⟨its,r',pl,hz⟩:=I.tuple hq;have hlen:=r'.length;obtain⟨o,ho,hc,n,hd⟩:=pl;exact call_list_seq p (.inr rfl) ho hc hd (λh' c' kp e=>fin its r' hz h' c' kp e) (by simp only[hAf] <;> omega)
theorem qDg:qB2 X (.type "tuple") (λxs H Q=>∃p ys,xs=[.ref p]/\((SqL X.K H p ys/\∀l,H l=none->Q (.ref l) (upd H l (.tup ys)))\/(SqT X.K H p ys/\Q (.ref p) H))):=by
 intro aB s σ H xs us Q I r h;obtain⟨p,ys,rfl,h⟩:=h;obtain⟨u,rfl,rx⟩:=qCw r;cases rx;rcases h with ⟨hq,q⟩|⟨hq,q⟩
 ·obtain⟨its,r',pl,hz⟩:=I.list hq;have hlen:=r'.length;refine call_tuple_list pl.isList (λh' kp=>?_) (by simp only[hAf] <;> omega);have I1:Inv X aB σ H { s with heap:=h' }:=I.kept (t':=s.toks) kp;have I2:Inv X aB σ (upd H h'.objs.size (.tup ys)) { s with heap:=h'.push { cls:=.type "tuple",data:=.seq its.toArray } } :=
   I1.laid (t':=s.toks) (λb o e=>Heap.get?_push_of_some _ e) (hA3 _) (show qB3 X.prog X.w _ _ _ (.tup ys) from ⟨hz,its,r',IsTup.new _ _⟩)
  exact⟨.ref h'.objs.size,_,I2,rfl,q _ (I1.hok.fresh (hA3 _))⟩
 ·obtain⟨its,r',pl,hz⟩:=I.tuple hq;exact call_tuple_same pl ⟨.ref p,H,I,rfl,q⟩
def tyV(K:PySem.W.Frag)(T:String)(x:V)(H:Hp):Prop:=match x with
 |.str _=>T = "str"
 |.int _=>T = "int"
 |.ref p=>(T = "list"/\∃xs,SqL K H p xs)\/(T = "tuple"/\∃o,K.lookup p=some o/\o.cls = .type "tuple"/\o.dict=none) \/
   (T = "dict"/\((∃kvs,H p=some (.dK kvs))\/∃kvs,H p=some (.dT kvs)))\/(T = "set"/\∃S n,H p=some (.set S n))
 |_=>False
theorem qUy{aB:List (Addr×Obj)}{σ:St}{H:Hp}{s:Shared}{T:String}{x:V}{v:Value}(I:Inv X aB σ H s)(r:qB6 x v)(ty:tyV X.K T x H) :
  s.TypeIs v T/\∀a,v = .ref a->∃ob,s.heap.get? a=some ob/\ob.dict=none:=by
 cases x with
 |str z =>
  obtain⟨t,rfl⟩:=r;cases(show T = "str" from ty);exact⟨typeIs_str s z t,λ_ e=>nomatch e⟩
 |int i =>
  obtain⟨t,rfl⟩:=r;cases(show T = "int" from ty);exact⟨typeIs_int s i t,λ_ e=>nomatch e⟩
 |ref p =>
  cases r;rcases ty with ⟨rfl,xs,hq⟩|⟨rfl,o,hk,hc,hd⟩|⟨rfl,hk⟩|⟨rfl,S,n,hk⟩
  ·obtain⟨its,_,pl,_⟩:=I.list hq;refine⟨pl.isList.typeIs,λa e=>?_⟩;cases e;obtain⟨o,n,e,c,hd,_⟩:=pl;exact⟨o,e,hd⟩
  ·refine⟨⟨o,I.kIn p o hk,hc⟩,λa e=>?_⟩;cases e;exact⟨o,I.kIn _ o hk,hd⟩
  ·have z:∃o,s.heap.get? p=some o/\o.ExactDict:=by
    rcases hk with ⟨kvs,hk⟩|⟨kvs,hk⟩
    ·obtain⟨_,_,_,_,o,_,_,e,ex,_⟩:=I.hok p _ hk;exact⟨o,e,ex⟩
    ·obtain⟨_,_,_,_,o,_,_,e,ex,_⟩:=I.hok p _ hk;exact⟨o,e,ex⟩
   obtain⟨o,e,ex⟩:=z;refine⟨⟨o,e,ex.1⟩,λa e2=>?_⟩;cases e2;exact⟨o,e,ex.2.1⟩
  ·obtain⟨o,_,_,_,e,ex,_⟩:=I.hok p _ hk;refine⟨⟨o,e,ex.1⟩,λa e2=>?_⟩;cases e2;exact⟨o,e,ex.2.1⟩
 |_=>exact False.elim ty
def zEp(K:PySem.W.Frag)(T:String)(r:V->List V->Hp->VK->Prop)(to:TE):TE:=λσ H Q=>to σ H λx H1=>tyV K T x H1/\r x [] H1 Q
def tBM(K:PySem.W.Frag)(T:String)(r:V->List V->Hp->VK->Prop)(to:TE)(t:TA):TE:=λσ H Q=>to σ H λx H1=>tyV K T x H1/\t σ H1 λxs H2=>r x xs H2 Q
variable{o e:Expr}{es:List Expr}{to:TE}{t:TA}{name:Str}{apos cpos:Pos}{T id:String}{r:V->List V->Hp->VK->Prop}
theorem qRd(pa:PlainAttrs T)(slot:Slot T name id)(hty:typeOf (.builtin id)=pure (.type "method_descriptor"))(hm:MtR X id r)(ho:PE X o to)
  (hbase:attributeBase o name X.env (eval o X.env)=eval o X.env:=by rfl) (hline:(apos.endLine == cpos.line)=true:=by rfl):PE X (.Call (.Attribute o name apos) [] [] cpos) (zEp X.K T r to):=by
 intro aB s σ H Q I h;refine wpAny_Call_method0_late hbase hline (thn (ho aB s σ H _ I h) λv s1 ⟨x,H1,I1,r1,ty,q1⟩=>?_);obtain⟨h1,h2⟩:=qUy I1 r1 ty;exact⟨T,id,pa,slot,hty,h1,h2,Calls.callWith_builtin rfl (PySem.evalArgs_none (hm aB s1 σ H1 x [] v [] Q I1 r1 .nil q1))⟩
theorem qEm(pa:PlainAttrs T)(slot:Slot T name id)(hty:typeOf (.builtin id)=pure (.type "method_descriptor"))(hm:MtR X id r)(ho:PE X o to)(ha:PA X (e :: es) t)
  (hbase:attributeBase o name X.env (eval o X.env)=eval o X.env:=by rfl)
  (hfew:((backTo cpos (starEach (e :: es) X.env)).all (λx=>!x.1) && (backToKw cpos (keywordEach [] X.env)).all (λx=>x.1.isSome)
   && decide ((e :: es).length+([]:List Keyword).length+(if ([]:List Keyword).isEmpty then 0 else 1)<30))=true:=by rfl)
  (hline:(apos.endLine == cpos.line)=true:=by rfl) (hs:starEach (e :: es) X.env=(false,eval e X.env) :: starEach es X.env:=by rfl) (hplain:(backTo cpos (starEach es X.env)).any (·.1)=false:=by rfl) :
  PE X (.Call (.Attribute o name apos) (e :: es) [] cpos) (tBM X.K T r to t):=by
 intro aB s σ H Q I h;refine wpAny_Call_method_late hbase hfew hline rfl (thn (ho aB s σ H _ I h) λv s1 ⟨x,H1,I1,r1,ty,q1⟩=>?_);obtain⟨h1,h2⟩:=qUy I1 r1 ty;refine⟨T,id,pa,slot,hty,h1,h2,?_⟩;have hA:=ha cpos aB s1 σ H1 _ I1 q1;rw[hs]at hA ⊢;refine Calls.callWith_builtin (by show(false || (backTo cpos (starEach es X.env)).any (·.1))=false;rw[hplain] <;> rfl) (Calls.evalArgs_plain ?_);exact thn hA λus s2 ⟨vs,H2,I2,r2,q2⟩=>hm aB s2 σ H2 x vs v us Q I2 r1 r2 q2
end
def MtM(X:Cx)(id:String)(r:V->List V->Hp->VK->Prop):Prop :=
 ∀(aB:List (Addr×Obj)) (s:Shared) (σ:St) (H:Hp) (x:V) (xs:List V) (v:Value) (us:List Value) (Q:VK),Inv X aB σ H s->qB6 x v->qBh xs us->r x xs H Q ->
  wpAny (model X.prog X.w) X.A (call (.builtin id) (v :: us)) (EP X aB σ Q) X.xe s
theorem qBh.one:∀ {x:V} {us:List Value},qBh [x] us->∃u,us=[u]/\qB6 x u
 |_,_,.cons r .nil=>⟨_,rfl,r⟩
theorem qBh.zero:∀ {us:List Value},qBh [] us->us=[]
 |_,.nil=>rfl
theorem qBh.reverse{xs:List V}{us:List Value}(h:qBh xs us):qBh xs.reverse us.reverse:=by
 induction h with
 |nil=>exact .nil
 |cons r t ih=>rw[List.reverse_cons,List.reverse_cons];exact qBh.append ih (.cons r .nil)
section
variable{X:Cx}{aB:List (Addr×Obj)}{σ:St}{H:Hp}{s:Shared}{l b:Addr}{xs ys zs:List V}
theorem Inv.lset{its its':List Value}{n:Nat}{f:Array Value->Array Value}{t':Nat}(I:Inv X aB σ H s)(hH:H l=some (.lst xs))
  (e:s.heap.get? l=some { cls:=.type "list",data:=.seq its.toArray n }) (hf:f its.toArray=its'.toArray) (hv:qBh ys its') (hz:ys.length<=sizeLine) :
  Inv X aB σ (upd H l (.lst ys)) { s with heap:=s.heap.update l (Obj.mapSeq f),toks:=t' }:=by
 have q:=PySem.IsL.update e f;rw[hf]at q;refine I.write (x:=l) (e:=l) (by rw[hH];exact trivial) (.inl rfl) (λb' u hb hu=>(Heap.get?_update_other s.heap (Obj.mapSeq f) (Ne.symm hb)).trans hu) ⟨_,q⟩ ?_;exact⟨hz,its',_,hv,q⟩
theorem Inv.lnew{its:List Value}{t':Nat}(I:Inv X aB σ H s)(hv:qBh ys its)(hz:ys.length<=sizeLine) :
  Inv X aB σ (upd H s.heap.objs.size (.lst ys)) { s with heap:=s.heap.push { cls:=.type "list",data:=.seq its.toArray },toks:=t' } :=
 I.laid (λ_ _ q=>Heap.get?_push_of_some _ q) (hA3 _) ⟨hz,its,0,hv,Heap.get?_push_size _ rfl⟩
theorem Inv.fresh(I:Inv X aB σ H s):H s.heap.objs.size=none:=I.hok.fresh (hA3 _)
theorem Inv.lstM(I:Inv X aB σ H s)(hH:H l=some (.lst xs)):xs.length<=sizeLine/\∃(its:List Value) (n:Nat),qBh xs its/\xs.length=its.length/\s.heap.get? l=some { cls:=.type "list",data:=.seq its.toArray n }:=by
 obtain⟨z,its,n,r,e⟩:=I.hok l _ hH;exact⟨z,its,n,r,r.length,e⟩
end
section
variable{X:Cx}
def qXd:V->List V->Hp->VK->Prop:=λx vs H Q=>∃l xs y,x = .ref l/\vs=[y]/\H l=some (.lst xs)/\xs.length<sizeLine/\Q .non (upd H l (.lst (xs++[y])))
theorem qBt:MtM X "list.append" qXd:=by
 intro aB s σ H x vs v us Q I rx rv h;obtain⟨l,xs,y,rfl,rfl,hH,hz,q⟩:=h;cases rx;obtain⟨u,rfl,ru⟩:=rv.one;obtain⟨z,its,n,r,hl,e⟩:=I.lstM hH;refine call_meets F.slot_list_append ⟨_,e,rfl⟩ F.entry_list_append (F.args_list_append_2 _ _) (PySem.list_append l its.toArray n u (by rw[hAf];omega)) ⟨e,?_⟩;refine⟨.non,_,I.lset (its':=its++[u]) hH e (by simp) (r.append (.cons ru .nil)) ?_,rfl,q⟩;rw[hAd,List.length_singleton];omega
def qTo:V->List V->Hp->VK->Prop:=λx vs H Q=>∃l xs,x = .ref l/\vs=[]/\H l=some (.lst xs)/\Q .non (upd H l (.lst xs.reverse))
theorem qO5:MtM X "list.reverse" qTo:=by
 intro aB s σ H x vs v us Q I rx rv h;obtain⟨l,xs,rfl,rfl,hH,q⟩:=h;cases rx;have hus:=rv.zero;subst hus;obtain⟨z,its,n,r,hl,e⟩:=I.lstM hH;refine call_meets F.slot_list_reverse ⟨_,e,rfl⟩ F.entry_list_reverse (F.args_list_reverse_1 _) (AutoSeq1.list_reverse_list_0 l its.toArray n (by rw[hAf];omega)) ⟨e,?_⟩;refine⟨.non,_,I.lset (its':=its.reverse) hH e (by simp) r.reverse ?_,rfl,q⟩;rw[List.length_reverse];omega
def rClear:V->List V->Hp->VK->Prop:=λx vs H Q=>∃l xs,x = .ref l/\vs=[]/\H l=some (.lst xs)/\Q .non (upd H l (.lst []))
theorem qT9:MtM X "list.clear" rClear:=by
 intro aB s σ H x vs v us Q I rx rv h;obtain⟨l,xs,rfl,rfl,hH,q⟩:=h;cases rx;have hus:=rv.zero;subst hus;obtain⟨z,its,n,r,hl,e⟩:=I.lstM hH;refine call_meets F.slot_list_clear ⟨_,e,rfl⟩ F.entry_list_clear (F.args_list_clear_1 _) (AutoSeq1.list_clear_list_0 l its.toArray n (by rw[hAf];omega)) ⟨e,?_⟩;exact⟨.non,_,I.lset (its':=[]) (ys:=[]) hH e rfl .nil (hAq _),rfl,q⟩
def zEy:R2:=λx y H Q=>∃l b xs zs,x = .ref l/\y = .ref b/\H l=some (.lst xs)/\H b=some (.lst zs)/\xs.length+zs.length<=sizeLine/\∀p,H p=none->Q (.ref p) (upd H p (.lst (xs++zs)))
theorem qHu:OpR X (binaryOp .Add) zEy:=by
 intro aB s σ H x y v u Q I rx ry h;obtain⟨l,b,xs,zs,rfl,rfl,hH,hB,hz,q⟩:=h;cases rx;cases ry;obtain⟨z,its,n,r,hl,e⟩:=I.lstM hH;obtain⟨z2,its2,n2,r2,hl2,e2⟩:=I.lstM hB;refine PySem.P.add_list e e2 ?_ (by rw[hAf,hAf];omega);have ea:its.toArray++its2.toArray=(its++its2).toArray:=by simp
 rw[ea];exact⟨.ref _,_,I.lnew (t':=s.toks) (r.append r2) (by rw[hAd];omega),rfl,q _ I.fresh⟩
end
end L2
namespace Att
open PySem PySem.W PySem.Calls PyProof.Rows
theorem qG0{P:Params}{h:Heap}:∀(ns:List Int) (vs:List Value),WellAll P h vs (ns.map WData.int)->IntsAre vs ns:=by
 intro ns
 induction ns with
 |nil =>
  intro vs w;rw[List.map_nil]at w;cases w;exact .nil
 |cons n ns ih =>
  intro vs w;rw[hAv]at w;cases w with
  |cons a b =>
   cases a;exact .cons _ _ (ih _ b)
theorem qQo{l:OpenLaw}{n:Nat}(hn:l.most=some n){P:Params}{h:Heap}{args:List WData}{vals:List Value}
  (hpre:l.row.toRowW.claim.pre args=true) (hwl:WellAll P h vals args) :
  ∃a vs ns,vals=[Value.ref a]/\args=[WData.list (ns.map WData.int)]/\h.get? a=some { cls:=.type "list",data:=.seq vs.toArray }/\IntsAre vs ns/\ns.length<=n:=by
 have hsh:WShape.hasAll [] args [.list .int]=true:=(pre_splitW hpre).1;have hc:l.pre.holds [] { args:=args }=true:=(pre_splitW hpre).2;obtain⟨d,r,rfl,h1,h2⟩:=hasAllW_cons hsh;obtain rfl:=hasAllW_nil h2;obtain⟨xs,rfl,h3⟩:=hasW_list h1;obtain⟨ns,rfl⟩:=items_int h3;have hlen:ns.length<=n:=by
  unfold OpenLaw.pre at hc;have h4:(WTm.not (.lt (.lit (.int (n:Int))) (.len (.arg 0)))).holds [] { args:=[.list (ns.map .int)] }=true:=by
   have h4:=(holds_andW hc).1;rw[hn]at h4;exact h4
  have h5:=condW_of h4 (w_not (w_lt w_lit (w_len_list (w_arg rfl))));rw[hA1]at h5;refine Nat.le_of_not_lt λq=>?_
  have q':(n:Int)<((ns.length:Nat):Int):=by omega
  first
   |(rw[hDp q']at h5;exact absurd h5 (by decide))
   |(simp at h5;omega)
 cases hwl with
 |cons w1 w2 =>
  cases w2;cases w1 with
  |list ho hall=>exact⟨_,_,ns,rfl,rfl,ho,qG0 ns _ hall,hlen⟩
theorem qQ9(l:OpenLaw)(args:List WData):l.row.toRowW.claim.post args (.bool true) args=true :=
 postW_of (r:=l.row.toRowW) (X:=(true == true))
  (show WShape.has [] (.bool true) .bool=true by first|rfl|decide|simp[WShape.has,WShape.arms,WShape.armsAll])
  (show(WTm.eq .res (.lit (.bool true))).value [] { args:=args,res:=some (.bool true),after:=args }=some (.bool (true == true)) from w_eq_bool (w_res rfl) w_lit) rfl
theorem attach_call{l:OpenLaw}{n:Nat}{q:Program}{loose:List Str}{XP:(Str->Option Value)->Heap->Prop}{YP:World->Heap->Prop}{d:DefRec}
  (hn:l.most=some n) (hdf:d.params.defaults=[])
  (call:∀(w:World) (s₀ s₁:Shared) (mg mb:Str->Option Value) (fa:Addr) (o:Obj) (pm cd doc:Value) (a:Addr) (vs:List Value) (ns:List Int),
   Ground q loose [] XP w s₀ mg mb s₁.heap->YP w s₁.heap ->
   s₁.heap.get? fa=some o->o.data = .func (docDef d.name d.params d.body d.scope pm cd doc)->s₁.heap.CodeRec cd d.name->mg d.name=some (.ref fa) ->
   s₁.heap.get? a=some { cls:=.type "list",data:=.seq vs.toArray }->IntsAre vs ns->ns.length<=n->s₁.gens=#[] ->
   codeAny (model l.prog w) callerA (.call (.ref fa) ⟨[.ref a],[]⟩) (λr s'=>r = .ok (.ret (.bool true))/\OldK s₁.heap s'.heap/\s'.os=s₁.os/\AllBare s'.gens) s₁) :
  WalkO q loose XP YP l.row.toRowW d [] (λf vs=>PySem.call f vs):=by
 intro w s₀ s₁ mg mb G Y fa o pm cd doc dV kV ho hd hcd hD hmg hg args vals as hpre hlay hrd hwl hlo;obtain rfl:dV = .none:=Dflts.none hD hdf;obtain rfl:kV = .none:=Dflts.noKw hD;obtain⟨a,vs,ns,rfl,rfl,hobj,hints,hlen⟩:=qQo hn hpre hwl;refine enter_call (hEl (call w s₀ s₁ mg mb fa o pm cd doc a vs ns G Y ho (fd_plain hd) hcd hmg hobj hints hlen hg) λr s' hq=>?_);obtain⟨rfl,h2,h3,h4⟩:=hq;exact⟨.inl ⟨.bool true,.bool true,[],rfl,λ_=>rfl,.bool true,qQ9 l _,λ_=>⟨List.Pairwise.nil,λ_ hm=>(nomatch hm)⟩⟩,h2,h3,h4⟩
section
variable{prog:Program}{w:World}{A:Around}{E:Value->Shared->Prop}{s:Shared}{K:Frag}
def zEd(h:Heap)(L d:Addr):List (Addr×Obj):=(List.range h.objs.size).filterMap λa=>if a=L\/a=d then none else (h.get? a).map λo=>(a,o)
end
end Att
namespace L2
open PySem PySem.Spec PyProof.Rows
theorem qJk:∀ {vs:List Value} {ns:List Int},IntsAre vs ns->qBh (ns.map V.int) vs
 |_,_,.nil=>.nil
 |_,_,.cons n t h=>.cons ⟨t,rfl⟩ (qJk h)
def zD1(H:Hp):Prop:=∀b,H b=none\/∃o xs,H b=some (.frz o (.lst xs))
theorem qUe{P:Program}{w:World}{K:PySem.W.Frag}{mg mb:Str->Option Value}{CX:CXT}{k:Nat}{fa a:Addr}{fd:FuncData}{x:Str}{sp:Sp}{s₁:Shared}{vs:List Value}{ns:List Int}
  (KX:K.In s₁.heap) (hns:s₁.heap.Ns mainGlobals mg) (hb:s₁.heap.Ns builtinsNs mb) (hbb:∀x:Str,x≠"__name__"->mb x=bootBuiltins x) (hlim:s₁.heap.NoLimit) (hg:s₁.gens=#[])
  (ha:s₁.heap.get? a=some { cls:=.type "list",data:=.seq vs.toArray }) (hi:IntsAre vs ns) (hl:ns.length<=sizeLine) (hr:Room k callerA)
  (F:∀base:Heap,K.In base->base.Ns mainGlobals mg->FnOk P w K mg base CX k fa fd [x] sp) (hbind:∀(s:Shared) (u:Value),BindsTo s fd ⟨[u],[]⟩ [(x,u)])
  (hsp:∀H:Hp,zD1 H->SqL K H a (ns.map V.int)->sp [.ref a] H (λv _=>v = .bl true) λ_ _ _=>False)
  (hCX:∀H e s',CX [] H s₁ (λ_ _ _=>False) e s'->False) :
  codeAny (model P w) callerA (.call (.ref fa) ⟨[.ref a],[]⟩) (λr s'=>r = .ok (.ret (.bool true))/\OldK s₁.heap s'.heap/\s'.os=s₁.os/\AllBare s'.gens) s₁:=by
 have rv:=qJk hi;have lenV:=hi.length;have core:∀H:Hp,zD1 H->SqL K H a (ns.map V.int)->HOk P w H s₁.heap->(∀b,H b≠none->b=a)->(H a≠none->K.lookup a=none) ->
   codeAny (model P w) callerA (.call (.ref fa) ⟨[.ref a],[]⟩) (λr s'=>r = .ok (.ret (.bool true))/\OldK s₁.heap s'.heap/\s'.os=s₁.os/\AllBare s'.gens) s₁:=by
  intro H hO hS hok hA hK;have base_of:∀ {b:Addr} {o:Obj},s₁.heap.get? b=some o->H b=none->(qUk s₁.heap H).get? b=some o:=λe n=>qUj e n
  have noA:∀ {b:Addr} {o:Obj} {es:Array DictEntry} {ep:Nat},s₁.heap.get? b=some o->o.data = .dict es ep->H b=none:=λ{b o es ep} e d=>by
   cases q:H b with
   |none=>rfl
   |some u =>
    have e':b=a:=hA b (by rw[q];simp);subst e';rw[ha]at e;cases e;have d':Data.seq vs.toArray _=Data.dict es ep:=d;cases d'
  have nsK:∀ {b:Addr} {m:Str->Option Value},s₁.heap.Ns b m->(qUk s₁.heap H).Ns b m:=λ{b m} ⟨o,es,ep,e,d,r⟩=>⟨o,es,ep,base_of e (noA e d),d,r⟩
  have hKb:K.In (qUk s₁.heap H):=λb o e=>base_of (KX b o e) (by
   cases q:H b with
   |none=>rfl
   |some u =>
    have e':b=a:=hA b (by rw[q];simp);subst e';rw[hK (by rw[q];simp)]at e;cases e)
  have hM:Mod K mg (qUk s₁.heap H):=⟨hKb,nsK hns,⟨mb,nsK hb,hbb⟩,let ⟨mc,h1,h2⟩:=hlim;⟨mc,nsK h1,h2⟩⟩;have e0:Env0 P w K mg (qUk s₁.heap H) callerA [] s₁ H:=⟨rfl,hM,λb o e=>qYf e,Nat.le_of_eq (qR4 _ _),trivial,λb hb=>absurd (show b∈([]:List Addr) from hb) (by simp),hok,.of_eq hg⟩;refine hEl ((F _ hKb (nsK hns)).run callerA [] s₁ H ⟨[.ref a],[]⟩ [.ref a] [.ref a] _ _ hr e0 (hbind s₁ (.ref a)) (.cons rfl .nil) (hsp H hO hS)) λr s' h=>?_
  cases r with
  |error e=>exact(hCX H e s' h).elim
  |ok fl =>
   cases fl with
   |next=>exact False.elim h
   |brk=>exact False.elim h
   |cont=>exact False.elim h
   |ret u =>
    obtain⟨v,H',os,bare,un,hok',r',q⟩:=h;have q':v = .bl true:=q;subst q';obtain rfl:u=Value.bool true:=r';refine⟨rfl,OldK.of_keep λb o e=>?_,os,bare⟩;cases q:H b with
    |none=>exact un.keep b o e q (by intro z;exact absurd (show b∈([]:List Addr) from z) (by simp)) (by simp)
    |some u =>
     rcases hO b with z|⟨ob,xs,z⟩
     ·rw[q]at z;cases z
     ·have z2:=un.frzs b ob _ z;obtain⟨e1,_⟩:=hok b _ z;obtain⟨e2,_⟩:=hok' b _ z2;rw[e]at e1;cases e1;exact e2
 cases hk:K.lookup a with
 |some o =>
  have e:=KX a o hk;rw[ha]at e;cases e;refine core (λ_=>none) (λ_=>.inl rfl) (.inr ⟨_,vs.toArray,_,hk,rfl,rfl,rfl,by rw[hAf,lenV];exact hl,by simpa using rv⟩) (λb u z=>by have z':(none:Option HO)=some u:=z;cases z') (λb z=>absurd rfl z) λz=>absurd rfl z
 |none =>
  refine core (λb=>if b=a then some (.frz { cls:=.type "list",data:=.seq vs.toArray } (.lst (ns.map V.int))) else none) (λb=>?_) (.inl (.inr ⟨{ cls:=.type "list",data:=.seq vs.toArray },hDu rfl⟩)) (λb u z=>?_) (λb z=>?_) λ_=>hk
  ·by_cases hb:b=a
   ·exact .inr ⟨_,_,hDu hb⟩
   ·exact .inl (hDt hb)
  ·by_cases hb:b=a
   ·have z':=(hDu hb).symm.trans z;cases z';subst hb;exact⟨ha,by rw[hA1];exact hl,vs,_,rv,ha⟩
   ·have z':=(hDt hb).symm.trans z;cases z'
  ·by_cases hb:b=a
   ·exact hb
   ·exact absurd (hDt hb) z
theorem walk_of{l:PySem.W.OpenLaw}{n k:Nat}{q:Program}{loose:List Str}{XP:(Str->Option Value)->Heap->Prop}{YP:World->Heap->Prop}{d:DefRec}{K:Params->PySem.W.Frag}{CX:World->CXT}{sp:World->Sp}{x:Str}
  (hn:l.most=some n) (hn2:n<=sizeLine) (hdf:d.params.defaults=[]) (hr:Room k callerA)
  (hY:∀(w:World) (h:Heap),YP w h->(K w.params).In h)
  (F:∀(w:World) (mg:Str->Option Value) (fa:Addr) (h:Heap),(K w.params).In h->h.Ns mainGlobals mg->mg d.name=some (.ref fa) ->
   ∃fd:FuncData,(∀(s:Shared) (u:Value),BindsTo s fd ⟨[u],[]⟩ [(x,u)]) /\
    ∀base:Heap,(K w.params).In base->base.Ns mainGlobals mg->FnOk l.prog w (K w.params) mg base (CX w) k fa fd [x] (sp w))
  (hsp:∀(w:World) (H:Hp) (a:Addr) (ns:List Int),ns.length<=n->zD1 H->SqL (K w.params) H a (ns.map V.int)->sp w [.ref a] H (λv _=>v = .bl true) λ_ _ _=>False)
  (hCX:∀(w:World) (H:Hp) (s:Shared) (e:Value) (s':Shared),CX w [] H s (λ_ _ _=>False) e s'->False) :
  PySem.W.WalkO q loose XP YP l.row.toRowW d [] (λf vs=>PySem.call f vs):=by
 refine Att.attach_call hn hdf λw s₀ s₁ mg mb fa o pm cd doc a vs ns G Y ho hd hcd hmg hobj hints hlen hg=>?_
 have KX:=hY w _ Y;obtain⟨fd,hb,hF⟩:=F w mg fa _ KX G.T.g hmg;exact qUe KX G.T.g G.T.b G.T.builtins G.T.nolimit hg hobj hints (hAx hlen hn2) hr hF hb (λH hO hS=>hsp w H a ns hlen hO hS) λH e s'=>hCX w H s₁ e s'
end L2
namespace L2
open PySem PySem.Spec PyProof.Rows
def qI2(s:Stmt)(j:Nat):Stmt:=match s with
 |.ClassDef _ _ _ body _ _ _ _ _ _ _=>body.getD j (.Pass ⟨0,0,0,0⟩)
 |_=>.Pass ⟨0,0,0,0⟩
def qAp(s:Stmt):Arguments:=match s with
 |.FunctionDef _ a _ _ _ _ _ _ _ _=>a
 |_=>{ posonlyargs:=[],args:=[],vararg:=none,kwonlyargs:=[],kw_defaults:=[],kwarg:=none,defaults:=[] }
def qAk(s:Stmt):List Stmt:=match s with
 |.FunctionDef _ _ b _ _ _ _ _ _ _=>b
 |_=>[]
def qAa(s:Stmt):Scope:=match s with
 |.FunctionDef _ _ _ _ _ _ sc _ _ _=>sc
 |_=>{ kind:=.function,names:=[],isGenerator:=false,isCoroutine:=false }
abbrev CX0:CXT:=λ_ _ _ _ _ _=>False
abbrev E0:XK:=λ_ _ _=>False
theorem qA2{X:Cx}:qDt CX0 X E0:=λ_ _ _ _ _ _ _ h=>h.elim
structure Fun(K:PySem.W.Frag)(x qual:Str)(st:Stmt)(f:Addr)(fd:FuncData):Prop where
 ex:∃(oc:Value) (od:Option Addr) (kV doc pm:Value) (an:Option Addr) (cdv ct:Value) (osl:Array (Option Value)),
  fd=PySem.W.fnOf x qual (qAp st) (qAk st) (qAa st) .none kV doc pm an cdv ct/\K.lookup f=some ⟨oc,od,.func fd,osl⟩/\PySem.W.codeIn K cdv qual=true
 kp:PySem.W.keepIn K (.ref f)=true
section
variable{P:Program}{w:World}{K:PySem.W.Frag}{mg:Str->Option Value}{base:Heap}
theorem Fun.ok{x qual:Str}{st:Stmt}{f:Addr}{fd:FuncData}{N ps:List Str}{k:Nat}{sp:Sp}(F:Fun K x qual st f fd)(S:FnScope N ps (qAa st))(len:∀vs H Q E,sp vs H Q E->vs.length=ps.length)
  (hbody:∀(cdv:Value) (A:Around) (outer:List Env) (s:Shared) (H:Hp) (vs:List V) (Q:VK) (E:XK),Room k (A.deeper (envOfC qual (qAa st) s.heap.objs.size f cdv))->sp vs H Q E ->
   ∃t,PSs (qSn CX0 P w K mg base N qual (qAa st) f cdv A outer s H E).nox (qAk st) t/\t { nx:=λ_ H'=>Q .non H',rt:=Q } (start N vs) H):v7 (k+1) f fd ps sp:=by
 obtain⟨oc,od,kV,doc,pm,an,cdv,ct,osl,rfl,lk,hcd⟩:=F.ex;refine zB2 lk hcd S len λA outer s H vs Q E hr hsp=>?_
 obtain⟨t,h,q⟩:=hbody cdv A outer s H vs Q E hr hsp;exact⟨t,h.nox,q⟩
theorem Fun.okA{x qual:Str}{st:Stmt}{f:Addr}{fd:FuncData}{N ps:List Str}{k:Nat}{sp:Sp}(F:Fun K x qual st f fd)(S:FnScope N ps (qAa st))
  (hbody:∀(cdv:Value) (A:Around) (outer:List Env) (s:Shared) (H:Hp) (vs:List V) (Q:VK) (E:XK),Room k (A.deeper (envOfC qual (qAa st) s.heap.objs.size f cdv))->sp vs H Q E ->
   ∃t,PSs (qSn CX0 P w K mg base N qual (qAa st) f cdv A outer s H E).nox (qAk st) t/\t { nx:=λ_ H'=>Q .non H',rt:=Q } (start N vs) H)
  (len:∀vs H Q E,sp vs H Q E->vs.length=ps.length:=by intro vs H Q E h;repeat (first|(obtain⟨e,_⟩:=h;subst e;rfl)|(obtain⟨_,h⟩:=h))):v7 (k+1) f fd ps sp:=Fun.ok F S len hbody
theorem Fun.binds{x qual:Str}{st:Stmt}{f:Addr}{fd:FuncData}{ps:List Str}(F:Fun K x qual st f fd)
  (h:∀(kV doc pm:Value) (an:Option Addr) (cdv ct:Value) (us:List Value),us.length=ps.length->bindArgs (PySem.W.fnOf x qual (qAp st) (qAk st) (qAa st) .none kV doc pm an cdv ct) ⟨us,[]⟩=pure (ps.zip us)):qE1 K fd ps []:=by
 obtain⟨oc,od,kV,doc,pm,an,cdv,ct,osl,rfl,lk,hcd⟩:=F.ex;exact .all (h kV doc pm an cdv ct)
theorem qAy{x qual:Str}{st:Stmt}{f:Addr}{oc:Value}{od an:Option Addr}{osl:Array (Option Value)}{kV doc pm cdv ct:Value}(l:K.lookup f=some ⟨oc,od,.func (PySem.W.fnOf x qual (qAp st) (qAk st) (qAa st) .none kV doc pm an cdv ct),osl⟩)
  (c:PySem.W.codeIn K cdv qual=true) (k:PySem.W.keepIn K (.ref f)=true):Fun K x qual st f (PySem.W.fnOf x qual (qAp st) (qAk st) (qAa st) .none kV doc pm an cdv ct):=⟨⟨oc,od,kV,doc,pm,an,cdv,ct,osl,rfl,l,c⟩,k⟩
end
theorem qAf{n:Nat}(h:n<=1000):n<sizeLine:=Nat.lt_of_le_of_lt h (by decide)
section
variable{X:Cx}
theorem pv(i:Nat){x:Str}{pos:Pos}(hN:X.N[i]?=some x:=by rfl)(hv:Vis X.env.scope x:=by first|exact Or.inl rfl|exact Or.inr (Or.inl rfl)|exact Or.inr (Or.inr rfl))(hd:(x == ("__debug__" : Str))=false:=by decide)
  (hcd:(x == ("__classdict__" : Str))=false:=by decide):PE X (.Name x pos) (qZf i):=zA0 hN hv hd hcd
end
theorem qGz{A B:Prop}(h:B):if false=true then A else B:=by
 rw[hDt hAm];exact h
theorem iteT{A B:Prop}(h:A):if true=true then A else B:=by
 rw[hDu rfl];exact h
theorem qB1{c A B:Prop}[Decidable c](h1:c->A)(h2:¬c->B):if c then A else B:=by
 by_cases h:c
 ·rw[hDu h];exact h1 h
 ·rw[hDt h];exact h2 h
end L2
set_option linter.all false
namespace L2
open PySem PySem.Spec PyProof.Rows
section
variable{κ:Type}[DecidableEq κ]
def qPj(kvs:List (κ×V))(k:κ):Option V:=(kvs.find? λkv=>decide (kv.1=k)).map (·.2)
def qZm(kvs:List (κ×V))(k:κ)(v:V):List (κ×V) :=
 if (kvs.any λkv=>decide (kv.1=k))=true then kvs.map (λkv=>if kv.1=k then (kv.1,v) else kv) else kvs++[(k,v)]
theorem qH7{p:κ×V}{r:List (κ×V)}{k:κ}(e:p.1=k):qPj (p :: r) k=some p.2:=by simp[qPj,hC8,e]
theorem qH8{p:κ×V}{r:List (κ×V)}{k:κ}(e:¬p.1=k):qPj (p :: r) k=qPj r k:=by simp[qPj,hC8,e]
theorem qL7(kvs:List (κ×V))(k:κ)(v:V):(qZm kvs k v).length<=kvs.length+1:=by
 unfold qZm;split
 ·rw[hA1];omega
 ·rw[hAd,hB8,List.length_nil];omega
theorem qN8.getD{o:Option V}{u:Option Value}{d:V}{d':Value}(r:qN8 o u)(rd:qB6 d d'):qB6 (o.getD d) (u.getD d'):=by
 cases o with
 |none=>cases u with
  |none=>exact rd
  |some _=>exact(show False from r).elim
 |some _=>cases u with
  |none=>exact(show False from r).elim
  |some _=>exact r
theorem KV.val{kvs:List (κ×V)}{vs:List (κ×Value)}(r:KV kvs vs)(k:κ):qN8 (qPj kvs k) (valueAt vs k):=by
 unfold KV at r
 induction r with
 |nil=>exact True.intro
 |@cons p q ps qs h t ih =>
  obtain⟨h1,h2⟩:=h;by_cases e:p.1=k
  ·have e':q.1=k:=h1.symm.trans e;have b:valueAt (q :: qs) k=some q.2:=by simp[valueAt,hC8,e']
   rw[qH7 e,b];exact h2
  ·have e':¬q.1=k:=λz=>e (h1.trans z)
   have b:valueAt (q :: qs) k=valueAt qs k:=by simp[valueAt,hC8,e']
   rw[qH8 e,b];exact ih
theorem KV.any{kvs:List (κ×V)}{vs:List (κ×Value)}(r:KV kvs vs)(k:κ):(kvs.any λkv=>decide (kv.1=k))=vs.any λkv=>decide (kv.1=k):=by
 unfold KV at r
 induction r with
 |nil=>rfl
 |cons h t ih=>rw[hD9,hD9,ih,h.1]
theorem KV.repl{kvs:List (κ×V)}{vs:List (κ×Value)}(r:KV kvs vs)(k:κ){y:V}{u:Value}(ry:qB6 y u) :
  KV (kvs.map λkv=>if kv.1=k then (kv.1,y) else kv) (vs.map λkv=>if kv.1=k then (kv.1,u) else kv):=by
 unfold KV at r ⊢
 induction r with
 |nil=>exact .nil
 |@cons p q ps qs h t ih =>
  rw[hAv,hAv];refine .cons ?_ ih;obtain⟨h1,h2⟩:=h;by_cases e:p.1=k
  ·rw[hDu e,hDu (h1.symm.trans e)];exact⟨h1,ry⟩
  ·rw[hDt e,hDt (λz=>e (h1.trans z))];exact⟨h1,h2⟩
theorem KV.put{kvs:List (κ×V)}{vs:List (κ×Value)}(r:KV kvs vs)(k:κ){y:V}{u:Value}(ry:qB6 y u):KV (qZm kvs k y) (stored vs k u):=by
 unfold qZm stored;rw[r.any k];by_cases e:(vs.any λkv=>decide (kv.1=k))=true
 ·rw[hDu e,hDu e];exact r.repl k ry
 ·rw[hDt e,hDt e];exact Paired.snoc r ⟨rfl,ry⟩
theorem KV.length{kvs:List (κ×V)}{vs:List (κ×Value)}(r:KV kvs vs):kvs.length=vs.length:=Paired.length r
end
theorem qYs{P:Program}{w:World}{k:Key}{u:Value}(r:qB6 (kV k) u):(qBu P w).is k u=true:=by
 cases k with
 |inl i=>obtain⟨t,e⟩:=(show ∃t,u=Value.int i t from r);subst e;exact qL5 P w i t
 |inr x=>obtain⟨t,e⟩:=(show ∃t,u=Value.str x t from r);subst e;exact qL4 P w x t
theorem qKb{P:Program}{w:World}:∀ {ks:List Key} {us:List Value},qBh (ks.map kV) us->ItemsAre (qBu P w) ks us
 |[],_,r=>by rw[List.map_nil]at r;cases r;exact .nil
 |k :: ks,_,r=>by
  rw[hAv]at r;cases r with
  |cons h t=>exact .cons (qYs h) (qKb t)
abbrev KT(H:Hp):List (List Key×V)->List (List Key×Addr×Value)->Prop:=Paired λp q=>p.1=q.1/\H q.2.1=some (.tup (p.1.map kV))/\qB6 p.2 q.2.2
theorem KT.val{H:Hp}{kvs:List (List Key×V)}{xs:List (List Key×Addr×Value)}(r:KT H kvs xs)(k:List Key):qN8 (qPj kvs k) ((atKey xs k).map (·.2)):=by
 induction r with
 |nil=>exact True.intro
 |@cons p q ps qs h t ih =>
  obtain⟨h1,_,h2⟩:=h;by_cases e:p.1=k
  ·have e':q.1=k:=h1.symm.trans e;have b:atKey (q :: qs) k=some q.2:=by simp[atKey,hC8,e']
   rw[qH7 e,b];exact h2
  ·have e':¬q.1=k:=λz=>e (h1.trans z)
   have b:atKey (q :: qs) k=atKey qs k:=by simp[atKey,hC8,e']
   rw[qH8 e,b];exact ih
section
variable{P:Program}{w:World}{H:Hp}{h:Heap}{a:Addr}
theorem zAx{u:HO}(ok:HOk P w H h)(e:Rd H a u):qB3 P w H h a u:=e.ok ok
theorem zB9{kvs:List (Key×V)}(ok:HOk P w H h)(e:Rd H a (.dK kvs)):kvs.length<=sizeLine/\(a == sysModules)=false/\∃vs,KV kvs vs/\h.DictOf (qBu P w) a vs :=
 show qB3 P w H h a (.dK kvs) from zAx ok e
theorem qV2{ks:List Key}(ok:HOk P w H h)(e:H a=some (.tup (ks.map kV))):(tupleKind (qBu P w)).is h ks a:=by
 obtain⟨_,its,r,o,h1,h2,n,h3⟩:=(show qB3 P w H h a (.tup (ks.map kV)) from ok a _ e);exact⟨o,its.toArray,n,h1,h2,h3,by simpa using qKb r⟩
theorem zB6{kvs:List (List Key×V)}(ok:HOk P w H h)(e:Rd H a (.dT kvs)):kvs.length<=sizeLine/\(a == sysModules)=false /\
  ∃xs,KT H kvs xs/\h.DictOfH (tupleKind (qBu P w)) a xs:=by
 obtain⟨z,y,xs,r,o,es,ep,h1,h2,h3,h4,h5⟩:=(show qB3 P w H h a (.dT kvs) from zAx ok e);refine⟨z,y,xs,r,o,es,ep,h1,h2,h3,h4,λx hx=>?_,h5⟩;have all:∀ {l:List (List Key×V)} {m:List (List Key×Addr×Value)},KT H l m->∀x∈m,(tupleKind (qBu P w)).is h x.1 x.2.1:=by
  intro l m q
  induction q with
  |nil=>intro x hx;exact nomatch hx
  |@cons p q ps qs hq t ih =>
   intro x hx;rcases hA8.mp hx with e|hx
   ·subst e;exact qV2 ok (by rw[<-hq.1];exact hq.2.1)
   ·exact ih x hx
 exact all r x hx
end
def zCk(H:Hp)(a:Addr)(y:V)(r:Option V):Prop :=
 (∃kvs k,Rd H a (.dK kvs)/\y=kV k/\r=qPj kvs k)\/∃kvs k b,Rd H a (.dT kvs)/\y = .ref b/\H b=some (.tup (k.map kV))/\r=qPj kvs k
theorem zCk.k{H:Hp}{a:Addr}{kvs:List (Key×V)}{k:Key}(e:H a=some (.dK kvs)):zCk H a (kV k) (qPj kvs k):=.inl ⟨kvs,k,.inl e,rfl,rfl⟩
section
variable{X:Cx}{aB:List (Addr×Obj)}{σ:St}{H:Hp}{s:Shared}{a:Addr}{y v:V}{u r:Value}{o:Option V}{A:Around}{E:Value->Shared->Prop}
theorem Inv.big(I:Inv X aB σ H s):sysModules<s.heap.objs.size:=by
 have h:mainGlobals<s.heap.objs.size:=(I.mod.glob.keeps I.bk).lt;exact Nat.lt_trans (by decide) h
theorem zCa{P:Program}{w:World}{H':Hp}{h':Heap}{kvs:List (Key×V)}{vs:List (Key×Value)}(z:kvs.length<=sizeLine)(hd:(a == sysModules)=false)(rel:KV kvs vs)(dd:h'.DictOf (qBu P w) a vs) :
  qB3 P w H' h' a (.dK kvs):=⟨z,hd,vs,rel,dd⟩
end
structure M1(X:Cx)(o:Expr)(m:Str)(apos:Pos)(e:Expr)(cpos:Pos):Prop where
 base:attributeBase o m X.env (eval o X.env)=eval o X.env
 few:((backTo cpos (starEach [e] X.env)).all (λx=>!x.1) && (backToKw cpos (keywordEach [] X.env)).all (λx=>x.1.isSome)
  && decide (([e]:List Expr).length+([]:List Keyword).length+(if ([]:List Keyword).isEmpty then 0 else 1)<30))=true
 line:(apos.endLine == cpos.line)=true
 trees:backTo cpos (starEach [e] X.env)=[(false,eval e X.env)]
structure M2(X:Cx)(o:Expr)(m:Str)(apos:Pos)(e f:Expr)(cpos:Pos):Prop where
 base:attributeBase o m X.env (eval o X.env)=eval o X.env
 few:((backTo cpos (starEach [e,f] X.env)).all (λx=>!x.1) && (backToKw cpos (keywordEach [] X.env)).all (λx=>x.1.isSome)
  && decide (([e,f]:List Expr).length+([]:List Keyword).length+(if ([]:List Keyword).isEmpty then 0 else 1)<30))=true
 line:(apos.endLine == cpos.line)=true
 trees:backTo cpos (starEach [e,f] X.env)=[(false,eval e X.env),(false,eval f X.env)]
def IsD(H:Hp)(a:Addr):Prop:=(∃kvs,Rd H a (.dK kvs))\/∃kvs,Rd H a (.dT kvs)
theorem zBv{X:Cx}{aB:List (Addr×Obj)}{σ:St}{H:Hp}{s:Shared}{a:Addr}(I:Inv X aB σ H s)(d:IsD H a) :
  s.TypeIs (.ref a) "dict"/\(∀b,Value.ref a = .ref b->∃ob,s.heap.get? b=some ob/\ob.dict=none)/\(a == sysModules)=false:=by
 rcases d with ⟨kvs,e⟩|⟨kvs,e⟩
 ·obtain⟨_,hd,vs,_,dd⟩:=zB9 I.hok e;refine⟨dd.typeIs,λb q=>?_,hd⟩;cases q;obtain⟨ob,_,_,h1,h2,_⟩:=dd;exact⟨ob,h1,h2.2.1⟩
 ·obtain⟨_,hd,xs,_,dd⟩:=zB6 I.hok e;refine⟨dd.typeIs,λb q=>?_,hd⟩;cases q;obtain⟨ob,_,_,h1,h2,_⟩:=dd;exact⟨ob,h1,h2.2.1⟩
section
variable{X:Cx}{aB:List (Addr×Obj)}{σ:St}{H:Hp}{s:Shared}{a:Addr}{y d:V}{u r:Value}{o:Option V}{A:Around}{E:Value->Shared->Prop}
theorem zCb{Q:Value->Shared->Prop}(hu:A.units+1<cLine)(I:Inv X aB σ H s)(g:zCk H a y o)(ry:qB6 y u)(rd:qB6 d r)(h:∀w' s',Inv X aB σ H s'->qB6 (o.getD d) w'->Q w' s') :
  wpAny (model X.prog X.w) A (call (.builtin "dict.get") [.ref a,u,r]) Q E s:=by
 rcases g with ⟨kvs,k,e,ey,l⟩|⟨kvs,k,b,e,ey,eb,l⟩
 ·subst ey;obtain⟨z,hd,vs,rel,dd⟩:=zB9 I.hok e;refine call_meetsIn PySem.F.slot_dict_get dd.typeIs PySem.F.entry_dict_get (PySem.F.args_dict_get_3 _ _ _) (meets_dict_get_default (qBu X.prog X.w) a (qYs ry) hd r) ⟨_,dd.mapOf,h _ _ (I.tok _) ?_⟩;rw[l];exact(rel.val k).getD rd
 ·subst ey;cases(show u=Value.ref b from ry);obtain⟨z,hd,xs,rel,dd⟩:=zB6 I.hok e;refine call_meetsIn PySem.F.slot_dict_get dd.typeIs PySem.F.entry_dict_get (PySem.F.args_dict_get_3 _ _ _) (meetsH_dict_get_default (tupleKind (qBu X.prog X.w)) a b hd r) ⟨tupleKind_room_in1 hu,k,xs,qV2 I.hok eb,dd,h _ _ (I.tok _) ?_⟩;rw[l];exact(rel.val k).getD rd
end
def qZ2(td ty tx:TE):TE:=λσ H Q=>td σ H λx H1=>∃a,x = .ref a/\IsD H1 a/\ty σ H1 λy H2=>tx σ H2 λz H3=>∃o,zCk H3 a y o/\Q (o.getD z) H3
section
variable{X:Cx}{o e f:Expr}{apos cpos:Pos}{td ty tx:TE}
theorem qTt(hu:X.A.units+1<cLine)(ho:PE X o td)(he:PE X e ty)(hf:PE X f tx)(m:M2 X o "get" apos e f cpos):PE X (.Call (.Attribute o "get" apos) [e,f] [] cpos) (qZ2 td ty tx):=by
 intro aB s σ H Q I h;refine wpAny_Call_method m.base m.few m.line PySem.F.plainAttrs_dict PySem.F.slot_dict_get PySem.F.type_dict_get (thn (ho aB s σ H _ I h) λu s1 ⟨x,H1,I1,rx,a,ex,d,q1⟩=>?_);subst ex;obtain rfl:u=Value.ref a:=rx;obtain⟨t1,t2,_⟩:=zBv I1 d;refine⟨t1,t2,?_⟩;rw[m.trees];refine Calls.callWith_builtin rfl (Calls.evalArgs_plain (Calls.spliced_cons (thn (he aB s1 σ H1 _ I1 q1) λiv s2 ⟨y,H2,I2,ry,q2⟩ =>
  Calls.spliced_cons (thn (hf aB s2 σ H2 _ I2 q2) λfv s3 ⟨z,H3,I3,rz,ov,g,q3⟩=>Calls.spliced_nil ?_))))
 exact zCb hu I3 g ry rz λw' s4 I4 rw'=>⟨_,H3,I4,rw',q3⟩
end
def qCm(cells:List (Str×Addr)):List (Str×NameKind)->List (Str×Addr)->List (Str×Addr)
 |[],acc=>acc
 |(n,k) :: r,acc=>if k == .free then qCm cells r ((n,(cells.lookup n).getD 0) :: acc) else qCm cells r acc
theorem qH2(env:Env)(f:Str×NameKind->List (Str×Addr)->Sem (ForInStep (List (Str×Addr))))
  (hf:∀n k cs,f (n,k) cs=if k == .free then (do let a ← cellOf env n;pure (.yield ((n,a) :: cs))) else pure (.yield cs)) :
  ∀(aA:List (Str×NameKind)) (acc:List (Str×Addr)),(∀x∈aA,x.2 = .free->∃c,env.cells.lookup x.1=some c)->forIn aA acc f=pure (qCm env.cells aA acc)
 |[],acc,_=>by rw[List.forIn_nil];rfl
 |(n,k) :: r,acc,h=>by
  have ih:=qH2 env f hf r;rw[List.forIn_cons,hf];unfold qCm;by_cases hk:(k == NameKind.free)=true
  ·rw[hDu hk,hDu hk];obtain⟨c,hc⟩:=h (n,k) hA6 (by simpa using hk);have e:cellOf env n=pure c:=by unfold cellOf;rw[hc]
   rw[e,hc];exact ih _ λx hx=>h x (hA4 _ hx)
  ·rw[hDt hk,hDt hk];exact ih _ λx hx=>h x (hA4 _ hx)
theorem qJb(h:∀x∈scope.names,x.2 = .free->∃c,env.cells.lookup x.1=some c):closureFor scope env=pure (qCm env.cells scope.names []):=by
 simp only[closureFor];rw[qH2 env _ (λn k cs=>by cases hk:k == NameKind.free <;> simp[hk]) scope.names [] h];rfl
theorem qG6:∀ {aA:List (Str×NameKind)} {acc:List (Str×Addr)} {x:Str} {c:Addr},(x,c)∈qCm cells aA acc->(x,c)∈acc\/((x,NameKind.free)∈aA/\c=(cells.lookup x).getD 0)
 |[],acc,x,c,h=>.inl h
 |(n,k) :: r,acc,x,c,h=>by
  unfold qCm at h;by_cases hk:(k == NameKind.free)=true
  ·rw[hDu hk]at h;rcases qG6 h with q|⟨q,e⟩
   ·rcases hA8.mp q with z|z
    ·cases z;exact .inr ⟨by rw[show NameKind.free=k from (by simpa using hk:k=NameKind.free).symm];exact hA6,rfl⟩
    ·exact .inl z
   ·exact .inr ⟨hA4 _ q,e⟩
  ·rw[hDt hk]at h;rcases qG6 h with q|⟨q,e⟩
   ·exact .inl q
   ·exact .inr ⟨hA4 _ q,e⟩
theorem qFt{α:Type}{x n:Str}{c:α}{l:List (Str×α)}(h:(l.lookup x).isSome=true):(((n,c) :: l).lookup x).isSome=true:=by
 rw[hCr];cases x == n <;> simp[h]
theorem qD1{cells:List (Str×Addr)}{x:Str}:∀ {aA:List (Str×NameKind)} {acc:List (Str×Addr)},((x,NameKind.free)∈aA\/(acc.lookup x).isSome=true)->((qCm cells aA acc).lookup x).isSome=true
 |[],acc,h=>by
  rcases h with h|h
  ·cases h
  ·exact h
 |(n,k) :: r,acc,h=>by
  unfold qCm;by_cases hk:(k == NameKind.free)=true
  ·rw[hDu hk];refine qD1 ?_;rcases h with h|h
   ·rcases hA8.mp h with z|z
    ·cases z;exact .inr (by rw[hCr];simp)
    ·exact .inl z
   ·exact .inr (qFt h)
  ·rw[hDt hk];refine qD1 ?_;rcases h with h|h
   ·rcases hA8.mp h with z|z
    ·cases z;exact absurd rfl hk
    ·exact .inl z
   ·exact .inr h
theorem qDf:∀ {aA:List (Str×NameKind)} {n:Nat} {acc:List (Str×Addr)} {x:Str} {c:Addr},(x,c)∈cellsFrom n aA acc->(x,c)∈acc\/(x,NameKind.cell)∈aA
 |[],_,_,_,_,h=>.inl h
 |(y,k) :: r,n,acc,x,c,h=>by
  unfold cellsFrom at h;by_cases hk:(k == NameKind.cell)=true
  ·rw[hDu hk]at h;rcases qDf h with q|q
   ·rcases hA8.mp q with z|z
    ·cases z;exact .inr (by rw[show NameKind.cell=k from (by simpa using hk:k=NameKind.cell).symm];exact hA6)
    ·exact .inl z
   ·exact .inr (hA4 _ q)
  ·rw[hDt hk]at h;rcases qDf h with q|q
   ·exact .inl q
   ·exact .inr (hA4 _ q)
structure CellsTwo(h:Heap)(lo:Nat)(acc cs:List (Str×Addr)):Prop where
 part:∀x c,(x,c)∈cs->(x,c)∈acc\/(h.IsCell c none/\lo<=c)
 inj:∀x y c,lo<=c->(x,c)∈cs->(y,c)∈cs->x=y
theorem qDe:∀(aA:List (Str×NameKind)) (h:Heap) (lo:Nat) (acc:List (Str×Addr)),CellsTwo h lo acc0 acc->(∀x c,(x,c)∈acc->c<h.objs.size)->lo<=h.objs.size ->
  CellsTwo (pushCells h aA) lo acc0 (cellsFrom h.objs.size aA acc)
 |[],_,_,_,x,_,_=>x
 |(name,kind) :: r,h,lo,acc,x,hl,hlo=>by
  unfold pushCells cellsFrom;split
  ·have:=qDe (acc0:=acc0) r (h.push { cls:=.type "cell",data:=.cell none }) lo ((name,h.objs.size) :: acc)
    ⟨λn c hm=>by
      rcases hA8.mp hm with e|hm
      ·cases e;exact .inr ⟨⟨_,Heap.get?_push_size _ rfl,rfl⟩,hlo⟩
      ·rcases x.part n c hm with q|q
       ·exact .inl q
       ·exact .inr ⟨q.1.keeps λb o e=>Heap.get?_push_of_some _ e,q.2⟩,
     λa b c hc h1 h2=>by
      rcases hA8.mp h1 with e1|h1 <;> rcases hA8.mp h2 with e2|h2
      ·cases e1;cases e2;rfl
      ·cases e1;exact absurd (hl _ _ h2) (hBe _)
      ·cases e2;exact absurd (hl _ _ h1) (hBe _)
      ·exact x.inj a b c hc h1 h2⟩
    (λn c hm=>by
     rw[Heap.size_push];rcases hA8.mp hm with e|hm
     ·cases e;exact hAt _
     ·exact hB2 (hl n c hm)) (by rw[Heap.size_push];omega)
   rwa [Heap.size_push]at this
  ·exact qDe r h lo acc x hl hlo
def qB8(env:Env)(scope:Scope)(C:Addr):Env :=
 { scope:=relabel scope env,locals:=C,globals:=env.globals,cells:=cellsFrom (C+1) scope.names (qCm env.cells scope.names []),qual:=env.qual,func:=none,code:=env.code,frame:=env.frame,builtins:=env.builtins }
theorem qEh
  (hQ:Q { scope:=scope,locals:=s.heap.objs.size,globals:=env.globals,cells:=cellsFrom (s.heap.objs.size+1) scope.names cl,qual:=env.qual,func:=none,code:=env.code,frame:=env.frame,builtins:=env.builtins }
   { s with heap:=pushCells (s.heap.push { cls:=.type "dict",data:=.dict #[] }) scope.names }) :
  wpAny M A (newFunctionEnv scope env.globals cl [] env.qual none .none (some env)) Q E s:=by
 simp only[newFunctionEnv,Option.isSome_some,if_true];refine hDo (wpAny_alloc ?_);refine hDo (wpAny_layCells _ (λname kind cells=>by cases hkc:kind == NameKind.cell <;> simp[hkc]) _ _ _ _ ?_);rw[show({ s with heap:=s.heap.push { cls:=.type "dict",data:=.dict #[] } }:Shared).heap.objs.size=s.heap.objs.size+1 from Heap.size_push ..];rw[List.forIn_nil];exact hDo (hDq (hDq hQ))
theorem qKm(I:Nat->Shared->Prop)
  (turn:∀n s,I n s->wpAny (model prog w) A (pyNext it) (λr s₁=>match r with
   |none=>R (.ok .next) s₁
   |some v=>wpAny (model prog w) A (letOwnedTupleGo target it v) (λ_ s₁'=>wpAny (model prog w) A (assign target env v) (λ_ s₂ =>
     wpAny (model prog w) A (forIn ifs true λc r=>if r=true then do let ok ← isTrue c env (eval c env);pure (ForInStep.yield ok) else pure (ForInStep.yield r)) (λok s₃ =>
      if ok=true then wpAny (model prog w) A (eval elt env) (λx s₄ =>
       wpAny (model prog w) A (call (.builtin "list.append") [acc,x]) (λ_ s₅=>∃m,m<n/\I m s₅) (λ_ _=>False) s₄) (λ_ _=>False) s₃
      else ∃m,m<n/\I m s₃) (λ_ _=>False) s₂) (λ_ _=>False) s₁') (λ_ _=>False) s₁) (λ_ _=>False) s)
  (n:Nat) (h:I n s) :
  codeAny (model prog w) A (.compLoop (.ListComp elt [⟨target,iter,ifs,0⟩] scope pos) 0 it acc env) R s:=by
 refine codeAny_loop rfl I (λn s hI=>?_) n h;show wpAny _ A ((compTurn (.ListComp elt [⟨target,iter,ifs,0⟩] scope pos) 0 it acc env).onRaise (λx=>do noteFrame x env;theTreesLotGoes x)) _ _ s;refine wpAny_noted ?_;rw[compTurn_list];refine hDo (hE3 (hDo (hDz (turn n s hI) (λr s₁ h₁=>?_) λ_ _ h'=>h'.elim)));cases r with
 |none=>exact hDq h₁
 |some v =>
  refine hDo (hDz h₁ (λ_ s₁' h₁=>?_) λ_ _ h'=>h'.elim);refine hDo (hDz h₁ (λ_ s₂ h₂=>hDo (hDz h₂ (λok s₃ h₃=>?_) λ_ _ h'=>h'.elim)) λ_ _ h'=>h'.elim);cases ok with
  |false=>exact hDq ⟨rfl,h₃⟩
  |true =>
   exact hDo (hDo (hDz h₃ (λx s₄ h₄=>hDo (hDz h₄ (λ_ s₅ h₅=>hDq (hDq ⟨rfl,h₅⟩)) λ_ _ h'=>h'.elim)) λ_ _ h'=>h'.elim))
def qBc(X:Cx)(scope:Scope)(N':List Str)(C:Addr)(s:Shared)(H:Hp)(fp:List Addr):Cx :=
 { X with N:=N',s₀:=s,H₀:=H,env:=qB8 X.env scope C,outer:=X.stack,stack:=X.stack,ex:=fp,fn:=λx=>!(scope.names.lookup x == some .free),pn:=[],xe:=λ_ _=>False }
def subσ(sub:List (Option Nat))(σ:St):St:=sub.map λo=>o.bind λi=>(σ[i]?).join
def qWg(N:List Str)(sc:Scope)(N':List Str)(scope:Scope)(sub:List (Option Nat)):Bool :=
 scope.kind == .function && decide ((scope.names.map (·.1)).Nodup) && decide N'.Nodup && sub.length == N'.length &&
 (scope.names.all λx=>!(x.2 == .free) || sc.names.lookup x.1 == some .cell || sc.names.lookup x.1 == some .free) &&
 ((sub.zip N').all λp=>match p.1 with
  |none=>true
  |some i=>N[i]? == some p.2 && scope.names.lookup p.2 == some .free)
structure CmpOk(N:List Str)(sc:Scope)(N':List Str)(scope:Scope)(sub:List (Option Nat)):Prop where
 kind:scope.kind = .function
 nd:(scope.names.map (·.1)).Nodup
 nd':N'.Nodup
 len:sub.length=N'.length
 free:∀x∈scope.names,x.2 = .free->sc.names.lookup x.1=some .cell\/sc.names.lookup x.1=some .free
 sub:∀(j i:Nat) (x:Str),sub[j]?=some (some i)->N'[j]?=some x->N[i]?=some x/\scope.names.lookup x=some .free
theorem CmpOk.of{N:List Str}{sc:Scope}{N':List Str}{scope:Scope}{sub:List (Option Nat)}(h:qWg N sc N' scope sub=true):CmpOk N sc N' scope sub:=by
 unfold qWg at h;simp only[hB9]at h;obtain⟨⟨⟨⟨⟨h1,h2⟩,h3⟩,h4⟩,h5⟩,h6⟩:=h;refine⟨by simpa using h1,hDs h2,hDs h3,by simpa using h4,λx hx hf=>?_,λj i x hj hx=>?_⟩
 ·have q:=hBx.mp h5 x hx;rw[hf]at q;simp only[hEi,Bool.not_true,Bool.false_or,Bool.or_eq_true]at q;rcases q with q|q
  ·exact .inl (by simpa using q)
  ·exact .inr (by simpa using q)
 ·have q:=hBx.mp h6 (some i,x) (by
   refine hAs (i:=j) ?_;rw[List.getElem?_zip_eq_some];exact⟨hj,hx⟩)
  simp only[hB9]at q;exact⟨by simpa using q.1,by simpa using q.2⟩
theorem qBx:∀ {l:List (Str×α)} {x:Str} {c:α},(l.map (·.1)).Nodup->(x,c)∈l->l.lookup x=some c
 |(y,d) :: r,x,c,nd,h=>by
  rw[hCr];rcases hA8.mp h with e|h
  ·cases e;simp
  ·have ne:x≠y:=λe=>by
    rw[hAv]at nd;exact(hBq.mp nd).1 (by rw[<-e];exact hAe.mpr ⟨(x,c),h,rfl⟩)
   rw[show(x == y)=false from by simpa using ne];exact qBx (hBq.mp nd).2 h
theorem qDp{sc:Scope}:∀ {aA:List (Str×NameKind)} {x:Str},
  ((aA.map λ(n,k)=>if (k == NameKind.free && sc.kind == .function && sc.names.lookup n == some .cell) then (n,NameKind.cell) else (n,k)).lookup x) =
   (aA.lookup x).map λk=>if (k == NameKind.free && sc.kind == .function && sc.names.lookup x == some .cell) then NameKind.cell else k
 |[],x=>rfl
 |(n,k) :: r,x=>by
  have ih:=@qDp sc r x;rw[hAv];show List.lookup x ((if (k == NameKind.free && sc.kind == .function && sc.names.lookup n == some .cell)=true then (n,NameKind.cell) else (n,k)) :: _)=_;by_cases hc:(k == NameKind.free && sc.kind == .function && sc.names.lookup n == some .cell)=true
  ·rw[hDu hc,hCr,hCr];by_cases hx:x=n
   ·subst hx;rw[show(x == x)=true from hEi x];show some NameKind.cell=Option.map _ (some k);rw[hD7,hDu hc]
   ·rw[show(x == n)=false by simpa using hx];exact ih
  ·rw[hDt hc,hCr,hCr];by_cases hx:x=n
   ·subst hx;rw[show(x == x)=true from hEi x];show some k=Option.map _ (some k);rw[hD7,hDt hc]
   ·rw[show(x == n)=false by simpa using hx];exact ih
section
variable{X:Cx}{aB:List (Addr×Obj)}{σ:St}{H H':Hp}{s:Shared}
theorem qHz(I:Inv X aB σ H s)(hb:b∈frs X.stack)(n1:b≠X.env.locals):b∈X.fs:=(hA8.mp (I.stkSub b hb)).elim (λe=>absurd e n1) id
theorem qG7{N':List Str}{scope:Scope}{sub:List (Option Nat)}{h3:Heap}(I:Inv X aB σ H s)(O:CmpOk X.N X.env.scope N' scope sub)
  (hk:∀b o,s.heap.get? b=some o->h3.get? b=some o) :
  (∀x c,(cellsFrom (h3.objs.size+1) scope.names (qCm X.env.cells scope.names [])).lookup x=some c ->
   (((pushCells (h3.push { cls:=.type "dict",data:=.dict #[] }) scope.names).IsCell c none/\h3.objs.size+1<=c/\(x,NameKind.cell)∈scope.names)\/((x,NameKind.free)∈scope.names/\X.env.cells.lookup x=some c))) /\
  (∀x y c,(cellsFrom (h3.objs.size+1) scope.names (qCm X.env.cells scope.names [])).lookup x=some c->(cellsFrom (h3.objs.size+1) scope.names (qCm X.env.cells scope.names [])).lookup y=some c->x=y):=by
 have hin:∀x c,(x,c)∈qCm X.env.cells scope.names []->(x,NameKind.free)∈scope.names/\X.env.cells.lookup x=some c:=λx c h=>by
  rcases qG6 h with q|⟨q,e⟩
  ·cases q
  ·have hx:∃c,X.env.cells.lookup x=some c:=by
    refine I.ok.has x ?_;rcases O.free _ q rfl with z|z
    ·exact .inl z
    ·exact .inr z
   obtain⟨c',hc'⟩:=hx;rw[hc']at e;exact⟨q,by rw[hc',e];rfl⟩
 have hlt:∀x c,(x,c)∈qCm X.env.cells scope.names []->c<h3.objs.size:=λx c h=>by
  obtain⟨v,o,ho,_⟩:=I.cell x c (hin x c h).2;exact Heap.lt_size (hk _ _ ho)
 have two:=qDe (acc0:=qCm X.env.cells scope.names []) scope.names (h3.push { cls:=.type "dict",data:=.dict #[] }) (h3.objs.size+1) (qCm X.env.cells scope.names [])
  ⟨λx c h=>.inl h,λx y c hc h1 _=>absurd (hlt x c h1) (Nat.not_lt.mpr (Nat.le_of_succ_le hc))⟩ (λx c h=>by rw[Heap.size_push];exact hB2 (hlt x c h)) (by rw[Heap.size_push];exact hA3 _)
 rw[Heap.size_push]at two;refine⟨λx c h=>?_,λx y c h1 h2=>?_⟩
 ·have m:=hBg h;rcases two.part x c m with q|q
  ·exact .inr (hin x c q)
  ·refine .inl ⟨q.1,q.2,?_⟩;rcases qDf m with z|z
   ·exact absurd (hlt x c z) (Nat.not_lt.mpr (Nat.le_of_succ_le q.2))
   ·exact z
 ·have m1:=hBg h1;have m2:=hBg h2;by_cases hc:h3.objs.size+1<=c
  ·exact two.inj x y c hc m1 m2
  ·rcases two.part x c m1 with q1|q1
   ·rcases two.part y c m2 with q2|q2
    ·exact I.ok.inj x y c (hin x c q1).2 (hin y c q2).2
    ·exact absurd q2.2 hc
   ·exact absurd q1.2 hc
theorem qUi{N':List Str}{scope:Scope}{sub:List (Option Nat)}{fp:List Addr}(I:Inv X aB σ H s)(O:CmpOk X.N X.env.scope N' scope sub)(hf:∀b∈fp,qJg X aB H b)
  (hfl:∀b∈fp,b<s.heap.objs.size) :
  Inv (qBc X scope N' (s.heap.objs.size+1) s H fp) [(s.heap.objs.size,{ cls:=.type "list",data:=.seq #[] })] (subσ sub σ) H
   { s with heap:=pushCells ((s.heap.push { cls:=.type "list",data:=.seq #[] }).push { cls:=.type "dict",data:=.dict #[] }) scope.names }:=by
 have hk3:∀b o,s.heap.get? b=some o->(s.heap.push { cls:=.type "list",data:=.seq #[] }).get? b=some o:=λb o e=>Heap.get?_push_of_some _ e
 have sz3:(s.heap.push { cls:=.type "list",data:=.seq #[] }).objs.size=s.heap.objs.size+1:=Heap.size_push ..;have hk:∀b o,s.heap.get? b=some o->(pushCells ((s.heap.push { cls:=.type "list",data:=.seq #[] }).push { cls:=.type "dict",data:=.dict #[] }) scope.names).get? b=some o :=
  λb o e=>hE9 _ _ b o (Heap.get?_push_of_some _ (hk3 b o e))
 have cf:=qG7 (h3:=s.heap.push { cls:=.type "list",data:=.seq #[] }) I O hk3;rw[sz3]at cf;have hC:H (s.heap.objs.size+1)=none:=I.hok.fresh (hAy _);have nsC:(pushCells ((s.heap.push { cls:=.type "list",data:=.seq #[] }).push { cls:=.type "dict",data:=.dict #[] }) scope.names).Ns (s.heap.objs.size+1) (λ_=>none):=by
  rw[<-sz3];exact(Heap.Ns.new _ _).keeps (hE9 _ _)
 have has:∀x,(scope.names.lookup x=some .cell\/scope.names.lookup x=some .free)->∃c,(cellsFrom (s.heap.objs.size+1+1) scope.names (qCm X.env.cells scope.names [])).lookup x=some c:=λx hx=>by
  refine hCf.mp (hD3 _ _ _ ?_);rcases hx with z|z
  ·exact .inl z
  ·exact .inr (qD1 (.inl (hBg z)))
 have kindB:∀x,(qB8 X.env scope (s.heap.objs.size+1)).kindOf x=(scope.names.lookup x).map λk=>if (k == NameKind.free && X.env.scope.kind == .function && X.env.scope.names.lookup x == some .cell) then NameKind.cell else k:=λx=>qDp
 have cellOk:∀x c,(qB8 X.env scope (s.heap.objs.size+1)).cells.lookup x=some c->∃v,(pushCells ((s.heap.push { cls:=.type "list",data:=.seq #[] }).push { cls:=.type "dict",data:=.dict #[] }) scope.names).IsCell c v:=λx c h=>by
  rcases cf.1 x c h with q|q
  ·exact⟨_,q.1⟩
  ·obtain⟨v,z⟩:=I.cell x c q.2;exact⟨v,z.keeps hk⟩
 refine⟨⟨I.ok.mod,O.kind,I.ok.glob,I.ok.blt,hAy _,λx y c h1 h2=>cf.2 x y c h1 h2,λx hx=>?_,λx c hx h=>?_,I.ok.hd,I.ok.frames,.inl rfl,λb hb=>?_,λb o e=>I.bs b o e,hAx I.ok.bsz I.sz,λb o e hb=>?_,λb hb=>?_,I.stack,I.stkFree⟩,
  rfl,I.bare,Un.kept hk,⟨λ_=>none,nsC,λi x v h1 h2 h3=>?_⟩,cellOk,hC,λx c h=>?_,λp hp=>?_,I.hok.kept hk,?_⟩
 ·-- has
  refine has x ?_;have hx:(qB8 X.env scope (s.heap.objs.size+1)).kindOf x=some .cell\/(qB8 X.env scope (s.heap.objs.size+1)).kindOf x=some .free:=hx;rw[kindB]at hx;cases e:scope.names.lookup x with
  |none=>rw[e]at hx;rcases hx with z|z <;> cases z
  |some k =>
   rw[e]at hx;cases k with
   |cell=>exact .inl rfl
   |free=>exact .inr rfl
   |_=>exfalso;rcases hx with z|z <;> simp at z
 ·-- cab
  rcases cf.1 x c h with q|q
  ·have:=q.2.1;show s.heap.objs.size<=c;omega
  ·exfalso;have e:=qBx O.nd q.1;have hx':(!(scope.names.lookup x == some NameKind.free))=true:=hx;rw[e]at hx';exact absurd hx' (by decide)
 ·-- exf
  obtain⟨f0,f1,f2,f3,f4,f5⟩:=hf b hb;have lt:=hfl b hb;refine⟨λe=>?_,λx c h e=>?_⟩
  ·have e':b=s.heap.objs.size+1:=e;rw[e']at lt;exact absurd lt (Nat.not_lt.mpr (hAy _))
  ·rcases cf.1 x c h with q|q
   ·have z:=q.2.1;rw[e]at z;exact absurd lt (Nat.not_lt.mpr (hAx (hAx (hAy _) (hAy _)) z))
   ·exact f4 x c q.2 e
 ·-- noex
  obtain⟨f0,f1,f2,f3,f4,f5⟩:=hf b hb;rcases f3 with z|z
  ·exact I.ok.noex b o e z
  ·exact absurd (hAl (Heap.lt_size (I.ok.bs b o e).1) z) (hBe _)
 ·-- exfs
  obtain⟨f0,f1,f2,f3,f4,f5⟩:=hf b hb;exact λz=>f2 (qHz I z f1)
 ·-- loc
  have h1':N'[i]?=some x:=h1;have hsub:∃k,sub[i]?=some (some k)/\(σ[k]?).join=some v:=by
   unfold subσ at h2;rw[hAj]at h2;cases e:sub[i]? with
   |none=>rw[e]at h2;cases h2
   |some o =>
    rw[e]at h2;cases o with
    |none=>cases h2
    |some k=>exact⟨k,rfl,by simpa using h2⟩
  obtain⟨k,hk1,hk2⟩:=hsub;obtain⟨nk,fx⟩:=O.sub i k x hk1 h1';have sk:σ[k]?=some (some v):=by
   cases e:σ[k]? with
   |none=>rw[e]at hk2;cases hk2
   |some o=>rw[e]at hk2;cases o with
    |none=>cases hk2
    |some y=>cases hk2;rfl
  have cx:=O.free _ (hBg fx) rfl;obtain⟨m,hn,hl⟩:=I.loc;obtain⟨u,ru,lk⟩:=hl k x v nk sk (by
   rcases cx with z|z
   ·exact .inr (.inl z)
   ·exact .inr (.inr z))
  refine⟨u,ru,.inr ⟨?_,?_⟩⟩
  ·show(qB8 X.env scope (s.heap.objs.size+1)).kindOf x=some .cell\/(qB8 X.env scope (s.heap.objs.size+1)).kindOf x=some .free;rw[kindB,fx];by_cases hc:(NameKind.free == NameKind.free && X.env.scope.kind == .function && X.env.scope.names.lookup x == some .cell)=true
   ·exact .inl (by rw[hD7,hDu hc])
   ·exact .inr (by rw[hD7,hDt hc])
  ·rcases lk with ⟨kl,_⟩|⟨_,c,hc,hcell⟩
   ·exfalso;have kl':X.env.scope.names.lookup x=some .local:=kl;rcases cx with z|z <;> rw[kl']at z <;> cases z
   ·obtain⟨c',hc'⟩:=has x (.inr fx);refine⟨c',hc',?_⟩;rcases cf.1 x c' hc' with q|q
    ·exfalso;have e:=qBx O.nd q.2.2;rw[fx]at e;cases e
    ·rw[hc]at q;have e:c=c':=hAr q.2;subst e;exact hcell.keeps hk
 ·-- freeC
  rcases cf.1 x c h with q|q
  ·exact I.hok.fresh (by have:=q.2.1;omega)
  ·exact I.freeC x c q.2
 ·-- pin
  have hp':p=(s.heap.objs.size,({ cls:=.type "list",data:=.seq #[] }:Obj)):=by
   have:p∈([]++[(s.heap.objs.size,({ cls:=.type "list",data:=.seq #[] }:Obj))]:List (Addr×Obj)):=hp
   simpa using this
  subst hp';refine⟨hE9 _ _ _ _ (Heap.get?_push_of_some _ (Heap.get?_push_size _ rfl)),I.hok.fresh (hA3 _),hAi (hAt _),λz=>?_,λv z=>?_⟩
  ·rcases hA8.mp (I.stkSub _ z) with e|e
   ·exact absurd I.lt (by rw[<-e];exact hBe _)
   ·exact I.nofs (hA3 _) e
  ·cases z
 ·-- len
  show(subσ sub σ).length=N'.length;unfold subσ;rw[hA1,O.len]
end
def Sle(σ σ2:St):Prop:=σ2.length=σ.length/\∀(i:Nat) (v:V),σ[i]?=some (some v)->σ2[i]?=some (some v)
theorem Sle.refl(σ:St):Sle σ σ:=⟨rfl,λ_ _ h=>h⟩
theorem Sle.set(v:V)(h:Sle σ σ2)(hi:∀u,σ[i]?≠some (some u)):Sle σ (σ2.set i (some v)):=by
 refine⟨by rw[List.length_set];exact h.1,λj u hj=>?_⟩;have ne:i≠j:=λe=>hi u (by rw[e];exact hj)
 rw[hCu ne];exact h.2 j u hj
theorem sls{σ:St}{i:Nat}{v:V}(h:∀u,σ[i]?≠some (some u):=by intro u z;cases z):Sle σ (σ.set i (some v)):=Sle.set _ (Sle.refl _) h
def PTs(X:Cx)(ifs:List Expr)(t:TT):Prop :=
 ∀(aB:List (Addr×Obj)) (s:Shared) (σ:St) (H:Hp) (Q:Bool->Hp->Prop),Inv X aB σ H s->t σ H Q ->
  wpAny (model X.prog X.w) X.A (forIn ifs true λc r=>if r=true then do let ok ← isTrue c X.env (eval c X.env);pure (ForInStep.yield ok) else pure (ForInStep.yield r)) (TP X aB σ Q) X.xe s
def qWo:TT:=λ_ H Q=>Q true H
theorem qA4:PTs X [] qWo:=λaB s σ H Q I h=>wpAny_tests_nil ⟨H,I,h⟩
theorem qC2(h:PT X c t):PTs X [c] t:=λaB s σ H Q I hw=>wpAny_tests_one (h aB s σ H Q I hw)
def qDj(J:It)(σ0:St)(g:TG)(tt:TT)(te:TE)(Q:List V->Hp->Prop)(H1:Hp):Prop :=
 ∃W:Nat->Nat->List V->Hp->Prop,(∃m,W 0 m [] H1)/\∀i m ys H,W i m ys H ->
  (J.stop i H/\Q ys H) \/
  (J.go i H/\∀x H',J.yld i H x H'->g x σ0 H' λσ2 H2=>Sle σ0 σ2/\tt σ2 H2 λb H3 =>
   if b=true then te σ2 H3 (λv H4=>ys.length<sizeLine/\∃m',m'<m/\W (i+1) m' (ys++[v]) H4) else ∃m',m'<m/\W (i+1) m' ys H3)
section
variable{X:Cx}{aB:List (Addr×Obj)}{σ:St}{H:Hp}{s:Shared}
theorem qG4{target iter elt:Expr}{ifs:List Expr}{scope:Scope}{pos:Pos}{N':List Str}{sub:List (Option Nat)}{J:It}{fp:List Addr}{it:Addr}{tn:Nat->Heap->Prop}{g:TG}{tt:TT}{te:TE}
  {Qe:List V->Hp->Prop} {E:Value->Shared->Prop} {RR:Value->Addr->Result->Shared->Prop}
  {c:Cx->Prop} (hc:∀X',X'.A=X.A->X'.calm=X.calm->c X') (I:Inv X aB σ H s) (O:CmpOk X.N X.env.scope N' scope sub) (T:Turn X.prog X.w X.K target J fp it tn c) (st:tn 0 s.heap) (hf:∀b∈fp,qJg X aB H b)
  (B:∀C s H fp,PG (qBc X scope N' C s H fp) target g/\PTs (qBc X scope N' C s H fp) ifs tt/\PE (qBc X scope N' C s H fp) elt te)
  (rd:qDj J (subσ sub σ) g tt te Qe H)
  (hRR:∀(acc C:Addr) (ys:List V) (H':Hp) (s':Shared),Inv X aB σ (upd H' acc (.lst ys)) s'->qJg X aB (upd H' acc (.lst ys)) C->(∃m,s'.heap.Ns C m)->H' acc=none->Qe ys H'->RR (.ref acc) C (.ok .next) s') :
  wpAny (model X.prog X.w) X.A (newList []) (λacc s₃=>wpAny (model X.prog X.w) X.A (newFunctionEnv scope X.env.globals (qCm X.env.cells scope.names []) [] X.env.qual none .none (some X.env)) (λcenv s₄ =>
   codeAny (model X.prog X.w) X.A (.compStart (.ListComp elt [⟨target,iter,ifs,0⟩] scope pos) 0 (.ref it) acc { cenv with scope:=relabel scope X.env }) (RR acc cenv.locals) s₄) E s₃) E s:=by
 refine hDw (qEh ?_);have hfl:∀b∈fp,b<s.heap.objs.size:=λb hb=>by
  obtain⟨o,e,_⟩:=T.obj _ _ st b hb;exact Heap.lt_size e
 have I0:=qUi (sub:=sub) I O hf hfl;have sz3:(s.heap.push { cls:=.type "list",data:=.seq #[] }).objs.size=s.heap.objs.size+1:=Heap.size_push ..;dsimp only;show codeAny _ _ (.compStart _ 0 (.ref it) (.ref s.heap.objs.size) { scope:=relabel scope X.env,locals:=(s.heap.push { cls:=.type "list",data:=.seq #[] }).objs.size,globals:=X.env.globals,cells:=cellsFrom ((s.heap.push { cls:=.type "list",data:=.seq #[] }).objs.size+1) scope.names (qCm X.env.cells scope.names []),qual:=X.env.qual,func:=none,code:=X.env.code,frame:=X.env.frame,builtins:=X.env.builtins })
  (RR (.ref s.heap.objs.size) (s.heap.push { cls:=.type "list",data:=.seq #[] }).objs.size) { s with heap:=pushCells ((s.heap.push { cls:=.type "list",data:=.seq #[] }).push { cls:=.type "dict",data:=.dict #[] }) scope.names }
 rw[sz3];show codeAny _ _ (.compStart _ 0 (.ref it) (.ref s.heap.objs.size) (qB8 X.env scope (s.heap.objs.size+1))) (RR (.ref s.heap.objs.size) (s.heap.objs.size+1)) _;generalize hs0:({ s with heap:=pushCells ((s.heap.push { cls:=.type "list",data:=.seq #[] }).push { cls:=.type "dict",data:=.dict #[] }) scope.names }:Shared)=s0 at I0 ⊢;have hk0:∀b o,s.heap.get? b=some o->s0.heap.get? b=some o:=λb o e=>by
  rw[<-hs0];exact hE9 _ _ b o (Heap.get?_push_of_some _ (Heap.get?_push_of_some _ e))
 have st0:tn 0 s0.heap:=T.keep _ _ _ st λb hb o e=>hk0 b o e
 clear hs0 sz3;generalize hX:qBc X scope N' (s.heap.objs.size+1) s H fp=X' at I0;have xp:X'.prog=X.prog:=by rw[<-hX];rfl
 have xw:X'.w=X.w:=by rw[<-hX];rfl
 have xK:X'.K=X.K:=by rw[<-hX];rfl
 have xA:X'.A=X.A:=by rw[<-hX];rfl
 have xc:c X':=hc X' xA (by rw[<-hX];rfl);have xe:X'.env=qB8 X.env scope (s.heap.objs.size+1):=by rw[<-hX];rfl
 have xx:X'.ex=fp:=by rw[<-hX];rfl
 have xo:X'.outer=X.stack:=by rw[<-hX];rfl
 have xf:X'.fs=frs X.stack:=by rw[<-hX];rfl
 have xpn:X'.pn=[]:=by rw[<-hX];rfl
 have x0:X'.s₀=s:=by rw[<-hX];rfl
 have xh:X'.H₀=H:=by rw[<-hX];rfl
 have xxe:X'.xe=λ_ _=>False:=by rw[<-hX];rfl
 obtain⟨hg,ht,he⟩:=B (s.heap.objs.size+1) s H fp;rw[hX]at hg ht he;clear hX;have stat:∀ {pl:List (Addr×Obj)} {H':Hp},(∀p∈pl,p.1=s.heap.objs.size)->(∀b∈fp,H' b=none)->∀b∈fp,qJg X' pl H' b:=λ{pl H'} hp hn b hb=>by
  obtain⟨f0,f1,f2,f3,f4,f5⟩:=hf b hb;refine⟨hn b hb,(I0.ok.exf b (by rw[xx];exact hb)).1,I0.ok.exfs b (by rw[xx];exact hb),.inl (by rw[xx];exact hb),(I0.ok.exf b (by rw[xx];exact hb)).2,λp hp'=>?_⟩;rw[xpn,List.nil_append]at hp';rw[hp p hp'];exact hCw (hfl b hb)
 obtain⟨W,⟨m0,w0⟩,turn⟩:=rd;have loop:∀s3:Shared,s3=s0->codeAny (model X.prog X.w) X.A (.compLoop (.ListComp elt [⟨target,iter,ifs,0⟩] scope pos) 0 (.ref it) (.ref s.heap.objs.size) (qB8 X.env scope (s.heap.objs.size+1))) (RR (.ref s.heap.objs.size) (s.heap.objs.size+1)) s3:=by
  intro s3 e3;refine qKm (λn s'=>∃(i:Nat) (ys:List V) (H':Hp) (its:List Value) (k:Nat),Inv X' [(s.heap.objs.size,{ cls:=.type "list",data:=.seq its.toArray k })] (subσ sub σ) H' s'/\qBh ys its/\ys.length<=sizeLine/\tn i s'.heap/\(∀b∈fp,H' b=none)/\W i n ys H') ?_ m0
   ⟨0,[],H,[],0,by rw[e3];exact I0,.nil,hAq _,by rw[e3];exact st0,λb hb=>(hf b hb).1,w0⟩
  rintro n s4 ⟨i,ys,H4,its,k,I4,rv,hz,st4,fr4,w4⟩;have pe:∀p∈([(s.heap.objs.size,({ cls:=.type "list",data:=.seq its.toArray k }:Obj))]:List (Addr×Obj)),p.1=s.heap.objs.size:=λp hp=>by
   rw[hAa]at hp;rw[hp]
  rcases turn i n ys H4 w4 with ⟨stop,q⟩|⟨go,step⟩
  ·-- the end
   have td:=T.done X' xp xw xK xc i _ s4 (subσ sub σ) H4 (λ_ _=>False) I4 (stat pe fr4) st4 stop;rw[xA]at td;refine thn td λr s5 ⟨hr,I5⟩=>?_
   subst hr;have pa:=I5.pin (s.heap.objs.size,{ cls:=.type "list",data:=.seq its.toArray k }) (by rw[xpn];simp);have nacc:H4 s.heap.objs.size=none:=pa.2.1;have nC:H4 (s.heap.objs.size+1)=none:=by have z:=I5.free;rw[xe]at z;exact z
   have un:Un (frs X.stack) fp H H4 s.heap s5.heap:=by have z:=I5.base;rw[xf,xx,xh,x0]at z;exact z
   have un2:Un (frs X.stack) fp H (upd H4 s.heap.objs.size (.lst ys)) s.heap s5.heap:=by
    refine⟨un.keep,un.slot,λb o e n hx=>?_,un.there,λb xs e=>?_,λb o u e=>?_,λb ps e=>?_⟩
    ·rw[qAj (hAi (Heap.lt_size e))];exact un.free b o e n hx
    ·have z:=un.tups b xs e;rw[qAj (qAq z nacc)];exact z
    ·have z:=un.frzs b o u e;rw[qAj (qAq z nacc)];exact z
    ·obtain⟨more,z⟩:=un.tbls b ps e;exact⟨more,by rw[qAj (qAq z nacc)];exact z⟩
   have hok5:HOk X.prog X.w H4 s5.heap:=by have z:=I5.hok;rw[xp,xw]at z;exact z
   have hok2:HOk X.prog X.w (upd H4 s.heap.objs.size (.lst ys)) s5.heap:=λb u e=>by
    by_cases hb:b=s.heap.objs.size
    ·subst hb;rw[upd_same]at e;cases e;exact⟨hz,its,k,rv,pa.1⟩
    ·rw[qAj hb]at e;exact(hok5 b u e).stay (λ_ _ _ q=>q) (λc q=>by rw[qAj (qAq q nacc)];exact q) λc xs q=>by rw[qAj (qAq q nacc)];exact q
   have os5:s5.os=s.os:=by have z:=I5.os;rw[x0]at z;exact z
   have J5:Inv X aB σ (upd H4 s.heap.objs.size (.lst ys)) s5:=I.call' os5 un2 hok2 I5.bare λb hb=>by
    obtain⟨f0,f1,f2,f3,f4,f5⟩:=hf b hb;exact⟨f3,f1,f4,f5⟩
   refine hRR _ _ ys H4 s5 J5 (I.fpOk (hAy _) ?_) ?_ nacc q
   ·rw[qAj (Nat.succ_ne_self _)];exact nC
   ·obtain⟨m,hn,_⟩:=I5.loc;rw[xe]at hn;exact⟨m,hn⟩
  ·-- one turn
   have ti:=T.item X' xp xw xK xc i _ s4 (subσ sub σ) H4 (λ_ _=>False) I4 (stat pe fr4) st4 go;rw[xA]at ti;refine thn ti λr s5 ⟨u,hr,h5⟩=>?_
   subst hr;refine thn h5 λ_ s6 ⟨x,H6,I6,r6,y6,st6,fr6⟩=>?_
   have I6':=I6.pinned (stat pe fr6) (T.obj _ _ st6);have tg:=hg _ s6 (subσ sub σ) H6 x u _ I6' r6 (step x H6 y6);rw[xp,xw,xA,xe,xxe]at tg;refine thn tg λ_ s7 ⟨σ7,H7,I7,le7,q7⟩=>?_
   have tts:=ht _ s7 σ7 H7 _ I7 q7;rw[xp,xw,xA,xe,xxe]at tts;refine thn tts λb s8 ⟨H8,I8,q8⟩=>?_
   cases b with
   |false =>
    rw[hDt hAm]at q8 ⊢;obtain⟨m',hm',w8⟩:=q8;have I9:Inv X' ([(s.heap.objs.size,{ cls:=.type "list",data:=.seq its.toArray k })]++pinsAt fp s6.heap) (subσ sub σ) H8 s8:=I8.weak le7.1.symm le7.2;refine⟨m',hm',i+1,ys,H8,its,k,I9.unpinned,rv,hz,T.keep _ _ _ st6 λb hb o e=>(I9.pin (b,o) (hAb _ (hAb _ (qB5 hb e)))).1,λb hb=>?_,w8⟩;obtain⟨o,e,d⟩:=T.obj _ _ st6 b hb;exact(I9.pin (b,o) (hAb _ (hAb _ (qB5 hb e)))).2.1
   |true =>
    rw[hDu rfl]at q8 ⊢;have tee:=he _ s8 σ7 H8 _ I8 q8;rw[xp,xw,xA,xe,xxe]at tee;refine thn tee λvv s9 ⟨v,H9,I9,r9,lz,m',hm',w9⟩=>?_
    have I10:Inv X' ([(s.heap.objs.size,{ cls:=.type "list",data:=.seq its.toArray k })]++pinsAt fp s6.heap) (subσ sub σ) H9 s9:=I9.weak le7.1.symm le7.2;have pa:=I10.pin (s.heap.objs.size,{ cls:=.type "list",data:=.seq its.toArray k }) (by rw[xpn];simp);have hlen:=rv.length;refine wpAny_list_append_plain (items:=its.toArray) ⟨k,pa.1⟩ (λh' pl sb=>?_) (by rw[hAf];omega);obtain⟨k',pl⟩:=pl;have keepIt:∀b∈fp,∀o,s6.heap.get? b=some o->h'.get? b=some o:=λb hb o e=>by
     have nb:b≠s.heap.objs.size:=hAi (hfl b hb);exact(sb.2 b nb).trans (I10.pin (b,o) (hAb _ (hAb _ (qB5 hb e)))).1
    have I11:Inv X' [] (subσ sub σ) H9 s9:=I10.pins_of λp hp=>absurd hp (by simp)
    have sacc:s.heap.objs.size≠X'.env.locals:=pa.2.2.1;have I12:Inv X' [] (subσ sub σ) H9 { s9 with heap:=h' }:=I11.turned (t':=s9.toks) (it:=s.heap.objs.size) (λb o hb e=>(sb.2 b hb).trans e) pa.2.1 sacc (.inr (by rw[x0];exact hA3 _))
     (λy c hy z=>by
      obtain⟨w',o',ho',hd'⟩:=I10.cell y c hy;rw[z,pa.1]at ho';have z2:=hAr ho';rw[<-z2]at hd';cases hd') (λp hp=>absurd hp (by rw[xpn];simp))
    refine⟨m',hm',i+1,ys++[v],H9,its++[vv],k',I12.pins_of (λp hp=>?_),rv.append (.cons r9 .nil),by rw[hAd,List.length_singleton];omega,T.keep _ _ _ st6 keepIt,λb hb=>?_,w9⟩
    ·rw[hAa]at hp;subst hp;refine⟨?_,pa.2.1,sacc,pa.2.2.2.1,λv z=>by cases z⟩;show h'.get? s.heap.objs.size=_;rw[pl];simp
    ·obtain⟨o,e,d⟩:=T.obj _ _ st6 b hb;exact(I10.pin (b,o) (hAb _ (hAb _ (qB5 hb e)))).2.1
 exact codeAny_compStart_list (loop _ rfl) (T.self _ 0 _ _ _ st0 (loop _ rfl))
end
def qJn(sub:List (Option Nat))(wi:TI)(g:TG)(tt:TT)(te:TE):TE:=λσ H Q=>wi σ H λJ H1 =>
 qDj J (subσ sub σ) g tt te (λys H'=>∀r,H' r=none->Q (.ref r) (upd H' r (.lst ys))) H1
section
variable{X:Cx}{target iter elt:Expr}{ifs:List Expr}{scope:Scope}{pos:Pos}{N':List Str}{sub:List (Option Nat)}{wi:TI}{g:TG}{tt:TT}{te:TE}
theorem qG5(I:Inv X aB σ H s)(O:CmpOk X.N X.env.scope N' scope sub):closureFor scope X.env=pure (qCm X.env.cells scope.names []) :=
 qJb λx hx hf=>I.ok.has x.1 (by rcases O.free x hx hf with z|z;exact .inl z;exact .inr z)
theorem qEp(O:CmpOk X.N X.env.scope N' scope sub):∀y∈scope.names,y.2 = .local->scope.names.lookup y.1=some .local:=λy hy e=>by
 obtain⟨n,k⟩:=y;cases e;exact qBx O.nd hy
theorem qXq(hc:X.calm=true)(O:CmpOk X.N X.env.scope N' scope sub)(hi:PI X target iter wi)
  (B:∀C s H fp,PG (qBc X scope N' C s H fp) target g/\PTs (qBc X scope N' C s H fp) ifs tt/\PE (qBc X scope N' C s H fp) elt te)
  (hs:∀x,foldedSetIterable iter X.env x=pure x:=by intro _;rfl):PE X (.ListComp elt [⟨target,iter,ifs,0⟩] scope pos) (qJn sub wi g tt te):=by
 intro aB s σ H Q I h;rw[eval_ListComp];refine hE4 (use:=none) rfl hs (qG5 I O) O.kind (qEp O) (thn (hi aB s σ H _ I h) λv s1 h1=>thn h1 λitv s2 h2=>?_);obtain⟨it,fp,tn,J,H2,e,I2,T,st2,f2,rd⟩:=h2;subst e;refine qG4 (RR:=λacc C=>compPost (model X.prog X.w) X.A X.xe none (EP X aB σ Q) acc C) (λX' _ e=>e.trans hc) I2 O T st2 f2 B rd λacc C ys H' s' I' fC hn na q=>?_
 obtain⟨m,hn⟩:=hn;obtain⟨f0,f1,f3,f4,f5,f6⟩:=fC;refine⟨m,hn,λh' sb=>?_⟩;exact⟨.ref acc,upd H' acc (.lst ys),I'.turned (t':=s'.toks) (it:=C) (λb o hb e=>(sb.2 b hb).trans e) f0 f1 f4 f5 f6,rfl,q acc na⟩
theorem qXi(hc:X.calm=true)(O:CmpOk X.N X.env.scope N' scope sub)(hi:PI X target iter wi)
  (B:∀C s H fp,PG (qBc X scope N' C s H fp) target g/\PTs (qBc X scope N' C s H fp) ifs tt/\PE (qBc X scope N' C s H fp) elt te)
  (hN:X.N.Nodup) (hy:X.N[i]?=some y) (hx:Loc X.env.scope y)
  (hsw:swapsWith (.ListComp elt [⟨target,iter,ifs,0⟩] scope pos) (some (.Name y py)) spos.line X.env=pure true)
  (hs:∀x,foldedSetIterable iter X.env x=pure x:=by intro _;rfl) (hf:X.fn y=true\/X.env.scope.names.lookup y=some .local:=by first|exact .inl rfl|exact .inr rfl|assumption) :
  PS X (.Assign [.Name y py] (.ListComp elt [⟨target,iter,ifs,0⟩] scope pos) spos) (qZh (qJn sub wi g tt te) (qFu i)):=by
 intro aB s σ H D I h;rw[exec_Assign_Name_used _ _ _ _ hsw];refine hDo (hE3 (hDo ?_));show wpAny _ _ (do let _ ← comprehension (.ListComp elt [⟨target,iter,ifs,0⟩] scope pos) scope X.env _ (newList []) false (eval iter X.env) (some (assign (.Name y py) X.env))) _ _ s;refine hDo (hDz (hE4 (use:=some (assign (.Name y py) X.env)) (Q:=λ_ s'=>SP X aB D .next s') rfl hs (qG5 I O) O.kind (qEp O)
  (thn (hi aB s σ H _ I h) λv s1 h1=>thn h1 λitv s2 h2=>?_)) (λ_ s' hq=>hDq (hDq hq)) λ_ _ e=>e)
 obtain⟨it,fp,tn,J,H2,e,I2,T,st2,f2,rd⟩:=h2;subst e;refine qG4 (RR:=λacc C=>compPost (model X.prog X.w) X.A X.xe (some (assign (.Name y py) X.env)) (λ_ s'=>SP X aB D .next s') acc C) (λX' _ e=>e.trans hc) I2 O T st2 f2 B rd λacc C ys H' s' I' fC hn na q=>?_
 obtain⟨m,hn⟩:=hn;obtain⟨f0,f1,f3,f4,f5,f6⟩:=fC;show wpAny _ _ (assign (.Name y py) X.env (.ref acc)) _ _ s';refine wpAny_assign_Name (qF3 (v:=.ref acc) I' hN hy hx rfl (λs'' I'' ⟨a,sb,ha⟩=>?_) hf);have nCa:C≠a:=by
  rcases ha with z|z
  ·rw[z];exact f1
  ·exact λe=>f5 _ _ z e.symm
 refine⟨m,hn.sameBut sb nCa,λh' sb'=>?_⟩;exact⟨_,upd H' acc (.lst ys),I''.turned (t':=s''.toks) (it:=C) (λb o hb e=>(sb'.2 b hb).trans e) f0 f1 f4 f5 f6,q acc na⟩
end
section
variable{σ0:St}{g:TG}{tt:TT}{te:TE}{Q:List V->Hp->Prop}{H1:Hp}
def Nxt(n i:Nat)(Pv:Nat->List V->Hp->Prop)(ys:List V)(H:Hp):Prop:=∃m',m'<n-i/\m'=n-(i+1)/\i+1<=n/\Pv (i+1) ys H
theorem nxt(hi:i<n)(h:Pv (i+1) ys H):Nxt n i Pv ys H:=⟨_,by omega,rfl,hi,h⟩
theorem qA1{K:PySem.W.Frag}{a:Addr}{xs:List V}(Pv:Nat->List V->Hp->Prop)(h0:Pv 0 [] H1)(hl:∀i ys H,i<=xs.length->Pv i ys H->SqL K H a xs)
  (hs:∀i x ys H,xs[i]?=some x->Pv i ys H->g x σ0 H λσ2 H2=>Sle σ0 σ2/\tt σ2 H2 λb H3=>if b=true then te σ2 H3 (λv H4=>ys.length<sizeLine/\Nxt xs.length i Pv (ys++[v]) H4) else Nxt xs.length i Pv ys H3)
  (hd:∀ys H,Pv xs.length ys H->Q ys H):qDj (Itl K a) σ0 g tt te Q H1:=by
 refine⟨λi m ys H=>m=xs.length-i/\i<=xs.length/\Pv i ys H,⟨xs.length,by simp,hAq _,h0⟩,?_⟩;rintro i m ys H ⟨rfl,hi,p⟩;have q:=hl i ys H hi p;by_cases hlt:i<xs.length
 ·refine .inr ⟨⟨xs,xs[i],q,by simp[hlt]⟩,λx H' y=>?_⟩;obtain⟨e,y⟩:=y;subst e;exact hs i x ys _ (y xs q) p
 ·have e:i=xs.length:=by omega
  subst e;exact .inl ⟨⟨xs,q,hA3 _⟩,hd ys H p⟩
theorem qF1{lo:Int}{n:Nat}(Pv:Nat->List V->Hp->Prop)(h0:Pv 0 [] H1)
  (hs:∀i ys H,i<n->Pv i ys H->g (.int (lo+i)) σ0 H λσ2 H2=>Sle σ0 σ2/\tt σ2 H2 λb H3=>if b=true then te σ2 H3 (λv H4=>ys.length<sizeLine/\Nxt n i Pv (ys++[v]) H4) else Nxt n i Pv ys H3)
  (hd:∀ys H,Pv n ys H->Q ys H):qDj (Itr lo n) σ0 g tt te Q H1:=by
 refine⟨λi m ys H=>m=n-i/\i<=n/\Pv i ys H,⟨n,by simp,hAq _,h0⟩,?_⟩;rintro i m ys H ⟨rfl,hi,p⟩;by_cases hlt:i<n
 ·refine .inr ⟨hlt,λx H' y=>?_⟩;obtain⟨e,y⟩:=y;subst e y;exact hs i ys _ hlt p
 ·have e:i=n:=by omega
  subst e;exact .inl ⟨hA3 _,hd ys H p⟩
end
end L2
namespace L2
open PySem PySem.Spec PyProof.Rows PySem.SeqAt
mutual
inductive DR (K:PySem.W.Frag) (H:Hp):V->PyData->Prop
 |non:DR K H .non .none
 |bl (b:Bool):DR K H (.bl b) (.bool b)
 |int (i:Int):DR K H (.int i) (.int i)
 |str (x:Str):DR K H (.str x) (.str x)
 |lst {a:Addr} {xs:List V} {ds:List PyData}:SqL K H a xs->DRs K H xs ds->DR K H (.ref a) (.list ds)
 |tup {a:Addr} {xs:List V} {ds:List PyData}:SqT K H a xs->DRs K H xs ds->DR K H (.ref a) (.tuple ds)
inductive DRs (K:PySem.W.Frag) (H:Hp):List V->List PyData->Prop
 |nil:DRs K H [] []
 |cons {v:V} {d:PyData} {vs:List V} {ds:List PyData}:DR K H v d->DRs K H vs ds->DRs K H (v :: vs) (d :: ds)
end
section
variable{X:Cx}{aB:List (Addr×Obj)}{σ:St}{H:Hp}{s:Shared}
mutual
theorem DR.reads(I:Inv X aB σ H s):∀ {v:V} {d:PyData} {u:Value},DR X.K H v d->qB6 v u->∃as,Reads s.heap u d as
 |_,_,_,.non,r=>by cases r;exact⟨_,.none⟩
 |_,_,_,.bl b,r=>by cases r;exact⟨_,.bool b⟩
 |_,_,_,.int i,r=>by obtain⟨t,rfl⟩:=r;exact⟨_,.int i t⟩
 |_,_,_,.str x,r=>by obtain⟨t,rfl⟩:=r;exact⟨_,.str x t⟩
 |_,_,_,.lst hq hd,r=>by
  cases r;obtain⟨its,rv,⟨o,n,e,c,_,dt⟩,_⟩:=I.list hq;obtain⟨as,ra⟩:=DRs.reads I hd rv;exact⟨_,.list e c dt ra⟩
 |_,_,_,.tup hq hd,r=>by
  cases r;obtain⟨its,rv,⟨o,e,c,n,dt⟩,_⟩:=I.tuple hq;obtain⟨as,ra⟩:=DRs.reads I hd rv;exact⟨_,.tuple e c dt ra⟩
theorem DRs.reads(I:Inv X aB σ H s):∀ {vs:List V} {ds:List PyData} {us:List Value},DRs X.K H vs ds->qBh vs us->∃as,ReadsAll s.heap us ds as
 |_,_,_,.nil,r=>by cases r;exact⟨_,.nil⟩
 |_,_,_,.cons h t,r=>by
  cases r with
  |cons r rr =>
   obtain⟨a1,q1⟩:=DR.reads I h r;obtain⟨a2,q2⟩:=DRs.reads I t rr;exact⟨_,.cons q1 q2⟩
end
end
def zD9(K:PySem.W.Frag)(neg:Bool):R2:=λx y H Q=>∃dx dy,DR K H x dx/\DR K H y dy/\shaped dx=true/\shaped dy=true/\Q (.bl (if neg then !PyData.eqv dx dy else PyData.eqv dx dy)) H
section
variable{X:Cx}
theorem zA6(hu:X.A.units+64<cLine):OpR X (compareOp .Eq) (zD9 X.K false):=by
 intro aB s σ H x y v u Q I rx ry h;obtain⟨dx,dy,hx,hy,sx,sy,q⟩:=h;obtain⟨a1,r1⟩:=DR.reads I hx rx;obtain⟨a2,r2⟩:=DR.reads I hy ry;exact eq_dataH r1 r2 sx sy hu ⟨.bl (PyData.eqv dx dy),H,I,rfl,q⟩
theorem qV0(hu:X.A.units+64<cLine):OpR X (compareOp .NotEq) (zD9 X.K true):=by
 intro aB s σ H x y v u Q I rx ry h;obtain⟨dx,dy,hx,hy,sx,sy,q⟩:=h;obtain⟨a1,r1⟩:=DR.reads I hx rx;obtain⟨a2,r2⟩:=DR.reads I hy ry;exact ne_dataH r1 r2 sx sy hu ⟨.bl (!PyData.eqv dx dy),H,I,rfl,q⟩
theorem qCo:∀ {us:List Value},qBh (ss.map V.str) us->StrsAre us ss:=by
 induction ss with
 |nil=>intro us r;cases r;exact .nil
 |cons a l ih =>
  intro us r;cases r with
  |cons r rr =>
   obtain⟨t,rfl⟩:=r;exact .cons a t (ih rr)
theorem qFb:∀ {us:List Value},StrsAre us ss->qBh (ss.map V.str) us:=by
 induction ss with
 |nil=>intro us r;cases r;exact .nil
 |cons a l ih =>
  intro us r;cases r with
  |cons _ _ r=>exact .cons ⟨_,rfl⟩ (ih r)
theorem qFo:qB2 X (.builtin "sorted") (λxs H Q=>∃p ss,xs=[.ref p]/\SqL X.K H p (ss.map V.str)/\ss.length<64/\∀r ss',H r=none->ss'.Perm ss->sortedS ss'=true->Q (.ref r) (upd H r (.lst (ss'.map V.str)))):=by
 intro aB s σ H xs us Q I r h;obtain⟨p,ss,rfl,hq,h64,q⟩:=h;obtain⟨u,rfl,rx⟩:=qCw r;cases rx;obtain⟨its,rv,pl,hz⟩:=I.list hq;have hl:=rv.length;rw[hA1]at hl;refine sorted_strs pl.isList (qCo rv) (by omega) λout ss' h1 h2 h3=>?_
 obtain⟨e,he⟩:=sortedAll_at s.heap its out;have nz:H (s.heap.objs.size+1)=none:=I.hok.fresh (hAy _);refine⟨.ref (s.heap.objs.size+1),_,I.laid (t':=s.toks) (a:=s.heap.objs.size+1) (o:=.lst (ss'.map V.str)) (λb o eb=>sortedAll_old eb) (hAy _) ?_,rfl,q _ ss' nz h2 h3⟩;refine⟨?_,out.toList,e,qFb h1,by simpa using he⟩;rw[hA1,h2.length_eq];exact hAz (qAf (by omega))
end
end L2
namespace L2
open PySem PySem.Spec PyProof.Rows
section
variable{X:Cx}
theorem qVg:SlR X (λx lo hi H Q=>∃z:Str,x = .str z/\z.length<=sizeLine/\Q (.str (Txt.slice z lo hi)) H):=by
 intro aB s σ H x v vl vu lo hi sl Q I rx hs pl pu h;obtain⟨z,rfl,hz,q⟩:=h;obtain⟨t,rfl⟩:=rx;refine⟨"str",_,F.slot_str_getitem.lookup,typeIs_str _ _ _,?_⟩;obtain⟨o,ho,hc,hd⟩:=hs;have fin:∀t' k,EP X aB σ Q (.str (Txt.slice z lo hi) t') { s with toks:=k }:=λt' k=>⟨.str (Txt.slice z lo hi),H,I.tok k,⟨t',rfl⟩,q⟩
 cases pl with
 |none =>
  cases pu with
  |none=>exact hEc (l:=none) (u:=none) (st:=none) ⟨o,ho,hc,hd⟩ rfl (hEx ⟨hAx (Txt.slice_le z _ _) hz,fin⟩)
  |int j uj=>exact hEc (l:=none) (u:=some (j,uj)) (st:=none) ⟨o,ho,hc,hd⟩ rfl (hEx ⟨hAx (Txt.slice_le z _ _) hz,fin⟩)
 |int i ui =>
  cases pu with
  |none=>exact hEc (l:=some (i,ui)) (u:=none) (st:=none) ⟨o,ho,hc,hd⟩ rfl (hEx ⟨hAx (Txt.slice_le z _ _) hz,fin⟩)
  |int j uj=>exact hEc (l:=some (i,ui)) (u:=some (j,uj)) (st:=none) ⟨o,ho,hc,hd⟩ rfl (hEx ⟨hAx (Txt.slice_le z _ _) hz,fin⟩)
theorem qL3(h1:x.length<=100)(h2:0<=n)(h3:n<=100):PySem.MulOk x n:=by
 refine⟨?_,λh _=>?_,λh _=>?_⟩
 ·rw[Bool.or_eq_false_iff];exact⟨hDr (by omega),hDr (by omega)⟩
 ·have e:((2^63-1:Int) / n) >= 100:=by
   apply Int.le_ediv_of_mul_le (by omega);omega
  omega
 ·unfold Builtin.Str.tooLong;have:x.length*n.toNat<=100*100:=Nat.mul_le_mul h1 (by omega);exact hDr (by have:sizeLine > 10000:=(by decide);omega)
theorem qO2:OpR X (binaryOp .Mult) (λx y H Q=>∃(z:Str) (n:Int),x = .str z/\y = .int n/\z.length<=100/\0<=n/\n<=100/\Q (.str (Txt.mul z n)) H):=by
 intro aB s σ H x y v u Q I rx ry h;obtain⟨z,n,rfl,rfl,h1,h2,h3,q⟩:=h;obtain⟨t,rfl⟩:=rx;obtain⟨t',rfl⟩:=ry;exact SB.mul (qL3 h1 h2 h3) λt' k=>⟨.str (Txt.mul z n),H,I.tok k,⟨t',rfl⟩,q⟩
theorem qBd:qB2 X (.builtin "isinstance") (λxs H Q=>∃x t c b,xs=[x,.ty c]/\TyOf X.K H x t/\PySem.W.kitOne X.K t (.type c)=some b/\Q (.bl b) H):=by
 intro aB s σ H xs us Q I r h;obtain⟨x,t,c,b,rfl,ty,e,q⟩:=h;obtain⟨u,w',rfl,rx,rc⟩:=qH6 r;cases(show w'=Value.type c from rc);exact qR1 I rx ty e λtk=>⟨.bl b,H,I.tok tk,rfl,q⟩
end
section
variable{X:Cx}
theorem qUo(bs:List Bool)(d:Bool):(List.range bs.length).all (λi=>bs.getD i d)=bs.all id:=by
 induction bs with
 |nil=>rfl
 |cons b r ih =>
  rw[hB8,List.range_succ_eq_map,List.all_cons,List.all_map,List.all_cons];have e:((λi=>(b :: r).getD i d)∘Nat.succ)=λi=>r.getD i d:=by
   funext i;simp
  rw[e,ih];simp
theorem qZt{P:Program}{w:World}{A:Around}{bs:List Bool}{its:List Value}(rv:qBh (bs.map V.bl) its)(d:Bool):TruthOf P w A (λi v=>its.toArray[i]?=some v) (λi=>bs.getD i d):=by
 intro i v s Q E hv hQ;have hv':its[i]?=some v:=by simpa using hv
 have hi:i<its.length:=(hAc.mp hv').1;have hl:=rv.length;rw[hA1]at hl;have hb:(bs.map V.bl)[i]?=some (V.bl bs[i]):=by rw[hAj,hA2 (by omega)];rfl
 obtain⟨u,hu,ru⟩:=rv.get hb;rw[hv']at hu;have e:v=Value.bool bs[i]:=(hAr hu).trans ru;rw[e];have e2:bs.getD i d=bs[i]:=by rw[hA5,hA2 (by omega)];rfl
 have hQ:Q (bs.getD i d) s:=hQ;rw[e2]at hQ;exact hE8 hQ
theorem qCh(hc:X.calm=true):qB2 X (.builtin "all") (λxs H Q=>∃(p:Addr) (bs:List Bool),xs=[.ref p]/\SqL X.K H p (bs.map V.bl)/\Q (.bl (bs.all id)) H):=by
 intro aB s σ H xs us Q I r h;obtain⟨p,bs,rfl,hq,q⟩:=h;obtain⟨u,rfl,rx⟩:=qCw r;cases rx;obtain⟨its,rv,pl,hz⟩:=I.list hq;have hl:=rv.length;rw[hA1]at hl;have hne:p≠s.heap.objs.size:=by
  obtain⟨o,n,e,_⟩:=pl;exact hAi (Heap.lt_size e)
 have hh:=I.ok.hd hc;refine call_all_walk (hEa pl.isList ?_);refine⟨s.heap.objs.size,_,_,_,_,_,λi=>bs.getD i true,rfl,Walks.list (by exact hh) _ p hne its.toArray,⟨⟨_,Heap.get?_push_size _ rfl,rfl,rfl⟩,pl.isList.at λo e=>Heap.get?_push_of_some _ e⟩,qZt rv true,λh' tk hk=>?_⟩;refine⟨.bl (bs.all id),H,I.kept (t':=tk) λb o e=>hk b o ?_ (Heap.get?_push_of_some _ e),?_,q⟩
 ·intro z;rw[hAa]at z;exact absurd (Heap.lt_size e) (by rw[z];exact hBe _)
 ·show Value.bool _=Value.bool _;rw[hAf,<-hl,qUo]
def Itv(n:Nat)(xv:Nat->V):It:=⟨λi _=>i<n,λi H x H'=>H'=H/\x=xv i,λi _=>n=i⟩
theorem qPt{P:Program}{w:World}{K:PySem.W.Frag}{tg:Expr}(it:Addr)(n:Nat)(xv:Nat->V)(Pv:Nat->Value->Prop)(St:Nat->Heap->Prop)(ty:String)
  (W:∀A:Around,A.handled=none->Walks P w A it [it] [it] n Pv St) (hv:∀i v,Pv i v->qB6 (xv i) v)
  (ho:∀i h,St i h->∃o vs,h.get? it=some o/\o.cls = .type ty/\o.data = .fields vs)
  (hn:["enumerate","zip","dict_itemiterator","dict_reverseitemiterator","odict_iterator","itertools.zip_longest","itertools.pairwise"].contains ty=false)
  (hself:∀(A:Around) (i:Nat) (s:Shared) (Q:Value->Shared->Prop) (E:Value->Shared->Prop),St i s.heap->Q (.ref it) s->wpAny (model P w) A (pyIter (.ref it)) Q E s):Turn P w K tg (Itv n xv) [it] it St where
 mem:=by simp
 obj:=λi h st b hb=>by
  have e:b=it:=by simpa using hb
  subst e;obtain⟨o,vs,e,c,d⟩:=ho i h st;exact⟨o,e,λv z=>by rw[d]at z;cases z⟩
 keep:=λi h h' st k=>(W { handled:=none } rfl).frame i h h' st k
 item:=by
  intro X hP hw hK hc i aB s σ H E I hf st hg;subst hP hw hK;obtain⟨f0,f1,f2,f3,f4,f5⟩:=hf it (by simp);refine(W X.A (I.ok.hd hc)).item i s _ _ hg st λv h' tk pv st' kk=>?_
  have I1:Inv X aB σ H { s with heap:=h',toks:=tk }:=I.turned (λb o hb e=>kk b o (by simpa using hb) e) f0 f1 f3 f4 f5;obtain⟨o,vs,e,c,d⟩:=ho (i+1) h' st';exact⟨v,rfl,qUl (s:={ s with heap:=h',toks:=tk }) e c d hn ⟨xv i,H,I1,hv i v pv,⟨rfl,rfl⟩,st',λb hb=>(hf b hb).1⟩⟩
 done:=by
  intro X hP hw hK hc i aB s σ H E I hf st hg;subst hP hw hK;obtain⟨f0,f1,f2,f3,f4,f5⟩:=hf it (by simp);have hg':n=i:=hg;subst hg';refine(W X.A (I.ok.hd hc)).done s _ _ st λh' tk kk=>⟨rfl,?_⟩
  exact I.turned (λb o hb e=>kk b o (by simpa using hb) e) f0 f1 f3 f4 f5
 self:=hself
def zDb(x:Str)(i:Nat):V:=.str ⟨#[x.cps.toList.getD i 0]⟩
def zFb(t:TE):TI:=λσ H R=>t σ H λv H1=>∃x:Str,v = .str x/\R (Itv x.cps.size (zDb x)) H1
theorem qWv(h:SignAt x i v):qB6 (zDb x i) v:=by
 obtain⟨c,u,hc,rfl⟩:=h;refine⟨u,?_⟩;have:x.cps.toList.getD i 0=c:=by
  rw[hA5,hBj,hc];rfl
 rw[this]
theorem qVv{e tg:Expr}{t:TE}(he:PE X e t):PI X tg e (zFb t):=by
 intro aB s σ H R I h;refine thn (he aB s σ H _ I h) λv s1 ⟨y,H1,I1,r1,q1⟩=>?_
 obtain⟨x,rfl,q⟩:=q1;obtain⟨tk,rfl⟩:=r1;have fin:∀(o:Obj) (ty:String),o={ cls:=.type ty,data:=.fields #[.str x tk,.int 0 0] }->(["enumerate","zip","dict_itemiterator","dict_reverseitemiterator","odict_iterator","itertools.zip_longest","itertools.pairwise"].contains ty=false) ->
   (∀A:Around,A.handled=none->Walks X.prog X.w A s1.heap.objs.size [s1.heap.objs.size] [s1.heap.objs.size] x.cps.size (SignAt x) (λi h=>h.IsStrIter s1.heap.objs.size ty x tk i)) ->
   (∀(A:Around) (i:Nat) (s:Shared) (Q:Value->Shared->Prop) (E:Value->Shared->Prop),s.heap.IsStrIter s1.heap.objs.size ty x tk i->Q (.ref s1.heap.objs.size) s->wpAny (model X.prog X.w) A (pyIter (.ref s1.heap.objs.size)) Q E s) ->
   PIE X aB σ tg R (.ref s1.heap.objs.size) { s1 with heap:=s1.heap.push o }:=by
  intro o ty eo hn W self;subst eo;refine⟨s1.heap.objs.size,[s1.heap.objs.size],_,_,H1,rfl,I1.kept (t':=s1.toks) λb o e=>Heap.get?_push_of_some _ e,qPt s1.heap.objs.size x.cps.size (zDb x) _ _ ty W (λi v=>qWv) (λi h st=>?_) hn self,⟨_,Heap.get?_push_size _ rfl,rfl,rfl⟩,λb hb=>?_,q⟩
  ·obtain⟨o,h1,h2,h3⟩:=st;exact⟨o,_,h1,h2,h3⟩
  ·have e:b=s1.heap.objs.size:=by simpa using hb
   subst e;exact I1.fpOk (hA3 _) (I1.hok.fresh (hA3 _))
 cases ha:x.cps.all (· < 128)
 ·exact wpAny_pyIter_wide ha (fin _ "str_iterator" rfl (by decide) (λA hA=>Walks.strWide hA _ x tk) (λA i s Q E st hQ=>wpAny_pyIter_striter_wide st hQ))
 ·exact wpAny_pyIter_ascii ha (fin _ "str_ascii_iterator" rfl (by decide) (λA hA=>Walks.strAscii hA _ x tk) (λA i s Q E st hQ=>wpAny_pyIter_striter_ascii st hQ))
theorem qJl(Pv:Nat->List V->Hp->Prop)(h0:Pv 0 [] H1)
  (hs:∀i ys H,i<n->Pv i ys H->g (xv i) σ0 H λσ2 H2=>Sle σ0 σ2/\tt σ2 H2 λb H3=>if b=true then te σ2 H3 (λv H4=>ys.length<sizeLine/\Nxt n i Pv (ys++[v]) H4) else Nxt n i Pv ys H3)
  (hd:∀ys H,Pv n ys H->Q ys H):qDj (Itv n xv) σ0 g tt te Q H1:=by
 refine⟨λi m ys H=>m=n-i/\i<=n/\Pv i ys H,⟨n,by simp,hAq _,h0⟩,?_⟩;rintro i m ys H ⟨rfl,hi,p⟩;by_cases hlt:i<n
 ·refine .inr ⟨hlt,λx H' y=>?_⟩;obtain⟨e,y⟩:=y;subst e y;exact hs i ys _ hlt p
 ·have e:i=n:=by omega
  subst e;exact .inl ⟨rfl,hd ys H p⟩
end
theorem qL0(t:SetTable)(n:Nat):(t.orStandIn n).led=t.led:=by
 unfold SetTable.orStandIn;split <;> rfl
theorem qO8(t:SetTable)(es:Array (Int×Value))(h:Int)(x:Value):(layNew t es h x).2.1.led=t.led:=by
 unfold layNew;split
 ·exact qL0 _ _
 ·rfl
theorem qQ3(t:SetTable)(es:Array (Int×Value))(k:Nat):(relayAll t es k).2.1.led=t.led:=by
 unfold relayAll;split
 ·rename_i u order e;have eu:u.led=t.led:=by
   unfold SetTable.relaid SetTable.laid at e;cases hc:SetTable.layClean (SetTable.sizeAbove k-1) (es.map (·.1)) with
   |none=>rw[hc]at e;cases e
   |some o =>
    rw[hc]at e;injection e with e
    injection e with e1 e2
    rw[<-e1]
  dsimp only;split
  ·exact eu
  ·rfl
 ·rfl
theorem qLr(t:SetTable)(es:Array (Int×Value))(k:Nat)(hp:t.plain=false):(relayAll t es k).2.1.plain=false:=by
 unfold relayAll;split
 ·rename_i u order e;have eu:u.plain=t.plain:=by
   unfold SetTable.relaid SetTable.laid at e;cases hc:SetTable.layClean (SetTable.sizeAbove k-1) (es.map (·.1)) with
   |none=>rw[hc]at e;cases e
   |some o =>
    rw[hc]at e;injection e with e
    injection e with e1 e2
    rw[<-e1]
  dsimp only;split
  ·exact eu.trans hp
  ·rfl
 ·rfl
def qBp(P:Program)(w:World)(h:Heap)(a:Addr)(ss:List Str):Prop :=
 ∃(es:Array (Int×Value)) (ep:Nat) (t:SetTable),h.get? a=some { cls:=.type "set",dict:=none,data:=.set es ep t,slots:=#[] }/\ElemsOf (PySem.strKind P w) es.toList /\
  StrsAre (es.toList.map (·.2)) ss/\es.size<scanBound/\t.fits es.size=true/\t.led=!w.params.followText "set-order"/\(es.size≠0->t.plain=false)
theorem qId:∀ {vs:List Value} {ss:List Str},StrsAre vs ss->((∃v∈vs,Value.isStrOf x v=true)↔x∈ss)
 |_,_,.nil=>by simp
 |_,_,.cons y t r=>by
  have ih:=qId (x:=x) r;have hy:Value.isStrOf x (.str y t)=true↔x=y:=by
   constructor
   ·intro h;obtain⟨u,e⟩:=Value.isStrOf_shape h;cases e;rfl
   ·rintro rfl;simp[Value.isStrOf]
  constructor
  ·rintro⟨v,hv,hp⟩;rcases hA8.mp hv with rfl|hv
   ·rw[hy.mp hp];exact hA6
   ·exact hA4 _ (ih.mp ⟨v,hv,hp⟩)
  ·intro h;rcases hA8.mp h with h|h
   ·exact⟨_,hA6,hy.mpr h⟩
   ·obtain⟨v,hv,hp⟩:=ih.mpr h;exact⟨v,hA4 _ hv,hp⟩
theorem qP0{es es1:List (Int×Value)}{ss:List Str}{k:Int}{x:Str}{t:Tok}(hS:StrsAre (es.map (·.2)) ss)(p:es1.Perm (es++[(k,.str x t)])):∃ss1,StrsAre (es1.map (·.2)) ss1/\ss1.Perm (ss++[x]):=by
 have hall:∀v,v∈es1.map (·.2)->∃y u,v = .str y u:=by
  intro v hv;obtain⟨e,he,rfl⟩:=hAe.mp hv;rcases hAh.mp (p.mem_iff.mp he) with z|z
  ·exact hS.all _ (hBd z)
  ·rw[hAa]at z;subst z;exact⟨x,t,rfl⟩
 refine⟨_,strsAre_map _ hall,?_⟩;have q:=(p.map (·.2)).map strOf;rw[hA7,hA7,hS.strs]at q;exact q
theorem qE6{es es1:List (Int×Value)}{ss:List Str}(hS:StrsAre (es.map (·.2)) ss)(p:es1.Perm es):∃ss1,StrsAre (es1.map (·.2)) ss1/\ss1.Perm ss:=by
 have hall:∀v,v∈es1.map (·.2)->∃y u,v = .str y u:=by
  intro v hv;obtain⟨e,he,rfl⟩:=hAe.mp hv;exact hS.all _ (hBd (p.mem_iff.mp he))
 refine⟨_,strsAre_map _ hall,?_⟩;have q:=(p.map (·.2)).map strOf;rw[hS.strs]at q;exact q
section
variable{P:Program}{w:World}{A:Around}{E:Value->Shared->Prop}{s:Shared}{a:Addr}{ss:List Str}
theorem qHk(ho:s.heap.get? a=some { cls:=.type "set",dict:=none,data:=.set es ep t,slots:=#[] }) :
  (s.heap.update a (Obj.putSet es' t')).get? a=some { cls:=.type "set",dict:=none,data:=.set es' (ep+1) t',slots:=#[] }:=by
 have q:=Heap.get?_update_self (Obj.putSet es' t') ho (by rw[putSet_of es' t' rfl];rfl);rw[putSet_of es' t' rfl]at q;exact q
theorem qJm{g:Bool->Sem Unit}(hg:∀(b:Bool) (s1:Shared) (Q':Unit->Shared->Prop),Q' () s1->wpAny (model P w) A (g b) Q' E s1){es es1:Array (Int×Value)}{ep:Nat}{t t2:SetTable}{ss1:List Str}
  (ho:s.heap.get? a=some { cls:=.type "set",dict:=none,data:=.set es ep t,slots:=#[] }) (e1:ElemsOf (PySem.strKind P w) es1.toList) (e2:StrsAre (es1.toList.map (·.2)) ss1) (e3:es1.size<scanBound) (e4:t2.fits es1.size=true)
  (e5:t2.led=!w.params.followText "set-order") (e6:t2.plain=false) {wasD:Bool} {R:Option Bool->Shared->Prop} (h:∀h' ss',Heap.SameBut a s.heap h'->qBp P w h' a ss'->ss'.Perm ss1->R (some true) { s with heap:=h' }) :
  wpAny (model P w) A (do
    storeSet a es1 t2
    if (!wasD && t2.tooFull)=true then do
      g (relayAll t2 es1 (SetTable.grown es1.size)).2.2
      storeSet a (relayAll t2 es1 (SetTable.grown es1.size)).1 (relayAll t2 es1 (SetTable.grown es1.size)).2.1
      pure (some true)
     else pure (some true)) R E s:=by
 refine hDo (wpAny_storeSet_of ho rfl ?_ (hEq e3));have o1:(s.heap.update a (Obj.putSet es1 t2)).get? a=_:=qHk (s:=s) ho;have b1:=Heap.SameBut.update s.heap a (Obj.putSet es1 t2);split
 ·have p:=relayAll_perm t2 es1 (SetTable.grown es1.size);have f:=relayAll_fits t2 es1 (SetTable.grown es1.size);have l:=qQ3 t2 es1 (SetTable.grown es1.size);have pl:=qLr t2 es1 (SetTable.grown es1.size) e6;generalize relayAll t2 es1 (SetTable.grown es1.size)=Rl at p f l pl ⊢;obtain⟨es2,t3,gv⟩:=Rl;dsimp only at p f l pl ⊢;have z2:es2.size=es1.size:=by rw[<-hBo,p.length_eq,hBo]
  obtain⟨ss2,q1,q2⟩:=qE6 e2 p;refine hDo (hg _ _ _ (hDo (wpAny_storeSet_of o1 rfl ?_ (hEq (by rw[z2];exact e3)))));have o2:((s.heap.update a (Obj.putSet es1 t2)).update a (Obj.putSet es2 t3)).get? a=_:=qHk (s:={ s with heap:=s.heap.update a (Obj.putSet es1 t2) }) o1;exact hDq (h _ ss2 (b1.trans (Heap.SameBut.update _ a _)) ⟨es2,_,t3,o2,e1.perm p,q1,by rw[z2];exact e3,f,l.trans e5,λ_=>pl⟩ q2)
 ·exact hDq (h _ ss1 b1 ⟨es1,_,t2,o1,e1,e2,e3,e4,e5,λ_=>e6⟩ (hDf _))
theorem qMp(hS:qBp P w s.heap a ss)(room:ss.length+1<scanBound)
  (h:∀h' ss',Heap.SameBut a s.heap h'->qBp P w h' a ss'->(if x∈ss then ss'=ss else ss'.Perm (ss++[x]))->Q (!decide (x∈ss)) { s with heap:=h' }) :
  wpAny (model P w) A (setAddHashed a (.str x tk) ((PySem.strKind P w).hash x)) Q E s:=by
 obtain⟨es,ep,t,ho,e1,e2,e3,e4,e5,e6⟩:=hS;have hk:(PySem.strKind P w).is x (.str x tk)=true:=strKind_is P w x tk;have hsc:Value.scannable (.str x tk)=true:=rfl;have hz:ss.length=es.size:=by rw[<-e2.strs,hA1,hA1,hBo]
 unfold setAddHashed setAddHashedIn;refine hDv (hDo (hEb ho rfl e4 ?_));dsimp only;rw[byScan_of hsc e3 e1,hDu rfl];unfold setAddByScan;refine hDo (hDo (hEu (hDo (wpAny_setScan_of hk ho rfl e4 e1 ?_))));cases hr:List.findIdx? (λe=>(PySem.strKind P w).is x e.2) es.toList with
 |some j =>
  dsimp only;obtain⟨hj,hp,_⟩:=List.findIdx?_eq_some_iff_getElem.mp hr;have hm:x∈ss:=(qId e2).mp ⟨_,hBd (hBf hj),hp⟩;have q:=h s.heap ss (Heap.SameBut.refl a _) ⟨es,ep,t,ho,e1,e2,e3,e4,e5,e6⟩ (by rw[hDu hm]);rw[hDp hm]at q;exact hDq (hDq q)
 |none =>
  dsimp only;have hm:¬x∈ss:=λz=>by
   obtain⟨v,hv,hp⟩:=(qId e2).mpr z;obtain⟨e,he,rfl⟩:=hAe.mp hv;have q:=List.findIdx?_eq_none_iff.mp hr e he;rw[show(PySem.strKind P w).is x e.2=true from hp]at q;cases q
  have gw:∀(b:Bool) (s1:Shared) (Q':Unit->Shared->Prop),Q' () s1->wpAny (model P w) A (match b with|true=>rule "set.scan.the-table-gave-way" |false=>pure ()) Q' E s1:=λb s1 Q' hq=>by
   cases b
   ·exact hDq hq
   ·exact hEu hq
  have p:=layNew_perm t es ((PySem.strKind P w).hash x) (.str x tk);have f:=layNew_fits t es ((PySem.strKind P w).hash x) (.str x tk);have l:=qO8 t es ((PySem.strKind P w).hash x) (.str x tk);generalize layNew t es ((PySem.strKind P w).hash x) (.str x tk)=L at p f l ⊢;obtain⟨es1,t1,wasD,gv⟩:=L;dsimp only at p f l ⊢;rw[Array.toList_push]at p;have d1:ElemsOf (PySem.strKind P w) es1.toList:=(e1.push hk hsc).perm p;obtain⟨ss1,d2,d3⟩:=qP0 e2 p;have z1:es1.size=es.size+1:=by rw[<-hBo,p.length_eq,hAd,hBo];rfl
  have d4:es1.size<scanBound:=by rw[z1,<-hz];exact room
  have fin:∀h' ss',Heap.SameBut a s.heap h'->qBp P w h' a ss'->ss'.Perm ss1->Q true { s with heap:=h' }:=λh' ss' b1 b2 b3=>by
   have q:=h h' ss' b1 b2 (by rw[hDt hm];exact b3.trans d3);rw[hDr hm]at q;exact q
  refine hDo (gw _ _ _ ?_);split
  ·rename_i hpl;refine hDo ?_;rw[hashByValue_scannable 8 hsc];refine hDq ?_;refine qJm gw ho d1 d2 d4 (SetTable.fits_plain_off f) (l.trans e5) rfl λh' ss' b1 b2 b3=>?_
   exact hDq (fin h' ss' b1 b2 b3)
  ·rename_i hpl;refine hDo (hDq ?_);rw[hDu rfl];refine qJm gw ho d1 d2 d4 f (l.trans e5) (by simpa using hpl) λh' ss' b1 b2 b3=>?_
   exact hDq (fin h' ss' b1 b2 b3)
end
theorem qBp.at(x:qBp P w h a ss)(k:∀o,h.get? a=some o->h'.get? a=some o):qBp P w h' a ss:=by
 obtain⟨es,ep,t,ho,r⟩:=x;exact⟨es,ep,t,k _ ho,r⟩
def qS2(val:Nat->Str)(i:Nat)(ss:List Str):Prop:=ss.Nodup/\ss.length<=i/\∀x,x∈ss↔∃j,j<i/\val j=x
theorem qS2.zero(val:Nat->Str):qS2 val 0 []:=⟨hDg,hA3 _,λx=>by simp⟩
theorem qS2.next(h:qS2 val i ss)(e:if val i∈ss then ss'=ss else ss'.Perm (ss++[val i])):qS2 val (i+1) ss':=by
 obtain⟨h1,h2,h3⟩:=h;by_cases hm:val i∈ss
 ·rw[hDu hm]at e;subst e;refine⟨h1,by omega,λx=>(h3 x).trans ⟨λ⟨j,a,b⟩=>⟨j,by omega,b⟩,λ⟨j,a,b⟩=>?_⟩⟩;by_cases hj:j<i
  ·exact⟨j,hj,b⟩
  ·have:j=i:=by omega
   subst this;subst b;exact(h3 _).mp hm
 ·rw[hDt hm]at e;refine⟨e.nodup_iff.mpr ?_,?_,λx=>?_⟩
  ·rw[hDa];exact⟨h1,by simp,λy hy z hz=>by rw[hAa]at hz;subst hz;rintro rfl;exact hm hy⟩
  ·rw[e.length_eq,hAd]
   simpa using h2
  ·rw[e.mem_iff,hAh,h3 x,hAa];constructor
   ·rintro(⟨j,a,b⟩|rfl)
    ·exact⟨j,by omega,b⟩
    ·exact⟨i,by omega,rfl⟩
   ·rintro⟨j,a,b⟩;by_cases hj:j<i
    ·exact .inl ⟨j,hj,b⟩
    ·have:j=i:=by omega
     subst this;exact .inr b.symm
section
variable{P:Program}{w:World}{A:Around}{R:Result->Shared->Prop}{I:Addr}{fp wr:List Addr}{G:Array GenState->Array GenState->Prop}{n:Nat}{Pv:Nat->Value->Prop}{St:Nat->Shared->Prop}
theorem qPx(W:WalksS P w A.in1 I fp wr G n Pv St)(S:Addr)(nS:S∉fp)(val:Nat->Str)(hv:∀i v,Pv i v->∃t,v = .str (val i) t)(nb:n+1<scanBound):∀(k i:Nat) (s:Shared) (ss:List Str),n-i=k->i<=n->St i s->qBp P w s.heap S ss->qS2 val i ss ->
  (∀s' ss',Moved (S :: wr) G s s'->qBp P w s'.heap S ss'->qS2 val n ss'->R (.ok (.ret .none)) s')->codeAny (model P w) A (.builtin "set.update.loop" ⟨[.ref S,.ref I],[]⟩) R s:=by
 have nw:S∉wr:=λz=>nS (W.sub _ z)
 have sub:∀b∈wr,b∈S :: wr:=λb z=>hA4 _ z
 intro k
 induction k with
 |zero =>
  intro i s ss hk hi st hS ho r;have e:i=n:=by omega
  subst e;refine hE1 PyProof.Rows.F.entry_set_update_loop ?_;rw[Around.under_plainId PyProof.Rows.F.plain_set_update_loop _];show wpAny _ A.in1 (pyNext (.ref I) >>= _) _ _ _;refine hDo (W.done s _ _ st λs1 m1=>hDq (r s1 ss (m1.mono sub) (hS.at λo z=>m1.heap S o nw z) ho))
 |succ k ih =>
  intro i s ss hk hi st hS ho r;have lt:i<n:=by omega
  refine hE1 PyProof.Rows.F.entry_set_update_loop ?_;rw[Around.under_plainId PyProof.Rows.F.plain_set_update_loop _];show wpAny _ A.in1 (pyNext (.ref I) >>= _) _ _ _;refine hDo (W.item i s _ _ lt st λv s1 pv st1 m1=>?_);obtain⟨t,rfl⟩:=hv i v pv;have hS1:qBp P w s1.heap S ss:=hS.at λo z=>m1.heap S o nw z
  show wpAny _ A.in1 (holding [Value.str (val i) t] (setAdd S (.str (val i) t)) >>= _) _ _ s1;refine hDo (hDv ?_);unfold setAdd;refine hDv (hDo ((PySem.strKind P w).pyHash (strKind_is P w _ _) ?_));refine qMp (s:={ s1 with toks:=s1.toks+1 }) hS1 (by have:=ho.2.1;omega) λh2 ss2 sb2 hS2 q2=>?_
  refine hDq ⟨hEg PyProof.Rows.F.plain_set_update_loop _,ih (i+1) _ ss2 (by omega) lt (W.frame _ s1 _ _ st1 (hAy _) λb hb o e=>?_) hS2 (ho.next q2) λs3 ss3 m3 hS3 o3=>?_⟩
  ·rw[sb2.2 b (λz:b=S=>nS (by rw[<-z];exact hb))];exact e
  ·refine r s3 ss3 (Moved.trans W.gtrans ((m1.mono sub).then_heap (hAy _) λb o hb e=>?_) m3) hS3 o3;rw[sb2.2 b (λz:b=S=>hb (by rw[z];exact hA6))];exact e
end
section
variable{P:Program}{w:World}{A:Around}{E:Value->Shared->Prop}{s:Shared}
abbrev qOl(w:World):Obj:={ cls:=.type "set",dict:=none,data:=.set #[] 0 (.fresh 0 0 (!w.params.followText "set-order")),slots:=#[] }
theorem qQl(P:Program)(w:World)(e:h.get? a=some (qOl w)):qBp P w h a []:=⟨#[],0,_,e,λe he=>by simp at he,.nil,by show 0<scanBound;decide,by rfl,rfl,λz=>absurd rfl z⟩
theorem qSq(v:Value)(h:Q1 (.ref s.heap.objs.size) { s with heap:=s.heap.push (qOl w) }):codeAny (model P w) A (.call (.builtin "set.__new__") ⟨[.type "set",v],[]⟩) (wants Q1 E) s:=by
 refine codeAny_of_tree ?_;show wpAny _ A.in1 (do checkBuiltinCall "set.__new__" ⟨[.type "set",v],[]⟩;again (.builtin "set.__new__" ⟨[.type "set",v],[]⟩)) _ _ s;refine hDo (wpAny_of_eq (PySem.F.newCall_set_1 v) (hDq ⟨hEg PySem.F.plain_set_new _,hE1 PySem.F.entry_set_new ?_⟩));rw[Around.under_plainId PySem.F.plain_set_new _];unfold Builtin.«set.__new__» Builtin.Frozenset.newClass;have hsub:=sub_set_self;obtain⟨hp,g,d,tk,os⟩:=s;dsimp only
 wp_walk
 refine hE7 (hDq ?_);dsimp only;simp only[newObj];exact hDo (wpAny_alloc (hDq (hDq h)))
theorem qSs(hh:A.handled=none)(hl:s.heap.IsList l items)(hi:StrsAre items.toList ss0)(hb:items.size+1<scanBound)
  (h:∀(h':Heap) (tk:Nat) (ss:List Str),qBp P w h' s.heap.objs.size ss->qS2 (λi=>ss0.getD i default) items.size ss->(∀b o,b<s.heap.objs.size->s.heap.get? b=some o->h'.get? b=some o)->Q (.ref s.heap.objs.size) { s with heap:=h',toks:=tk }) :
  wpAny (model P w) A (call (.type "set") [.ref l]) Q E s:=by
 obtain⟨c,tl,hmro⟩:=hC9.mro;have hmade:=hC9.made;have hsub:=hC9.sub;refine wpAny_call (codeAny_of_tree ?_);show wpAny _ _ (callAny (.type "set") _) _ _ _;refine hDq ⟨Code.quiet_builtin _ (by decide +kernel),hE1 PySem.F.entry_type_call ?_⟩;rw[Around.under_plain (weight_type_call_type "set" [.ref l] []) rfl];have h1:=hC9.notType;have h2:=hC9.canCreate;have hct:=PySem.F.typeCall_set_1 (.ref l)
 repeat (any_goals (first|assumption|wp_step))
 refine hEl (qSq (.ref l) (E:=E) (Q1:=λobj s1=>obj = .ref s.heap.objs.size/\s1={ s with heap:=s.heap.push (qOl w) }) ⟨rfl,rfl⟩) λr s1 hr=>?_
 cases r with
 |error e=>exact hr
 |ok fl =>
  cases fl with
  |ret obj =>
   obtain⟨rfl,rfl⟩:=hr;have hS:(s.heap.push (qOl w)).get? s.heap.objs.size=some (qOl w):=Heap.get?_push_size _ rfl;have hT:Shared.TypeIs { s with heap:=s.heap.push (qOl w) } (.ref s.heap.objs.size) "set":=⟨_,hS,rfl⟩;have hli:=hC9.init.lookup;have hbi:=hC9.init.bind (.ref s.heap.objs.size)
   repeat (any_goals (first|assumption|wp_step))
   refine hEl (codeAny_call_builtin (R:=wants (λr s2=>r = .none/\∃h' tk ss,s2={ s with heap:=h',toks:=tk }/\qBp P w h' s.heap.objs.size ss/\qS2 (λi=>ss0.getD i default) items.size ss /\
     (∀b o,b<s.heap.objs.size->s.heap.get? b=some o->h'.get? b=some o)) E) hC9.init.plain PySem.F.entry_set_init (check_set_init_1 hT ?_)) λr2 s2 hr2=>?_
   ·obtain⟨ol,hol,hcl,nl,hdl⟩:=hl;obtain⟨ocls,odict,odata,oslots⟩:=ol;simp only at hcl hdl;subst hcl;subst hdl;have hol':(s.heap.push (qOl w)).get? l=some { cls:=.type "list",dict:=odict,data:=.seq items nl,slots:=oslots }:=Heap.get?_push_of_some _ hol;have hsls:=PySem.F.sub_list_set;have hslf:=PySem.F.sub_list_frozenset;have hne:(Value.type "list" == Value.type "dict")=false:=by decide
    have hl1:(s.heap.push (qOl w)).IsList l items:=⟨_,hol',rfl,nl,rfl⟩;unfold Builtin.«set.__init__» noKeywords Builtin.Frozenset.updateFrom;generalize hPI:pyIter=PI
    wp_walk
    subst hPI;refine hEa hl1 (hDo (hEz ?_));have lS:l<s.heap.objs.size:=Heap.lt_size hol;have h3:A.in1.in1.in1.handled=none:=by simp[hh]
    have nI:l≠(s.heap.push (qOl w)).objs.size:=by
     rw[Heap.size_push];exact hAi (hB2 lS)
    have nF:s.heap.objs.size∉[(s.heap.push (qOl w)).objs.size,l]:=by
     rw[Heap.size_push];simp only[hA8,hAa,hAo,hE0,not_or];exact⟨hAi (hAt _),hCw lS⟩
    have hval:∀(i:Nat) (v:Value),items[i]?=some v->∃t,v = .str ((λi=>ss0.getD i default) i) t:=λi v hv=>by
     have hv':items.toList[i]?=some v:=by rw[hBj];exact hv
     obtain⟨x,t,rfl⟩:=hi.all v (hAs hv');refine⟨t,?_⟩;have e:=congrArg (λz=>z[i]?) hi.strs;simp only[hAj,hv']at e;show Value.str x t=Value.str (ss0.getD i default) t;rw[hA5,<-e];rfl
    refine qPx ((Walks.list h3 _ l nI items).toS) s.heap.objs.size nF (λi=>ss0.getD i default) hval hb (items.size-0) 0 _ [] (by omega) (hAq _) ⟨⟨_,Heap.get?_push_size _ rfl,rfl,rfl⟩,(hl1.push _)⟩ (qQl P w (Heap.get?_push_of_some _ hS)) (qS2.zero _) λs' ss' hm hS' hO=>?_
    obtain⟨h',g',d',tk',os'⟩:=s';cases(show g'=s.gens from hm.gens);cases(show d'=s.drawn from hm.drawn);cases(show os'=s.os from hm.os);show wpAny _ _ _ _ _ _;refine hDq ?_;show wpAny _ _ (ret Value.none) _ _ _;refine hDq ⟨rfl,h',tk',ss',rfl,hS',hO,λb o hb e=>?_⟩;have b1:b≠s.heap.objs.size:=hAi hb;have b2:b≠(s.heap.push (qOl w)).objs.size:=by
     rw[Heap.size_push];exact hAi (hB2 hb)
    exact hm.heap b o (by simp only[hA8,hAa,hAo,hE0,not_or];exact⟨b1,b2⟩) (Heap.get?_push_of_some _ (Heap.get?_push_of_some _ e))
   ·cases r2 with
    |error e=>exact hr2
    |ok fl2 =>
     cases fl2 with
     |ret r =>
      obtain⟨rfl,h',tk,ss,rfl,hS',hO,hk'⟩:=hr2
      repeat (any_goals (first|assumption|wp_step))
      exact h _ _ _ hS' hO hk'
     |_=>exact hr2.elim
  |_=>exact hr.elim
end
namespace FS
theorem entry_set_iter':entryFor table "set.__iter__"=some Builtin.«frozenset.__iter__»:=entryFor_alias (id':="frozenset.__iter__") (by kernel_rfl) rfl (by decide +kernel) (by kernel_rfl)
theorem slot_sin:Slot "set_iterator" "__next__" "set_iterator.__next__":=.of (owner:="set_iterator") (n:="__next__") (by rw[typeLookup_type,builtinLookup_eq_fast];kernel_rfl) (by decide +kernel) (by decide +kernel) (by decide +kernel) (by first|exact .inl (by decide +kernel)|exact .inr (by decide +kernel)) (by rw[isSubtype_type];kernel_rfl)
theorem entry_sin:entryFor table "set_iterator.__next__"=some Builtin.«set_iterator.__next__»:=entryFor_of_tree (by kernel_rfl)
theorem qNh:Manifest.owners.lookup (String.ofList ['r','o','t','a','r','e','t','i','_','t','e','s'].reverse)=some Manifest.sig_set_iterator:=by kernel_rfl
theorem args_sin(a:Value):argsOk "set_iterator.__next__" ⟨[a],[]⟩:=by
 unfold argsOk;rw[signature?_of (id:="set_iterator.__next__") (n:=['_','_','t','x','e','n','_','_']) (o:=['r','o','t','a','r','e','t','i','_','t','e','s']) (by kernel_rfl) qNh];kernel_rfl
theorem slot_sii:Slot "set_iterator" "__iter__" "set_iterator.__iter__":=.of (owner:="set_iterator") (n:="__iter__") (by rw[typeLookup_type,builtinLookup_eq_fast];kernel_rfl) (by decide +kernel) (by decide +kernel) (by decide +kernel) (by first|exact .inl (by decide +kernel)|exact .inr (by decide +kernel)) (by rw[isSubtype_type];kernel_rfl)
theorem entry_sii:entryFor table "set_iterator.__iter__"=some Builtin.«dict_keyiterator.__iter__»:=entryFor_alias (id':="dict_keyiterator.__iter__") (by kernel_rfl) (by first|rfl|decide +kernel|(unfold String.splitOn;simp +decide [String.splitOnAux])) (by decide +kernel) (by kernel_rfl)
theorem args_sii(a:Value):argsOk "set_iterator.__iter__" ⟨[a],[]⟩:=by
 unfold argsOk;rw[signature?_of (id:="set_iterator.__iter__") (n:=['_','_','r','e','t','i','_','_']) (o:=['r','o','t','a','r','e','t','i','_','t','e','s']) (by kernel_rfl) qNh];kernel_rfl
end FS
theorem qFf:∀(l:List α) (i:Nat) (x:α),l[i]?=some x->(x :: l.eraseIdx i).Perm l
 |[],i,x,h=>by simp at h
 |y :: l,0,x,h=>by simp at h;subst h;exact hDf _
 |y :: l,i+1,x,h=>by
  have q:=qFf l i x (by simpa using h);rw[List.eraseIdx_cons_succ];exact(List.Perm.swap y x _).trans (q.cons y)
section
variable{M:Model}{A:Around}{E:Value->Shared->Prop}{s:Shared}
theorem qPn(hn:n≠0)(h:∀i d,i<n->Q i { s with drawn:=d }):wpAny M A (choose src n) Q E s:=fun Γ p _=>⟨hn,h _ _ (Nat.mod_lt _ (Nat.pos_of_ne_zero hn))⟩
theorem qFi:∀(n:Nat) (xs:List α) (s:Shared) (Q:List α->Shared->Prop),xs.length=n->(∀ys d,ys.Perm xs->Q ys { s with drawn:=d })->wpAny M A (drawOrder n xs) Q E s
 |0,xs,s,Q,hl,h=>by
  have e:xs=[]:=List.length_eq_zero_iff.mp hl;subst e;exact hDq (h [] s.drawn (hDf _))
 |n+1,[],s,Q,hl,h=>by simp at hl
 |n+1,y :: ys,s,Q,hl,h=>by
  show wpAny M A (choose .order (y :: ys).length >>= _) Q E s;refine hDo (qPn (by simp) λi d hi=>?_);have e:(y :: ys)[i]?=some (y :: ys)[i]:=hA2 hi;rw[e];dsimp only;have p:=qFf (y :: ys) i _ e;refine hDo (qFi n ((y :: ys).eraseIdx i) _ _ ?_ λzs d2 pz=>hDq (h _ d2 ((pz.cons _).trans p)));have:=p.length_eq;simp only[hB8]at this hl ⊢;omega
end
theorem qRb(next:Nat->Nat):∀(n k:Nat) (left:List α) (out:Array α),left.length=n->(pickOrder.go next n k left out).toList.Perm (out.toList++left)
 |0,k,left,out,hl=>by
  have e:left=[]:=List.length_eq_zero_iff.mp hl;subst e;rw[pickOrder.go,hCo]
 |n+1,k,left,out,hl=>by
  rw[pickOrder.go];have hi:next k % left.length<left.length:=Nat.mod_lt _ (by omega);have e:left[next k % left.length]?=some left[next k % left.length]:=hA2 hi;rw[e];dsimp only;have p:=qFf left _ _ e;have l:=p.length_eq;simp only[hB8]at l;refine(qRb next n (k+1) _ _ (by omega)).trans ?_;rw[Array.toList_push,List.append_assoc];exact List.Perm.append_left _ p
theorem pick_perm(next:Nat->Nat)(xs:Array α):(pickOrder next xs).toList.Perm xs.toList:=by
 have q:=qRb next xs.size 0 xs.toList #[] (by simp)
 simpa [pickOrder] using q
section
variable{P:Program}{w:World}{A:Around}{E:Value->Shared->Prop}{s:Shared}{a:Addr}{es:Array (Int×Value)}{ep:Nat}{t:SetTable}
theorem qK5(ho:s.heap.get? a=some { cls:=.type "set",dict:=none,data:=.set es ep t,slots:=#[] })(hf:t.fits es.size=true)(h:Q (!w.params.followText "set-order" && (!t.plain && decide (es.size > 1))) s):wpAny (model P w) A (setDrawn a) Q E s:=by
 unfold setDrawn;refine hDo (hEb ho rfl hf ?_);unfold setsByText;exact hDo (hDo (hE7 (hDq (hDq h))))
theorem qK3(ho:s.heap.get? a=some { cls:=.type "set",dict:=none,data:=.set es ep t,slots:=#[] })(hf:t.fits es.size=true)(hb:w.params.followText "set-order"=true)
  (h:Q (((pickOrder (w.params.setOrder a ep) es)[i]?).map λe=>(e.2,slot)) s):wpAny (model P w) A (setNext a slot i ep) Q E s:=by
 unfold setNext;refine hDo (hEb ho rfl hf ?_);unfold setsByText;refine hDo (hDo (hE7 (hDq ?_)));show wpAny _ _ (if (w.params.followText "set-order")=true then _ else _) _ _ _;rw[hDu hb];rw[hDt (by simp)];unfold setWalk;refine hDo (hDo (hEb ho rfl hf ?_));unfold setsByText;refine hDo (hDo (hE7 (hDq ?_)));show wpAny _ _ (if (w.params.followText "set-order")=true then _ else _) _ _ _;rw[hDu hb];exact hDo (hE7 (hDq (hDq h)))
theorem qK4(ho:s.heap.get? a=some { cls:=.type "set",dict:=none,data:=.set es ep t,slots:=#[] })(hf:t.fits es.size=true)(hb:w.params.followText "set-order"=false)(h1:es.size<=1)(hl:t.led=true)
  (h:Q (match es[SetTable.below t.place slot]?,t.place[SetTable.below t.place slot]? with|some (_,x),some j=>some (x,j+1)|_,_=>none) s):wpAny (model P w) A (setNext a slot i ep) Q E s:=by
 unfold setNext;refine hDo (hEb ho rfl hf ?_);unfold setsByText;refine hDo (hDo (hE7 (hDq ?_)));show wpAny _ _ (if (w.params.followText "set-order")=true then _ else _) _ _ _;rw[hDt (by rw[hb];exact hAm)];show wpAny _ _ (if (!t.plain && decide (es.size > 1))=true then _ else _) _ _ _;rw[hDt (by rw[hB9];rintro⟨_,z⟩;have:=hDs z;omega)];refine hDo ?_;show wpAny _ _ (if (!t.led && !es.isEmpty)=true then _ else _) _ _ _;rw[hDt (by rw[hl];simp)];exact hDq (hDq h)
end
end L2
namespace L2
open PySem PySem.Spec PyProof.Rows
abbrev sIt(a:Addr)(f0:Value)(i n ep:Nat):Obj:={ cls:=.type "set_iterator",dict:=none,data:=.fields #[f0,rawInt i,.ref a,rawInt n,rawInt ep],slots:=#[] }
abbrev sOb(es:Array (Int×Value))(ep:Nat)(t:SetTable):Obj:={ cls:=.type "set",dict:=none,data:=.set es ep t,slots:=#[] }
section
variable{P:Program}{w:World}{A:Around}{E:Value->Shared->Prop}{s:Shared}{a I:Addr}{es:Array (Int×Value)}{ep:Nat}{t:SetTable}
theorem qM0{T:Obj}{Q:Fin->Shared->Prop}{f0:Value}{i n:Nat}{pre:Sem Unit}(hh:A.handled=none)(hI:s.heap.get? I=some (sIt a f0 i n ep))
  (hp:∀ {Q':Unit->Shared->Prop},(∀h1,Heap.SameBut I s.heap h1->(∃g0,h1.get? I=some (sIt a g0 i n ep))->Q' () { s with heap:=h1 })->wpAny (model P w) A pre Q' E s)
  (hE:∀h' e,Heap.ExtBut I s.heap h'->(∃o,h'.get? e=some o/\o.cls = .type "StopIteration")->E (.ref e) { s with heap:=h' }) :
  wpAny (model P w) A (do pre;setField (.ref I) 2 .none;raiseNew (← newExc (.type "StopIteration") [])) Q E s:=by
 refine hDo (hp λh1 b1 hg=>?_);obtain⟨g0,hI1⟩:=hg;refine hDo (hE5 hI1 (by simp) λh2 hI2 b2=>?_);show wpAny _ _ (newExc (.type "StopIteration") [] >>= λe=>raiseNew e) _ _ _;refine hDo ?_;simp only[newExc,newTuple];refine hDo (hDw ?_ (by size_fits));refine hDo (m:=firstArgMember _ _) (wpAny_of_eq (a:=Value.none) (by first|rfl|(simp only[firstArgMember];rfl)) ?_);refine hDw ?_ (by size_fits);simp only[raiseNew];refine hDo (wpAny_handled ?_);rw[hh];exact hDo (hDq (wpAny_throw (hE _ _ (((b1.trans b2).extBut.push _).push _) ⟨_,Heap.get?_push_size _ rfl,rfl⟩)))
end
section
variable{P:Program}{w:World}{a I:Addr}{es:Array (Int×Value)}{ep:Nat}{t:SetTable}
theorem qJj(hne:a≠I)(hf:t.fits es.size=true)(order:List Value)(sl:Nat->Nat)
  (nx:∀(A:Around) (E:Value->Shared->Prop) (s:Shared) (Q:Option (Value×Nat)->Shared->Prop) (i:Nat),i<=order.length->s.heap.get? a=some (sOb es ep t)->Q ((order[i]?).map λx=>(x,sl (i+1))) s->wpAny (model P w) A (setNext a (sl i) i ep) Q E s) :
  ∀A:Around,A.handled=none->Walks P w A I [I,a] [I] order.length (λi v=>order[i]?=some v) (λi h=>h.get? I=some (sIt a (rawInt (sl i)) i es.size ep)/\h.get? a=some (sOb es ep t)):=λA hh=>{
 sub:=λb hb=>by simp at hb ⊢;exact .inl hb
 frame:=λi h h' st k=>⟨k I (by simp) _ st.1,k a (by simp) _ st.2⟩
 item:=λi s Q E hi st hQ=>by
  obtain⟨hI,ho⟩:=st;have hT:s.TypeIs (.ref I) "set_iterator":=⟨_,hI,rfl⟩;unfold pyNext;refine hDo (hEd (wpAny_callSpecial?_slot (name:=Str.ofString "__next__") hT FS.slot_sin (hDx FS.slot_sin hT FS.entry_sin ?_ (FS.args_sin _))));unfold Builtin.«set_iterator.__next__»;refine hDo (hDq (hDo (hF0 hI rfl ?_)));show wpAny _ _ (setEntries a >>= _) _ _ _;refine hDo (hEe ho rfl hf ?_);rw[hDt (by simp)];show wpAny _ _ (setNext a (sl i) i ep >>= _) _ _ _;refine hDo (nx _ _ s _ i (hAz hi) ho ?_);rw[hA2 hi];show wpAny _ _ (setField (.ref I) 0 (rawInt (sl (i+1))) >>= _) _ _ _;refine hDo (hE5 hI (by simp) λh1 hI1 b1=>hDo (hE5 hI1 (by simp) λh2 hI2 b2=>?_));refine hDq ⟨_,rfl,hDq (hQ _ h2 s.toks (hA2 hi) ⟨hI2,?_⟩ λb o hb e=>?_)⟩
  ·exact b2.extBut _ _ hne (b1.extBut _ _ hne ho)
  ·have nb:b≠I:=by simpa using hb
   exact b2.extBut _ _ nb (b1.extBut _ _ nb e)
 done:=λs Q E st hQ=>by
  obtain⟨hI,ho⟩:=st;have hT:s.TypeIs (.ref I) "set_iterator":=⟨_,hI,rfl⟩;unfold pyNext;refine hDo (hEd (wpAny_callSpecial?_slot (name:=Str.ofString "__next__") hT FS.slot_sin (hDx FS.slot_sin hT FS.entry_sin ?_ (FS.args_sin _))));unfold Builtin.«set_iterator.__next__»;refine hDo (hDq (hDo (hF0 hI rfl ?_)));show wpAny _ _ (setEntries a >>= _) _ _ _;refine hDo (hEe ho rfl hf ?_);rw[hDt (by simp)];show wpAny _ _ (setNext a (sl order.length) order.length ep >>= _) _ _ _;refine hDo (nx _ _ s _ order.length (hA3 _) ho ?_);rw[hBk (hA3 _)];refine qM0 (pre:=pure ()) (T:=sOb es ep t) (by exact hh) hI (λq=>hDq (q _ (Heap.SameBut.refl ..) ⟨_,hI⟩)) λh' e k he=>?_
  obtain⟨oe,h1,h2⟩:=he;refine hDo (hEj (T:="StopIteration") (b:=true) ⟨oe,h1,h2⟩ hF1 (hDq (hQ _ s.toks λb o hb e=>k _ _ (by simpa using hb) e)))
 self:=λi s Q E st hQ=>by
  have hT:s.TypeIs (.ref I) "set_iterator":=⟨_,st.1,rfl⟩;refine wpAny_pyIter_slot hT FS.slot_sii (hDx FS.slot_sii hT FS.entry_sii ?_ (FS.args_sii _));exact hDq ⟨_,rfl,"set_iterator",_,hT,FS.slot_sin.lookup,hQ⟩ }
end
abbrev tOb(xs:Array Value):Obj:={ cls:=.type "tuple",data:=.seq xs }
section
variable{P:Program}{w:World}{a I T:Addr}{es:Array (Int×Value)}{ep:Nat}{t:SetTable}
theorem qPq(hne:a≠I)(hT0:T≠I)(hf:t.fits es.size=true)(ps:List Nat)(order:List Value)(hl:order.length=ps.length)(hp:∀(i p:Nat),ps[i]?=some p->∃k x,es[p]?=some (k,x)/\order[i]?=some x) :
  ∀A:Around,A.handled=none->Walks P w A I [I,a,T] [I] order.length (λi v=>order[i]?=some v) (λi h=>h.get? I=some (sIt a (.ref T) i es.size ep)/\h.get? a=some (sOb es ep t)/\h.get? T=some (tOb (ps.map λ(p:Nat)=>rawInt p).toArray)):=λA hh=>{
 sub:=λb hb=>by simp at hb ⊢;exact .inl hb
 frame:=λi h h' st k=>⟨k I (by simp) _ st.1,k a (by simp) _ st.2.1,k T (by simp) _ st.2.2⟩
 item:=λi s Q E hi st hQ=>by
  obtain⟨hI,ho,hTt⟩:=st;have hT:s.TypeIs (.ref I) "set_iterator":=⟨_,hI,rfl⟩;unfold pyNext;refine hDo (hEd (wpAny_callSpecial?_slot (name:=Str.ofString "__next__") hT FS.slot_sin (hDx FS.slot_sin hT FS.entry_sin ?_ (FS.args_sin _))));unfold Builtin.«set_iterator.__next__»;refine hDo (hDq (hDo (hF0 hI rfl ?_)));show wpAny _ _ (setEntries a >>= _) _ _ _;refine hDo (hEe ho rfl hf ?_);rw[hDt (by simp)];show wpAny _ _ (seqItems? (.ref T) >>= _) _ _ _;refine hDo (hEs hTt rfl ?_);have hip:i<ps.length:=by rw[<-hl];exact hi
  obtain⟨k,x,h1,h2⟩:=hp i _ (hA2 hip);have e1:((ps.map λ(p:Nat)=>rawInt p).toArray)[i]?=some (rawInt ((ps[i]:Nat):Int)):=by simp[hip]
  show wpAny _ _ (match ((ps.map λ(p:Nat)=>rawInt p).toArray)[((i:Int)).toNat]? with|some (.int place _)=>_|some _=>_|none=>_) _ _ _;rw[hBr,e1];show wpAny _ _ (setNextDrawn a ps[i] ep >>= _) _ _ _;unfold setNextDrawn;refine hDo (hDo (hEb ho rfl hf ?_));dsimp only;rw[hDt (by simp),h1];refine hDq (hDo (hE5 hI (by simp) λh3 hI3 b3=>?_));refine hDq ⟨_,rfl,hDq (hQ _ h3 s.toks h2 ⟨hI3,b3.extBut _ _ hne ho,b3.extBut _ _ hT0 hTt⟩ λb o hb e=>b3.extBut _ _ (by simpa using hb) e)⟩
 done:=λs Q E st hQ=>by
  obtain⟨hI,ho,hTt⟩:=st;have hT:s.TypeIs (.ref I) "set_iterator":=⟨_,hI,rfl⟩;unfold pyNext;refine hDo (hEd (wpAny_callSpecial?_slot (name:=Str.ofString "__next__") hT FS.slot_sin (hDx FS.slot_sin hT FS.entry_sin ?_ (FS.args_sin _))));unfold Builtin.«set_iterator.__next__»;refine hDo (hDq (hDo (hF0 hI rfl ?_)));show wpAny _ _ (setEntries a >>= _) _ _ _;refine hDo (hEe ho rfl hf ?_);rw[hDt (by simp)];show wpAny _ _ (seqItems? (.ref T) >>= _) _ _ _;refine hDo (hEs hTt rfl ?_);have e1:((ps.map λ(p:Nat)=>rawInt p).toArray)[order.length]?=none:=by simp[hl]
  show wpAny _ _ (match ((ps.map λ(p:Nat)=>rawInt p).toArray)[((order.length:Int)).toNat]? with|some (.int place _)=>_|some _=>_|none=>_) _ _ _;rw[hBr,e1];refine qM0 (pre:=setField (.ref I) 0 (rawInt 0)) (T:=sOb es ep t) (by exact hh) hI (λq=>hE5 hI (by simp) λh1 hI1 b1=>q _ b1 ⟨_,hI1⟩) λh' e k he=>?_
  obtain⟨oe,h1,h2⟩:=he;refine hDo (hEj (T:="StopIteration") (b:=true) ⟨oe,h1,h2⟩ hF1 (hDq (hQ _ s.toks λb o hb e=>k _ _ (by simpa using hb) e)))
 self:=λi s Q E st hQ=>by
  have hT:s.TypeIs (.ref I) "set_iterator":=⟨_,st.1,rfl⟩;refine wpAny_pyIter_slot hT FS.slot_sii (hDx FS.slot_sii hT FS.entry_sii ?_ (FS.args_sii _));exact hDq ⟨_,rfl,"set_iterator",_,hT,FS.slot_sin.lookup,hQ⟩ }
end
theorem qUv(h:j<=p):SetTable.below #[p] j=0:=by
 unfold SetTable.below;show SetTable.below.go #[p] j 1 0 1=0;unfold SetTable.below.go;have e:¬(#[p]:Array Nat).getD ((0+1) / 2) j<j:=by show ¬p<j;omega
 rw[hDu (by decide)];dsimp only;rw[hDt e];rfl
theorem qUw(h:p<j):SetTable.below #[p] j=1:=by
 unfold SetTable.below;show SetTable.below.go #[p] j 1 0 1=1;unfold SetTable.below.go;have e:(#[p]:Array Nat).getD ((0+1) / 2) j<j:=by show p<j;omega
 rw[hDu (by decide)];dsimp only;rw[hDu e];rfl
theorem qSy(j:Nat):SetTable.below #[] j=0:=rfl
section
variable{P:Program}{w:World}{A:Around}{E:Value->Shared->Prop}{s:Shared}{a:Addr}{ss:List Str}
theorem qR0(hS:qBp P w s.heap a ss)
  (h:∀(I:Addr) (fp:List Addr) (vs:List Value) (ss1:List Str) (St:Nat->Heap->Prop) (h1:Heap) (d:Drawn),StrsAre vs ss1->ss1.Perm ss->(∀b o,s.heap.get? b=some o->h1.get? b=some o)->(∀A:Around,A.handled=none->Walks P w A I fp [I] vs.length (λi v=>vs[i]?=some v) St) ->
   St 0 h1->I∈fp->(∀b∈fp,b<h1.objs.size/\(b=a\/s.heap.objs.size<=b))->s.heap.objs.size<=I->s.heap.objs.size<=h1.objs.size->Q (.ref I) { s with heap:=h1,drawn:=d }):wpAny (model P w) A (pyIter (.ref a)) Q E s:=by
 obtain⟨es,ep,t,ho,e1,e2,e3,e4,e5,e6⟩:=hS;have hT:s.TypeIs (.ref a) "set":=⟨_,ho,rfl⟩;have ha:a<s.heap.objs.size:=Heap.lt_size ho;have hp4:t.place.size=es.size:=by
  unfold SetTable.fits at e4;rw[hB9]at e4;exact eq_of_beq e4.1
 refine wpAny_pyIter_slot hT PySem.F.slot_set_iter (hDx PySem.F.slot_set_iter hT FS.entry_set_iter' ?_ (PySem.F.args_set_iter_1 _));unfold Builtin.«frozenset.__iter__» Builtin.Frozenset.slot0;refine hDo (hDo (hDq (hDq ?_)));unfold Builtin.Frozenset.sizeOf;refine hDo (hDo (hEe ho rfl e4 (hDq ?_)));refine hDo (qK5 ho e4 ?_);dsimp only;cases hb:w.params.followText "set-order" with
 |true =>
  rw[hDt (by simp)];refine hDo (hDq (hDo (wpAny_setEpoch_of ho rfl e4 ?_)));show wpAny _ _ (newFields "set_iterator" _ >>= _) _ _ _;refine hDo (hDw (hDq ⟨_,rfl,"set_iterator",_,⟨_,Heap.get?_push_size _ rfl,rfl⟩,FS.slot_sin.lookup,?_⟩) (by show 5<=_;decide));have p:=pick_perm (w.params.setOrder a ep) es;obtain⟨ss1,q1,q2⟩:=qE6 e2 p;refine h s.heap.objs.size [s.heap.objs.size,a] _ ss1 _ _ s.drawn q1 q2 (λb o e=>Heap.get?_push_of_some _ e) (qJj (ep:=ep) (es:=es) (t:=t) (hAi ha) e4 _ (λ_=>0) ?_) ⟨Heap.get?_push_size _ rfl,Heap.get?_push_of_some _ ho⟩ (by simp) ?_ (hA3 _) (by rw[Heap.size_push];exact hAy _)
  ·intro A' E' s' Q' i hi ho' hq;refine qK3 ho' e4 hb ?_;rw[hAj,hBj,Option.map_map]at hq;exact hq
  ·intro b hbm;rw[Heap.size_push];simp at hbm;rcases hbm with rfl|rfl
   ·exact⟨hAt _,.inr (hA3 _)⟩
   ·exact⟨hB2 ha,.inl rfl⟩
 |false =>
  have led:t.led=true:=by rw[e5,hb];rfl
  by_cases hz:es.size > 1
  ·have pl:t.plain=false:=e6 (by omega);rw[hDu (by rw[pl,hDp hz];rfl)];refine hDo (qFi es.size (List.range es.size) s _ (by simp) λps d pp=>?_);refine hDo (wpAny_newTuple (s:={ s with drawn:=d }) ?_ (by rw[hA1,pp.length_eq,hBi];exact hEq e3));have ho1:(s.heap.push (tOb (ps.map λ(p:Nat)=>rawInt p).toArray)).get? a=some (sOb es ep t):=Heap.get?_push_of_some _ ho;refine hDo (wpAny_setEpoch_of (s:={ s with heap:=s.heap.push (tOb (ps.map λ(p:Nat)=>rawInt p).toArray),drawn:=d }) ho1 rfl e4 ?_);show wpAny _ _ (newFields "set_iterator" _ >>= _) _ _ _;refine hDo (hDw (hDq ⟨_,rfl,"set_iterator",_,⟨_,Heap.get?_push_size _ rfl,rfl⟩,FS.slot_sin.lookup,?_⟩) (by show 5<=_;decide));have hlt:∀p∈ps,p<es.size:=λp hm=>hB4.mp (pp.mem_iff.mp hm)
   have ep1:(ps.filterMap λp=>es[p]?).Perm es.toList:=by
    have q:=pp.filterMap λp=>es[p]?
    rw[filterMap_getElem?_range]at q;exact q
   have hfm:∀l:List Nat,(∀p∈l,p<es.size)->(l.filterMap λp=>es[p]?).length=l.length/\∀(i p:Nat),l[i]?=some p->∃k x,es[p]?=some (k,x)/\((l.filterMap λp=>es[p]?).map (·.2))[i]?=some x:=by
    intro l
    induction l with
    |nil=>intro _;exact⟨rfl,λi p z=>by simp at z⟩
    |cons c l ih =>
     intro hm;obtain⟨i1,i2⟩:=ih λp hp=>hm p (hA4 _ hp)
     have hcl:c<es.size:=hm c hA6;have hc:es[c]?=some es[c]:=hBp hcl;rw[hC4,hc];refine⟨by simp[i1],λi p z=>?_⟩;cases i with
     |zero =>
      have e:c=p:=by simpa using z
      subst e;exact⟨_,_,hc,by simp⟩
     |succ i =>
      obtain⟨k,x,a1,a2⟩:=i2 i p (by simpa using z);exact⟨k,x,a1,by simpa using a2⟩
   obtain⟨f1,f2⟩:=hfm ps hlt;obtain⟨ss1,q1,q2⟩:=qE6 e2 ep1;have sz1:(s.heap.push (tOb (ps.map λ(p:Nat)=>rawInt p).toArray)).objs.size=s.heap.objs.size+1:=Heap.size_push ..;refine h (s.heap.push (tOb (ps.map λ(p:Nat)=>rawInt p).toArray)).objs.size [(s.heap.push (tOb (ps.map λ(p:Nat)=>rawInt p).toArray)).objs.size,a,s.heap.objs.size] _ ss1 _ _ d q1 q2 (λb o e=>Heap.get?_push_of_some _ (Heap.get?_push_of_some _ e))
    (qPq (ep:=ep) (es:=es) (t:=t) (T:=s.heap.objs.size) ?_ ?_ e4 ps _ (by rw[hA1,f1]) f2) ⟨Heap.get?_push_size _ rfl,Heap.get?_push_of_some _ ho1,Heap.get?_push_of_some _ (Heap.get?_push_size _ rfl)⟩ (by simp) ?_ ?_ ?_
   ·rw[sz1];exact hAi (hB2 ha)
   ·rw[sz1];exact hAi (hAt _)
   ·intro b hbm;rw[Heap.size_push,sz1];rw[sz1]at hbm;simp at hbm;rcases hbm with rfl|rfl|rfl
    ·exact⟨hAt _,.inr (hAy _)⟩
    ·exact⟨hB2 (hB2 ha),.inl rfl⟩
    ·exact⟨hB2 (hAt _),.inr (hA3 _)⟩
   ·rw[sz1];exact hAy _
   ·rw[Heap.size_push,sz1];exact Nat.le_succ_of_le (hAy _)
  ·rw[hDt (by rw[hDr hz];simp)];refine hDo (hDq (hDo (wpAny_setEpoch_of ho rfl e4 ?_)));show wpAny _ _ (newFields "set_iterator" _ >>= _) _ _ _;refine hDo (hDw (hDq ⟨_,rfl,"set_iterator",_,⟨_,Heap.get?_push_size _ rfl,rfl⟩,FS.slot_sin.lookup,?_⟩) (by show 5<=_;decide));refine h s.heap.objs.size [s.heap.objs.size,a] _ ss _ _ s.drawn e2 (hDf _) (λb o e=>Heap.get?_push_of_some _ e) (qJj (ep:=ep) (es:=es) (t:=t) (hAi ha) e4 _ (λi=>if i=0 then 0 else t.place.getD 0 0+1) ?_) ⟨Heap.get?_push_size _ rfl,Heap.get?_push_of_some _ ho⟩ (by simp) ?_ (hA3 _) (by rw[Heap.size_push];exact hAy _)
   ·intro A' E' s' Q' i hi ho' hq;refine qK4 ho' e4 hb (by omega) led ?_;rw[hA1,hBo]at hi;rcases hCx es.size 1 with z0|z1
    ·have e0:es=#[]:=Array.eq_empty_of_size_eq_zero (by omega);have p0:t.place=#[]:=Array.eq_empty_of_size_eq_zero (by omega);subst e0;rw[p0]at hq ⊢;rw[qSy]
     simpa using hq
    ·have z:es.size=1:=by omega
     obtain⟨x,e0⟩:∃x,es=#[x]:=by
      have:=Array.size_eq_one_iff.mp z;exact this
     obtain⟨p,p0⟩:∃p,t.place=#[p]:=Array.size_eq_one_iff.mp (by omega);subst e0;rw[p0]at hq ⊢;obtain⟨k,x⟩:=x;by_cases i0:i=0
     ·subst i0;rw[hDu rfl,qUv (hAq _)]
      simpa using hq
     ·have i1:i=1:=by simp at hi;omega
      subst i1;rw[hDt (by decide)];show Q' (match (#[(k,x)]:Array (Int×Value))[SetTable.below #[p] (p+1)]?,(#[p]:Array Nat)[SetTable.below #[p] (p+1)]? with|some (_,x),some j=>some (x,j+1)|_,_=>none) s';rw[qUw (hAt _)]
      simpa using hq
   ·intro b hbm;rw[Heap.size_push];simp at hbm;rcases hbm with rfl|rfl
    ·exact⟨hAt _,.inr (hA3 _)⟩
    ·exact⟨hB2 ha,.inl rfl⟩
end
section
variable{X:Cx}{aB:List (Addr×Obj)}{σ:St}{H:Hp}{s:Shared}{h':Heap}
theorem Inv.turnedT{t':Nat}{d':Drawn}{ch:List Addr}{a:Addr}{o:HO}(I:Inv X aB σ H s)(k:∀b u,b∉ch->s.heap.get? b=some u->h'.get? b=some u)(f:∀b∈ch,qJg X aB H b)(hp:s.heap.objs.size<=a)(new:qB3 X.prog X.w (upd H a o) h' a o) :
  Inv X aB σ (upd H a o) { s with heap:=h',toks:=t',drawn:=d' }:=by
 have nit:∀b u,H b=some u->b∉ch:=λb u e z=>by rw[(f b z).1]at e;cases e
 have hn:H a=none:=I.hok.fresh hp;refine I.step (g':=s.gens) (d':=d') (ch:=ch) (λb hb=>?_) (λb u _ _ hc e _=>k b u hc e) (λb u _ _ hc e _=>⟨u.slots,k b u hc e⟩) (λb u _ e n=>?_) (λb u hc e=>⟨u,k b u hc e⟩) (λb xs q=>by rw[qAj (qAq q hn)];exact q) (λb u v q=>by rw[qAj (qAq q hn)];exact q)
  (λb ps q=>⟨#[],by rw[qAj (qAq q hn),q];simp⟩) (λm hm=>?_) (λb u e=>?_) I.bare
 ·obtain⟨_,f1,_,f3,f4,f5⟩:=f b hb;exact⟨f3,f1,f4,f5⟩
 ·rw[qAj (hAi (hAl (Heap.lt_size e) hp))];exact n
 ·obtain⟨ob,es,ep,ho,r⟩:=hm;exact⟨ob,es,ep,k _ ob (λz=>(f _ z).2.1 rfl) ho,r⟩
 ·by_cases hb:b=a
  ·subst hb;rw[upd_same]at e;cases e;exact new
  ·rw[qAj hb]at e;refine(I.hok b u e).stay (λc v hc q=>k c v ?_ q) (λc q=>by rw[qAj (qAq q hn)];exact q) λc xs q=>by rw[qAj (qAq q hn)];exact q
   rcases hc with z|z
   ·rw[z];exact nit b u e
   ·exact nit c _ z
end
section
variable{P:Program}{w:World}{A:Around}{E:Value->Shared->Prop}{s:Shared}{a:Addr}{ss:List Str}
theorem qKn(hh:A.handled=none)(hS:qBp P w s.heap a ss)
  (h:∀(vs:List Value) (ss1:List Str) (h1:Heap) (tk:Nat) (d:Drawn),StrsAre vs ss1->ss1.Perm ss->(∀b o,s.heap.get? b=some o->h1.get? b=some o)->s.heap.objs.size<=h1.objs.size->Q vs { s with heap:=h1,toks:=tk,drawn:=d }):wpAny (model P w) A (collect (.ref a)) Q E s:=by
 unfold collect;refine hDo (hEz (hE1 PySem.F.entry_proto_collect ?_));rw[Around.under_plainId PySem.F.plain_proto_collect _];show wpAny _ A.in1 (newList [] >>= λl=>again (.builtin "list.__iadd__" ⟨[l,.ref a],[]⟩)) _ _ _;refine hDo (hDw ?_);refine hDq ⟨hEg hD0 _,hE1 PySem.F.entry_list_iadd ?_⟩;rw[Around.under_plainId hD0 _];have hS1:qBp P w (s.heap.push (seqObj "list" #[] 0)) a ss:=hS.at λo e=>Heap.get?_push_of_some _ e
 have hL1:(s.heap.push (seqObj "list" #[] 0)).get? s.heap.objs.size=some (seqObj "list" #[] 0):=Heap.get?_push_size _ rfl;have hT:∀s':Shared,qBp P w s'.heap a ss->s'.TypeIs (.ref a) "set":=λs' z=>by
  obtain⟨es,ep,t,ho,_⟩:=z;exact⟨_,ho,rfl⟩
 have ha:a<s.heap.objs.size:=by
  obtain⟨es,ep,t,ho,_⟩:=hS;exact Heap.lt_size ho
 have hz:ss.length<scanBound:=by
  obtain⟨es,ep,t,_,_,e2,e3,_⟩:=hS;rw[<-e2.strs,hA1,hA1,hBo];exact e3
 have hne:Builtin.List.listSameRef (.ref s.heap.objs.size) (.ref a)=false:=by
  show(s.heap.objs.size == a)=false;exact beq_eq_false_iff_ne.mpr (hCw ha)
 show wpAny _ A.in1 (Builtin.List.listExtendWith (.ref s.heap.objs.size) (.ref a) (.ref s.heap.objs.size)) _ _ { s with heap:=s.heap.push (seqObj "list" #[] 0) };unfold Builtin.List.listExtendWith;refine hDo (wpAny_typeOf (hT _ hS1) ?_);rw[hDt (by rw[hne];decide)];refine hDo (qR0 hS1 λI fp vs ss1 St h1 d q1 q2 q3 W st hI hfp hge hsz=>?_);have hS2:qBp P w h1 a ss:=hS1.at λo e=>q3 _ _ e
 have hL2:h1.get? s.heap.objs.size=some (seqObj "list" #[] 0):=q3 _ _ hL1;refine hDo (hDv ?_);unfold Builtin.List.listLengthHint;refine hDo (hEy (hT { s with heap:=h1,drawn:=d } hS2) PySem.F.slot_set_len.lookup ?_);dsimp only;rw[show splitId "set.__len__"=some ("set","__len__") from by decide +kernel];dsimp only;refine hDo (hEj (b:=true) (hT { s with heap:=h1,drawn:=d } hS2) sub_set_self ?_);rw[hDt (by decide),hDu (by decide +kernel)];refine hDo (wpAny_typeOf (hT { s with heap:=h1,drawn:=d } hS2) (hDq ?_));rw[hDu (by decide +kernel)];refine hDo (hEu ?_);unfold Builtin.List.listTouch;have hL3:=get?_update_seq hL2 (·.push .none);have hL4:=get?_update_seq hL3 (·.pop);refine hDo (hDo (hEo (s:={ s with heap:=h1,drawn:=d }) hL2 rfl (hEo (s:={ s with heap:=h1.update s.heap.objs.size (Obj.mapSeq (·.push .none)),drawn:=d }) hL3 rfl ?_)));have nS:s.heap.objs.size∉fp:=λz=>by
  rcases(hfp _ z).2 with e|e
  ·exact absurd e (hCw ha)
  ·rw[hEv]at e;exact absurd e (Nat.not_succ_le_self _)
 have upd2:∀b o,b≠s.heap.objs.size->h1.get? b=some o->((h1.update s.heap.objs.size (Obj.mapSeq (·.push .none))).update s.heap.objs.size (Obj.mapSeq (·.pop))).get? b=some o:=λb o hb e=>by
  rw[Heap.get?_update_ne _ _ _ _ hb,Heap.get?_update_ne _ _ _ _ hb];exact e
 have hv:vs.length<=sizeLine:=by
  have e1:=q2.length_eq;have e2:vs.length=ss1.length:=by rw[<-q1.strs,hA1]
  rw[e2,e1];exact hEq hz
 have st3:=(W A.in1.in1.in1 (by exact hh)).frame 0 _ ((h1.update s.heap.objs.size (Obj.mapSeq (·.push .none))).update s.heap.objs.size (Obj.mapSeq (·.pop))) st λb hb o e=>upd2 b o (λz=>nS (z▸hb)) e
 refine hDq ⟨hEg PySem.F.plain_extend_loop _,codeAny_extend_loopS ((W _ (by exact hh)).toS) hv _ nS _ vs.length 0 _ _ _ rfl (hAq _) st3 hL4 (ItemsOf.nil _) λs' acc' c' hm hS' hacc=>?_⟩;show wpAny _ A (load s.heap.objs.size >>= _) _ _ s';refine hDo (wpAny_load hS' ?_);have eacc:acc'.toList=vs:=by
  refine hDb λi=>?_
  by_cases hi:i<vs.length
  ·have hi':i<acc'.size:=by rw[hacc.1];exact hi
   rw[hBj,hBp hi'];exact(hacc.2 i _ (hBp hi')).symm
  ·rw[hBj,Array.getElem?_eq_none (by rw[hacc.1];omega),hBk (by omega)]
 show wpAny _ A (pure acc'.toList) _ _ s';rw[eacc];obtain⟨h5,g5,d5,tk5,os5⟩:=s';cases(show g5=s.gens from hm.gens);cases(show d5=d from hm.drawn);cases(show os5=s.os from hm.os);have keep:∀b o,h1.get? b=some o->b≠s.heap.objs.size->b≠I->h5.get? b=some o:=λb o e n1 n2=>hm.heap b o (by simp only[hA8,hAo,hE0,not_or];exact⟨n1,n2⟩) (upd2 b o n1 e)
 refine hDq (h vs ss1 h5 tk5 d q1 q2 (λb o e=>?_) ?_)
 ·have lt:=Heap.lt_size e;refine keep b o (q3 b o (Heap.get?_push_of_some _ e)) (hAi lt) (hAi (hAl lt ?_));rw[hEv]at hge;exact Nat.le_of_succ_le hge
 ·exact hAz (Heap.lt_size hS')
end
def zCv(P:Program)(w:World)(a:Addr)(ss:List Str):HO:=.ext λh=>qBp P w h a ss
section
variable{X:Cx}
theorem qKq(hc:X.calm=true):qB2 X (.type "set") (λxs H Q=>∃(p:Addr) (ss0:List Str),xs=[.ref p]/\SqL X.K H p (ss0.map V.str)/\ss0.length<1000/\∀(r:Addr) (ss:List Str),H r=none->ss.Nodup->ss.length<=ss0.length->(∀x,x∈ss↔x∈ss0)->Q (.ref r) (upd H r (zCv X.prog X.w r ss))):=by
 intro aB s σ H xs us Q I r h;obtain⟨p,ss0,rfl,hq,hl,q⟩:=h;obtain⟨u,rfl,rx⟩:=qCw r;cases rx;obtain⟨its,rv,pl,hz⟩:=I.list hq;have hlen:=rv.length;rw[hA1]at hlen;refine qSs (I.ok.hd hc) pl.isList (by simpa using qCo rv) (by have:scanBound=4096:=rfl;simp;omega) λh' tk ss hS hO hk=>?_
 obtain⟨o1,o2,o3⟩:=hO;rw[hAf,<-hlen]at o2 o3;refine⟨.ref s.heap.objs.size,_,I.laid (t':=tk) (a:=s.heap.objs.size) (o:=zCv X.prog X.w s.heap.objs.size ss) (λb o e=>hk b o (Heap.lt_size e) e) (hA3 _) ⟨hS,?_,λh1 h2 z k=>z.at k⟩,rfl,q _ ss (I.hok.fresh (hA3 _)) o1 o2 λx=>?_⟩
 ·obtain⟨es,ep,t,ho,_⟩:=hS;exact⟨_,ho⟩
 ·rw[o3 x,List.mem_iff_getElem?];constructor
  ·rintro⟨j,hj,rfl⟩;exact⟨j,by show ss0[j]?=some (ss0.getD j default);rw[hA5,hA2 hj];rfl⟩
  ·rintro⟨j,hj⟩;exact⟨j,(hAc.mp hj).1,by show ss0.getD j default=x;rw[hA5,hj];rfl⟩
theorem qC3(hc:X.calm=true):qB2 X (.builtin "sorted") (λxs H Q=>∃(p:Addr) (ss:List Str),xs=[.ref p]/\H p=some (zCv X.prog X.w p ss)/\ss.length<64/\∀(r:Addr) (ss':List Str),H r=none->ss'.Perm ss->sortedS ss'=true->Q (.ref r) (upd H r (.lst (ss'.map V.str)))):=by
 intro aB s σ H xs us Q I r h;obtain⟨p,ss,rfl,hp,h64,q⟩:=h;obtain⟨u,rfl,rx⟩:=qCw r;cases rx;have hS:qBp X.prog X.w s.heap p ss:=(I.hok p _ hp).1;refine Calls.call_function_entry kind_sorted plain_sorted entry_sorted (args_sorted1 _) ?_;unfold Builtin.«sorted»;refine hDo (m:=checkCount "sorted" 1 1 _) (hDq (hDo (qKn (I.ok.hd hc) hS λvs ss1 h1 tk d a1 a2 a3 a4=>?_)));have hvl:vs.length=ss1.length:=by rw[<-a1.strs,hA1]
 have hl64:vs.length<64:=by rw[hvl,a2.length_eq];exact h64
 refine hDo (hEh ?_ (by have:sizeLine > 64:=(by decide);omega));have hoL:(h1.push (seqObj "list" vs.toArray 0)).get? h1.objs.size=some (seqObj "list" vs.toArray 0):=Heap.get?_push_size _ rfl;refine hDo (hDv (hDx slot_list_sort ⟨_,hoL,rfl⟩ entry_list_sort (list_sort_treeK strKind_oneLt hoL a1.keysOf (λv1 v2 rest e=>keyKind_strs (by rw[<-e];exact a1)) hl64 λst' b1 b2=>⟨_,rfl,?_⟩) (hF2 _)));obtain⟨ss',c1,c2,c3⟩:=sorted_out_str a1 b1 b2;refine hDq ⟨_,rfl,?_⟩;have nz:H h1.objs.size=none:=I.hok.fresh a4;obtain⟨e,he⟩:=sortedHeap_at (out:=(arrOf st').map (·.2)) hoL;refine⟨.ref h1.objs.size,_,I.turnedT (t':=tk) (d':=d) (ch:=[]) (a:=h1.objs.size) (o:=.lst (ss'.map V.str)) (λb o _ eb=>?_) (λb z=>nomatch z) a4 ?_,rfl,q _ ss' nz (c2.trans a2) c3⟩
 ·have e1:=a3 b o eb;have lt:=Heap.lt_size e1;rw[sortedHeap_old (hAi lt) (by rw[hEv];exact hB2 lt)];exact Heap.get?_push_of_some _ e1
 ·refine⟨?_,((arrOf st').map (·.2)).toList,e,qFb c1,he⟩;rw[hA1,c2.length_eq,a2.length_eq];exact hAz (qAf (by omega))
end
section
variable{X:Cx}{aB:List (Addr×Obj)}{σ:St}{H:Hp}{s:Shared}{h':Heap}
theorem Inv.turnedL{t':Nat}{ch:List Addr}(I:Inv X aB σ H s)(k:∀b u,b∉ch->s.heap.get? b=some u->h'.get? b=some u)(f:∀b∈ch,qJg X aB H b):Inv X aB σ H { s with heap:=h',toks:=t' }:=by
 have nit:∀b u,H b=some u->b∉ch:=λb u e z=>by rw[(f b z).1]at e;cases e
 refine I.step (g':=s.gens) (d':=s.drawn) (ch:=ch) (λb hb=>?_) (λb u _ _ hc e _=>k b u hc e) (λb u _ _ hc e _=>⟨u.slots,k b u hc e⟩) (λb u _ e n=>n) (λb u hc e=>⟨u,k b u hc e⟩) (λb xs q=>q) (λb u v q=>q) (λb ps q=>⟨#[],by rw[q];simp⟩) (λm hm=>?_) (λb u e=>?_) I.bare
 ·obtain⟨_,f1,_,f3,f4,f5⟩:=f b hb;exact⟨f3,f1,f4,f5⟩
 ·obtain⟨ob,es,ep,ho,r⟩:=hm;exact⟨ob,es,ep,k _ ob (λz=>(f _ z).2.1 rfl) ho,r⟩
 ·refine(I.hok b u e).stay (λc v hc q=>k c v ?_ q) (λc q=>q) λc xs q=>q
  rcases hc with z|z
  ·rw[z];exact nit b u e
  ·exact nit c _ z
end
def Itp(n:Nat)(Ls:Hp->Prop)(xv:Nat->List V):It:=⟨λi H=>Ls H/\i<n,λi H x H'=>∃T,H T=none/\H'=upd H T (.tup (xv i))/\x = .ref T,λi H=>Ls H/\i=n⟩
theorem qE4{P:Program}{w:World}{K:PySem.W.Frag}{elts:List Expr}{ct:Nat}{pos:Pos}(it:Addr)(fp fpW wr:List Addr)(n:Nat)(Ls:Hp->Prop)(xv:Nat->List V)(tn:Nat->Heap->Prop)
  (hit:it∈fp) (hwr:∀b∈wr,b∈fp) (hobj:∀i h,tn i h->∀b∈fp,∃o,h.get? b=some o/\∀v,o.data≠.cell v) (hkeep:∀i h h',tn i h->(∀b∈fp,∀o,h.get? b=some o->h'.get? b=some o)->tn i h')
  (hx:∀i,(xv i).length<=sizeLine) {c:Cx->Prop}
  (W:∀(X:Cx),X.prog=P->X.w=w->X.K=K->c X->∀(aB:List (Addr×Obj)) (s:Shared) (σ:L2.St) (H:Hp),Inv X aB σ H s->Ls H->∃(Pt:Nat->Array Value->Prop) (St:Nat->Heap->Prop) (Mid:Nat->Addr->Heap->Prop),WalksT P w X.A it fpW wr n Pt St Mid/\(∀i,tn i s.heap->St i s.heap)/\(∀i h,St i h->tn i h) /\
   (∀i vals,Pt i vals->qBh (xv i) vals.toList))
  (hself:∀(A:Around) (i:Nat) (s:Shared) (Q:Value->Shared->Prop) (E:Value->Shared->Prop),tn i s.heap->Q (.ref it) s->wpAny (model P w) A (pyIter (.ref it)) Q E s):Turn P w K (.Tuple elts ct pos) (Itp n Ls xv) fp it tn c where
 mem:=hit
 obj:=hobj
 keep:=hkeep
 item:=by
  intro X hP hw hK hc i aB s σ H E I hf st hg;obtain⟨hL,hi⟩:=hg;obtain⟨Pt,St,Mid,Wt,w1,w2,w3⟩:=W X hP hw hK hc aB s σ H I hL;subst hP hw hK;refine Wt.item i s _ _ hi (w1 i st) λT vals h1 tk pv hT ht mid k1=>?_
  have hTw:T∉wr:=Wt.apart i T h1 mid;refine⟨_,rfl,Wt.go elts ct pos i T _ _ _ mid λh2 st2 k2=>?_⟩;have ht2:IsTup h2 T (vals.toList).toArray:=by
   obtain⟨o,a1,a2,nn,a3⟩:=ht;exact⟨o,k2 _ _ hTw a1,a2,nn,by simpa using a3⟩
  refine⟨.ref T,upd H T (.tup (xv i)),I.turnedT (t':=tk) (d':=s.drawn) (ch:=wr) (λb u hb e=>k2 b u hb (k1 b u hb e)) (λb hb=>hf b (hwr b hb)) hT ⟨hx i,vals.toList,w3 i vals pv,ht2⟩,rfl,⟨T,I.hok.fresh hT,rfl,rfl⟩,w2 _ _ st2,λb hb=>?_⟩;have e:b≠T:=by
   obtain⟨o,ho,_⟩:=hobj i _ st b hb;exact hAi (hAl (Heap.lt_size ho) hT)
  rw[qAj e];exact(hf b hb).1
 done:=by
  intro X hP hw hK hc i aB s σ H E I hf st hg;obtain⟨hL,hi⟩:=hg;obtain⟨Pt,St,Mid,Wt,w1,w2,w3⟩:=W X hP hw hK hc aB s σ H I hL;subst hP hw hK hi;exact Wt.done s _ _ (w1 _ st) λh1 tk k1=>⟨rfl,I.turnedL (ch:=wr) (λb u hb e=>k1 b u hb e) λb hb=>hf b (hwr b hb)⟩
 self:=hself
theorem qJh(n a b:Nat)(h1:a<n)(h2:b<n):ZipApart (n+4) (n+2) (n+3) n (n+1) a b:=by
 constructor <;> (show @Ne Nat _ _;omega)
section
variable{X:Cx}
def zFa(K:PySem.W.Frag)(ta:TA):TI:=λσ H R=>ta σ H λvs H1=>∃(a b:Addr) (xs ys:List V),vs=[.ref a,.ref b]/\SqL K H1 a xs/\SqL K H1 b ys/\R (Itp (min xs.length ys.length) (λH=>SqL K H a xs/\SqL K H b ys) (λi=>[xs.getD i .non,ys.getD i .non])) H1
theorem qN5:bootBuiltins "zip"=some (.type "zip"):=by decide +kernel
theorem qVu{a b:Expr}{ta:TA}{p pos tpos:Pos}{elts:List Expr}{ct:Nat}(hg:Gl X "zip")(hm:X.mg "zip"=none)(ha:PA X [a,b] ta)(hs:starEach [a,b] X.env=[(false,eval a X.env),(false,eval b X.env)]:=by rfl)(hs2:starEach [b] X.env=[(false,eval b X.env)]:=by rfl) :
  PI X (.Tuple elts ct tpos) (.Call (.Name "zip" p) [a,b] [] pos) (zFa X.K ta):=by
 intro aB s σ H R I h;refine Call_ (qFn I hg hm qN5 (hC7 (thn (ha pos aB s σ H _ I h) λus s1 ⟨vs,H1,I1,r1,q1⟩=>?_) (by rw[hs,hs2]) (by rw[hs2];rfl)));obtain⟨l1,l2,xs,ys,e,hx,hy,q⟩:=q1;subst e;obtain⟨u1,u2,rfl,r1,r2⟩:=qH6 r1;cases r1;cases r2;obtain⟨it1,rv1,pl1,hz1⟩:=I1.list hx;obtain⟨it2,rv2,pl2,hz2⟩:=I1.list hy;have n1:=rv1.length;have n2:=rv2.length;have b1:l1<s1.heap.objs.size:=by obtain⟨o,n,e,_⟩:=pl1;exact Heap.lt_size e
 have b2:l2<s1.heap.objs.size:=by obtain⟨o,n,e,_⟩:=pl2;exact Heap.lt_size e
 refine call_zip_2 pl1.isList pl2.isList λh1 z1 z2 z3 z4 z5 z6 z7=>?_
 refine hEk z1 ?_;have D:=qJh s1.heap.objs.size l1 l2 b1 b2;have hfp:∀b∈[s1.heap.objs.size+4,s1.heap.objs.size+2,s1.heap.objs.size+3,s1.heap.objs.size,s1.heap.objs.size+1],s1.heap.objs.size<=b:=λb hb=>by
  simp only[hA8,hAo,hE0]at hb;rcases hb with rfl|rfl|rfl|rfl|rfl
  ·exact hCl _ _
  ·exact hCl _ _
  ·exact hCl _ _
  ·exact hA3 _
  ·exact hCl _ _
 refine⟨s1.heap.objs.size+4,[s1.heap.objs.size+4,s1.heap.objs.size+2,s1.heap.objs.size+3,s1.heap.objs.size,s1.heap.objs.size+1],
  λi h=>IsZip h (s1.heap.objs.size+4) (s1.heap.objs.size+2) (s1.heap.objs.size+3) .none/\IsPair h (s1.heap.objs.size+2) (.ref s1.heap.objs.size) (.ref (s1.heap.objs.size+1))/\(∃a b,IsPair h (s1.heap.objs.size+3) a b)/\h.IsListIter s1.heap.objs.size l1 i/\h.IsListIter (s1.heap.objs.size+1) l2 i,
  _,H1,rfl,I1.kept (t':=s1.toks) z7,
  qE4 (s1.heap.objs.size+4) _ [s1.heap.objs.size+4,s1.heap.objs.size+2,s1.heap.objs.size+3,s1.heap.objs.size,s1.heap.objs.size+1,l1,l2] [s1.heap.objs.size+4,s1.heap.objs.size+3,s1.heap.objs.size,s1.heap.objs.size+1] _ _ _ _ (by simp) (λb hb=>?_) (λi h st b hb=>?_) (λi h h' st k=>?_) (λi=>by show 2<=sizeLine;decide) ?_ (λA i s' Q E st hQ=>hEk st.1 hQ),
  ⟨z1,z2,⟨_,_,z3⟩,z4,z5⟩,λb hb=>I1.fpOk (hfp b hb) (I1.hok.fresh (hfp b hb)),q⟩
 ·simp only[hA8,hAo,hE0]at hb ⊢;rcases hb with h|h|h|h
  ·exact .inl h
  ·exact .inr (.inr (.inl h))
  ·exact .inr (.inr (.inr (.inl h)))
  ·exact .inr (.inr (.inr (.inr h)))
 ·obtain⟨a1,a2,⟨c,d,a3⟩,⟨o4,a4,c4,d4⟩,⟨o5,a5,c5,d5⟩⟩:=st;simp only[hA8,hAo,hE0]at hb;rcases hb with rfl|rfl|rfl|rfl|rfl
  ·exact⟨_,a1,λv z=>by cases z⟩
  ·exact⟨_,a2,λv z=>by cases z⟩
  ·exact⟨_,a3,λv z=>by cases z⟩
  ·exact⟨_,a4,λv z=>by rw[d4]at z;cases z⟩
  ·exact⟨_,a5,λv z=>by rw[d5]at z;cases z⟩
 ·obtain⟨a1,a2,⟨c,d,a3⟩,a4,a5⟩:=st;exact⟨k _ (by simp) _ a1,k _ (by simp) _ a2,⟨c,d,k _ (by simp) _ a3⟩,a4.at λo e=>k _ (by simp) o e,a5.at λo e=>k _ (by simp) o e⟩
 ·intro X' hP hw hK hc pins' s' σ' H' I' hL;obtain⟨hx',hy'⟩:=hL;rw[<-hK]at hx' hy';obtain⟨jt1,sv1,ql1,_⟩:=I'.list hx';obtain⟨jt2,sv2,ql2,_⟩:=I'.list hy';have m1:=sv1.length;have m2:=sv2.length;have Wz:=WalksT.zip2 (prog:=X.prog) (w:=X.w) (I'.ok.hd hc) _ _ _ _ _ l1 l2 D jt1.toArray jt2.toArray;rw[show min jt1.toArray.size jt2.toArray.size=min xs.length ys.length by show min jt1.length jt2.length=_;rw[m1,m2]]at Wz;refine⟨_,_,_,Wz,λi st=>?_,λi h st=>?_,λi vals pv=>?_⟩
  ·obtain⟨a1,a2,a3,a4,a5⟩:=st;exact⟨a1,a2,a3,a4,a5,ql1.isList,ql2.isList⟩
  ·obtain⟨a1,a2,a3,a4,a5,_⟩:=st;exact⟨a1,a2,a3,a4,a5⟩
  ·obtain⟨x,y,e1,e2,rfl⟩:=pv;have e1:jt1[i]?=some x:=by simpa using e1
   have e2:jt2[i]?=some y:=by simpa using e2
   have c1:i<xs.length:=by rw[m1];exact(hAc.mp e1).1
   have c2:i<ys.length:=by rw[m2];exact(hAc.mp e2).1
   obtain⟨u,d1,d2⟩:=sv1.get (hA2 c1);obtain⟨v,f1,f2⟩:=sv2.get (hA2 c2);rw[e1]at d1;rw[e2]at f1;cases d1;cases f1;show qBh [xs.getD i .non,ys.getD i .non] [x,y];rw[hA5,hA2 c1,hA5,hA2 c2];exact .cons d2 (.cons f2 .nil)
end
section
variable{σ0:St}{g:TG}{tt:TT}{te:TE}{Q:List V->Hp->Prop}{H1:Hp}
theorem qEi(Pv:Nat->List V->Hp->Prop)(h0:Pv 0 [] H1)(hl:∀i ys H,i<=n->Pv i ys H->Ls H)
  (hs:∀i ys H T,i<n->Pv i ys H->H T=none->g (.ref T) σ0 (upd H T (.tup (xv i))) λσ2 H2=>Sle σ0 σ2/\tt σ2 H2 λb H3=>if b=true then te σ2 H3 (λv H4=>ys.length<sizeLine/\Nxt n i Pv (ys++[v]) H4) else Nxt n i Pv ys H3)
  (hd:∀ys H,Pv n ys H->Q ys H):qDj (Itp n Ls xv) σ0 g tt te Q H1:=by
 refine⟨λi m ys H=>m=n-i/\i<=n/\Pv i ys H,⟨n,by simp,hAq _,h0⟩,?_⟩;rintro i m ys H ⟨rfl,hi,p⟩;have q:=hl i ys H hi p;by_cases hlt:i<n
 ·refine .inr ⟨⟨q,hlt⟩,λx H' y=>?_⟩;obtain⟨T,e1,e2,e3⟩:=y;subst e2 e3;exact hs i ys H T hlt p e1
 ·have e:i=n:=by omega
  subst e;exact .inl ⟨⟨q,rfl⟩,hd ys H p⟩
end
section
variable{X:Cx}{aB:List (Addr×Obj)}{σ:St}{H H':Hp}{s:Shared}
theorem qR3(I:Inv X aB σ H s)(O:CmpOk X.N X.env.scope N' scope sub)(hf:∀b∈fp,qJg X aB H b)
  (hfl:∀b∈fp,b<s.heap.objs.size) (nf:o0.isFreed=false) (nc:∀v,o0.data≠.cell v) :
  Inv (qBc X scope N' (s.heap.objs.size+1) s H fp) [(s.heap.objs.size,o0)] (subσ sub σ) H
   { s with heap:=pushCells ((s.heap.push o0).push { cls:=.type "dict",data:=.dict #[] }) scope.names }:=by
 have hk3:∀b o,s.heap.get? b=some o->(s.heap.push o0).get? b=some o:=λb o e=>Heap.get?_push_of_some _ e
 have sz3:(s.heap.push o0).objs.size=s.heap.objs.size+1:=Heap.size_push ..;have hk:∀b o,s.heap.get? b=some o->(pushCells ((s.heap.push o0).push { cls:=.type "dict",data:=.dict #[] }) scope.names).get? b=some o :=
  λb o e=>hE9 _ _ b o (Heap.get?_push_of_some _ (hk3 b o e))
 have cf:=qG7 (h3:=s.heap.push o0) I O hk3;rw[sz3]at cf;have hC:H (s.heap.objs.size+1)=none:=I.hok.fresh (hAy _);have nsC:(pushCells ((s.heap.push o0).push { cls:=.type "dict",data:=.dict #[] }) scope.names).Ns (s.heap.objs.size+1) (λ_=>none):=by
  rw[<-sz3];exact(Heap.Ns.new _ _).keeps (hE9 _ _)
 have has:∀x,(scope.names.lookup x=some .cell\/scope.names.lookup x=some .free)->∃c,(cellsFrom (s.heap.objs.size+1+1) scope.names (qCm X.env.cells scope.names [])).lookup x=some c:=λx hx=>by
  refine hCf.mp (hD3 _ _ _ ?_);rcases hx with z|z
  ·exact .inl z
  ·exact .inr (qD1 (.inl (hBg z)))
 have kindB:∀x,(qB8 X.env scope (s.heap.objs.size+1)).kindOf x=(scope.names.lookup x).map λk=>if (k == NameKind.free && X.env.scope.kind == .function && X.env.scope.names.lookup x == some .cell) then NameKind.cell else k:=λx=>qDp
 have cellOk:∀x c,(qB8 X.env scope (s.heap.objs.size+1)).cells.lookup x=some c->∃v,(pushCells ((s.heap.push o0).push { cls:=.type "dict",data:=.dict #[] }) scope.names).IsCell c v:=λx c h=>by
  rcases cf.1 x c h with q|q
  ·exact⟨_,q.1⟩
  ·obtain⟨v,z⟩:=I.cell x c q.2;exact⟨v,z.keeps hk⟩
 refine⟨⟨I.ok.mod,O.kind,I.ok.glob,I.ok.blt,hAy _,λx y c h1 h2=>cf.2 x y c h1 h2,λx hx=>?_,λx c hx h=>?_,I.ok.hd,I.ok.frames,.inl rfl,λb hb=>?_,λb o e=>I.bs b o e,hAx I.ok.bsz I.sz,λb o e hb=>?_,λb hb=>?_,I.stack,I.stkFree⟩,
  rfl,I.bare,Un.kept hk,⟨λ_=>none,nsC,λi x v h1 h2 h3=>?_⟩,cellOk,hC,λx c h=>?_,λp hp=>?_,I.hok.kept hk,?_⟩
 ·-- has
  refine has x ?_;have hx:(qB8 X.env scope (s.heap.objs.size+1)).kindOf x=some .cell\/(qB8 X.env scope (s.heap.objs.size+1)).kindOf x=some .free:=hx;rw[kindB]at hx;cases e:scope.names.lookup x with
  |none=>rw[e]at hx;rcases hx with z|z <;> cases z
  |some k =>
   rw[e]at hx;cases k with
   |cell=>exact .inl rfl
   |free=>exact .inr rfl
   |_=>exfalso;rcases hx with z|z <;> simp at z
 ·-- cab
  rcases cf.1 x c h with q|q
  ·have:=q.2.1;show s.heap.objs.size<=c;omega
  ·exfalso;have e:=qBx O.nd q.1;have hx':(!(scope.names.lookup x == some NameKind.free))=true:=hx;rw[e]at hx';exact absurd hx' (by decide)
 ·-- exf
  obtain⟨f0,f1,f2,f3,f4,f5⟩:=hf b hb;have lt:=hfl b hb;refine⟨λe=>?_,λx c h e=>?_⟩
  ·have e':b=s.heap.objs.size+1:=e;rw[e']at lt;exact absurd lt (Nat.not_lt.mpr (hAy _))
  ·rcases cf.1 x c h with q|q
   ·have z:=q.2.1;rw[e]at z;exact absurd lt (Nat.not_lt.mpr (hAx (hAx (hAy _) (hAy _)) z))
   ·exact f4 x c q.2 e
 ·-- noex
  obtain⟨f0,f1,f2,f3,f4,f5⟩:=hf b hb;rcases f3 with z|z
  ·exact I.ok.noex b o e z
  ·exact absurd (hAl (Heap.lt_size (I.ok.bs b o e).1) z) (hBe _)
 ·-- exfs
  obtain⟨f0,f1,f2,f3,f4,f5⟩:=hf b hb;exact λz=>f2 (qHz I z f1)
 ·-- loc
  have h1':N'[i]?=some x:=h1;have hsub:∃k,sub[i]?=some (some k)/\(σ[k]?).join=some v:=by
   unfold subσ at h2;rw[hAj]at h2;cases e:sub[i]? with
   |none=>rw[e]at h2;cases h2
   |some o =>
    rw[e]at h2;cases o with
    |none=>cases h2
    |some k=>exact⟨k,rfl,by simpa using h2⟩
  obtain⟨k,hk1,hk2⟩:=hsub;obtain⟨nk,fx⟩:=O.sub i k x hk1 h1';have sk:σ[k]?=some (some v):=by
   cases e:σ[k]? with
   |none=>rw[e]at hk2;cases hk2
   |some o=>rw[e]at hk2;cases o with
    |none=>cases hk2
    |some y=>cases hk2;rfl
  have cx:=O.free _ (hBg fx) rfl;obtain⟨m,hn,hl⟩:=I.loc;obtain⟨u,ru,lk⟩:=hl k x v nk sk (by
   rcases cx with z|z
   ·exact .inr (.inl z)
   ·exact .inr (.inr z))
  refine⟨u,ru,.inr ⟨?_,?_⟩⟩
  ·show(qB8 X.env scope (s.heap.objs.size+1)).kindOf x=some .cell\/(qB8 X.env scope (s.heap.objs.size+1)).kindOf x=some .free;rw[kindB,fx];by_cases hc:(NameKind.free == NameKind.free && X.env.scope.kind == .function && X.env.scope.names.lookup x == some .cell)=true
   ·exact .inl (by rw[hD7,hDu hc])
   ·exact .inr (by rw[hD7,hDt hc])
  ·rcases lk with ⟨kl,_⟩|⟨_,c,hc,hcell⟩
   ·exfalso;have kl':X.env.scope.names.lookup x=some .local:=kl;rcases cx with z|z <;> rw[kl']at z <;> cases z
   ·obtain⟨c',hc'⟩:=has x (.inr fx);refine⟨c',hc',?_⟩;rcases cf.1 x c' hc' with q|q
    ·exfalso;have e:=qBx O.nd q.2.2;rw[fx]at e;cases e
    ·rw[hc]at q;have e:c=c':=hAr q.2;subst e;exact hcell.keeps hk
 ·-- freeC
  rcases cf.1 x c h with q|q
  ·exact I.hok.fresh (by have:=q.2.1;omega)
  ·exact I.freeC x c q.2
 ·-- pin
  have hp':p=(s.heap.objs.size,o0):=by
   have:p∈([]++[(s.heap.objs.size,o0)]:List (Addr×Obj)):=hp
   simpa using this
  subst hp';refine⟨hE9 _ _ _ _ (Heap.get?_push_of_some _ (Heap.get?_push_size _ nf)),I.hok.fresh (hA3 _),hAi (hAt _),λz=>?_,λv z=>?_⟩
  ·rcases hA8.mp (I.stkSub _ z) with e|e
   ·exact absurd I.lt (by rw[<-e];exact hBe _)
   ·exact I.nofs (hA3 _) e
  ·exact nc v z
 ·-- len
  show(subσ sub σ).length=N'.length;unfold subσ;rw[hA1,O.len]
theorem Inv.repin(I:Inv X ((acc,o) :: aB) σ H s)(k:∀b u,b≠acc->s.heap.get? b=some u->h'.get? b=some u)(e:h'.get? acc=some o')(nc:∀v,o'.data≠.cell v)(hx:acc∈X.ex\/X.s₀.heap.objs.size<=acc)(np:∀p∈X.pn++aB,p.1≠acc) :
  Inv X ((acc,o') :: aB) σ H { s with heap:=h',toks:=t' }:=by
 have pa:=I.pin (acc,o) (hAb _ hA6);have I1:Inv X aB σ H s:=I.pins_of λp hp=>I.pin p (hAb _ (hA4 _ hp))
 have I2:Inv X aB σ H { s with heap:=h',toks:=t' }:=I1.turned (t':=t') (it:=acc) k pa.2.1 pa.2.2.1 hx
  (λy c hy z=>by
   obtain⟨w',o2,ho2,hd2⟩:=I.cell y c hy;rw[z,pa.1]at ho2;exact pa.2.2.2.2 _ (by cases ho2;exact hd2)) np
 refine I2.pins_of λp hp=>?_
 rcases hA8.mp hp with z|z
 ·subst z;exact⟨e,pa.2.1,pa.2.2.1,pa.2.2.2.1,nc⟩
 ·exact I2.pin p (hAb _ z)
end
def qCv(tpos:Pos)(it:Value)(target:Expr)(env:Env)(ifs:List Expr)(body:Sem Unit)(k:Sem Fin):Sem Fin:=do
 standAt tpos
 match ← pyNext it with
 |none=>pure (.done .next)
 |some v =>
  letOwnedTupleGo target it v
  assign target env v
  let mut ok:=true
  for c in ifs do
   if ok then ok ← isTrue c env (eval c env)
  if ok then
   body
  k
theorem qKl(hsh:compTurn e d it acc env=qCv tpos it target env ifs body (again (.compLoop e d it acc env)))(hdn:∀(A:Around) (Q:PySem.Fin->Shared->Prop) (E:Value->Shared->Prop) (s:Shared),wpAny (model prog w) A ((compTurn e d it acc env).onRaise (λx=>do noteFrame x env;theTreesLotGoes x)) Q E s->wpAny (model prog w) (A.under (.compLoop e d it acc env)) ((model prog w).den (.compLoop e d it acc env)) Q E s)(I:Nat->Shared->Prop)
  (turn:∀n s,I n s->wpAny (model prog w) A (pyNext it) (λr s₁=>match r with
   |none=>R (.ok .next) s₁
   |some v=>wpAny (model prog w) A (letOwnedTupleGo target it v) (λ_ s₁'=>wpAny (model prog w) A (assign target env v) (λ_ s₂ =>
     wpAny (model prog w) A (forIn ifs true λc r=>if r=true then do let ok ← isTrue c env (eval c env);pure (ForInStep.yield ok) else pure (ForInStep.yield r)) (λok s₃ =>
      if ok=true then wpAny (model prog w) A body (λ_ s₅=>∃m,m<n/\I m s₅) (λ_ _=>False) s₃
      else ∃m,m<n/\I m s₃) (λ_ _=>False) s₂) (λ_ _=>False) s₁') (λ_ _=>False) s₁) (λ_ _=>False) s)
  (n:Nat) (h:I n s):codeAny (model prog w) A (.compLoop e d it acc env) R s:=by
 refine codeAny_loop rfl I (λn s hI=>?_) n h;refine hdn _ _ _ _ (wpAny_noted ?_);rw[hsh];unfold qCv;refine hDo (hE3 (hDo (hDz (turn n s hI) (λr s₁ h₁=>?_) λ_ _ h'=>h'.elim)));cases r with
 |none=>exact hDq h₁
 |some v =>
  refine hDo (hDz h₁ (λ_ s₁' h₁=>?_) λ_ _ h'=>h'.elim);refine hDo (hDz h₁ (λ_ s₂ h₂=>hDo (hDz h₂ (λok s₃ h₃=>?_) λ_ _ h'=>h'.elim)) λ_ _ h'=>h'.elim);cases ok with
  |false=>exact hDq ⟨rfl,h₃⟩
  |true=>exact hDo (hDz h₃ (λ_ s₅ h₅=>hDq ⟨rfl,h₅⟩) λ_ _ h'=>h'.elim)
section
variable{AS:Type}
abbrev TB(AS:Type):=AS->St->Hp->(AS->St->Hp->Prop)->Prop
def PBd(X:Cx)(AO:AS->Obj->Prop)(acc:Addr)(body:Sem Unit)(tb:TB AS):Prop :=
 ∀(aB:List (Addr×Obj)) (s:Shared) (σ:St) (H:Hp) (a:AS) (o:Obj) (Q:AS->St->Hp->Prop),Inv X ((acc,o) :: aB) σ H s->(∀p∈X.pn++aB,p.1≠acc)->(acc∈X.ex\/X.s₀.heap.objs.size<=acc)->AO a o->tb a σ H Q ->
  wpAny (model X.prog X.w) X.A body (λ_ s'=>∃(a':AS) (o':Obj) (σ':St) (H':Hp),Inv X ((acc,o') :: aB) σ' H' s'/\AO a' o'/\Q a' σ' H') (λ_ _=>False) s
def qHy(J:It)(g:TG)(tt:TT)(tb:TB AS)(Q:AS->St->Hp->Prop)(a0:AS)(σ0:St)(H0:Hp):Prop :=
 ∃W:Nat->Nat->AS->St->Hp->Prop,(∃m,W 0 m a0 σ0 H0)/\∀i m a σ H,W i m a σ H ->
  (J.stop i H/\Q a σ H) \/
  (J.go i H/\∀x H',J.yld i H x H'->g x σ H' λσ2 H2=>tt σ2 H2 λb H3 =>
   if b=true then tb a σ2 H3 (λa' σ' H'=>∃m',m'<m/\W (i+1) m' a' σ' H') else ∃m',m'<m/\W (i+1) m' a σ2 H3)
theorem zBz
  (hc:X.calm=true) (xxe:X.xe=λ_ _=>False) (hsh:compTurn e d (.ref it) (.ref acc) X.env=qCv tpos (.ref it) target X.env ifs body (again (.compLoop e d (.ref it) (.ref acc) X.env))) (hdn:∀(A:Around) (Q:PySem.Fin->Shared->Prop) (E:Value->Shared->Prop) (s:Shared),wpAny (model X.prog X.w) A ((compTurn e d (.ref it) (.ref acc) X.env).onRaise (λx=>do noteFrame x X.env;theTreesLotGoes x)) Q E s->wpAny (model X.prog X.w) (A.under (.compLoop e d (.ref it) (.ref acc) X.env)) ((model X.prog X.w).den (.compLoop e d (.ref it) (.ref acc) X.env)) Q E s)
  (T:Turn X.prog X.w X.K target J fp it tn) (st:tn 0 s.heap) (hf:∀b∈fp,qJg X ((acc,o) :: aB) H b) (hg:PG X target g) (ht:PTs X ifs tt) (hb:PBd X AO acc body tb)
  (I:Inv X ((acc,o) :: aB) σ H s) (np:∀p∈X.pn++aB,p.1≠acc) (hx:acc∈X.ex\/X.s₀.heap.objs.size<=acc) (ha:AO a o) (rd:qHy J g tt tb Q a σ H)
  (hR:∀(s':Shared) (a':AS) (o':Obj) (σ':St) (H':Hp),Inv X ((acc,o') :: aB) σ' H' s'->AO a' o'->Q a' σ' H'->(∀b∈fp,H' b=none)->R (.ok .next) s') :
  codeAny (model X.prog X.w) X.A (.compLoop e d (.ref it) (.ref acc) X.env) R s:=by
 obtain⟨W,⟨m0,w0⟩,turn⟩:=rd;have stat:∀ {o':Obj} {H':Hp},(∀b∈fp,H' b=none)->∀b∈fp,qJg X ((acc,o') :: aB) H' b:=λ{o' H'} hn b hb=>by
  obtain⟨f0,f1,f2,f3,f4,f5⟩:=hf b hb;refine⟨hn b hb,f1,f2,f3,f4,λp hp=>?_⟩;rcases hAh.mp hp with z|z
  ·exact f5 p (hAk _ z)
  ·rcases hA8.mp z with z|z
   ·rw[z];exact f5 (acc,o) (hAb _ hA6)
   ·exact f5 p (hAb _ (hA4 _ z))
 refine qKl hsh hdn (λn s'=>∃(i:Nat) (a':AS) (o':Obj) (σ':St) (H':Hp),Inv X ((acc,o') :: aB) σ' H' s'/\AO a' o'/\tn i s'.heap/\(∀b∈fp,H' b=none)/\W i n a' σ' H') ?_ m0 ⟨0,a,o,σ,H,I,ha,st,λb hb=>(hf b hb).1,w0⟩;rintro n s4 ⟨i,a4,o4,σ4,H4,I4,ha4,st4,fr4,w4⟩;rcases turn i n a4 σ4 H4 w4 with ⟨stop,q⟩|⟨go,step⟩
 ·refine thn (T.done X rfl rfl rfl hc i _ s4 σ4 H4 (λ_ _=>False) I4 (stat fr4) st4 stop) λr s5 ⟨hr,I5⟩=>?_
  subst hr;exact hR s5 a4 o4 σ4 H4 I5 ha4 q fr4
 ·refine thn (T.item X rfl rfl rfl hc i _ s4 σ4 H4 (λ_ _=>False) I4 (stat fr4) st4 go) λr s5 ⟨u,hr,h5⟩=>?_
  subst hr;refine thn h5 λ_ s6 ⟨x,H6,I6,r6,y6,st6,fr6⟩=>?_
  have I6':=I6.pinned (stat fr6) (T.obj _ _ st6);have back:∀ {o':Obj} {σ':St} {H':Hp} {s':Shared},Inv X ((acc,o') :: (aB++pinsAt fp s6.heap)) σ' H' s'->Inv X ((acc,o') :: aB) σ' H' s'/\tn (i+1) s'.heap/\∀b∈fp,H' b=none:=λ{o' σ' H' s'} I'=>by
   refine⟨Inv.unpinned (pl:=pinsAt fp s6.heap) I',T.keep _ _ _ st6 λb hb o e=>?_,λb hb=>?_⟩
   ·exact(I'.pin (b,o) (hAb _ (hA4 _ (hAb _ (qB5 hb e))))).1
   ·obtain⟨o,e,d⟩:=T.obj _ _ st6 b hb;exact(I'.pin (b,o) (hAb _ (hA4 _ (hAb _ (qB5 hb e))))).2.1
  have np':∀p∈X.pn++(aB++pinsAt fp s6.heap),p.1≠acc:=λp hp=>by
   rcases hAh.mp hp with z|z
   ·exact np p (hAk _ z)
   ·rcases hAh.mp z with z|z
    ·exact np p (hAb _ z)
    ·obtain⟨hb,_⟩:=qJ5 z;exact Ne.symm ((stat (o':=o4) fr6 p.1 hb).2.2.2.2.2 (acc,o4) (hAb _ hA6))
  have tg:=hg _ s6 σ4 H6 x u _ I6' r6 (step x H6 y6);rw[xxe]at tg;refine thn tg λ_ s7 ⟨σ7,H7,I7,q7⟩=>?_
  have tts:=ht _ s7 σ7 H7 _ I7 q7;rw[xxe]at tts;refine thn tts λb s8 ⟨H8,I8,q8⟩=>?_
  cases b with
  |false =>
   rw[hDt hAm]at q8 ⊢;obtain⟨m',hm',w8⟩:=q8;obtain⟨b1,b2,b3⟩:=back I8;exact⟨m',hm',i+1,a4,o4,σ7,H8,b1,ha4,b2,b3,w8⟩
  |true =>
   rw[hDu rfl]at q8 ⊢;refine thn (hb _ s8 σ7 H8 a4 o4 _ I8 np' hx ha4 q8) λ_ s9 ⟨a9,o9,σ9,H9,I9,ha9,m',hm',w9⟩=>?_
   obtain⟨b1,b2,b3⟩:=back I9;exact⟨m',hm',i+1,a9,o9,σ9,H9,b1,ha9,b2,b3,w9⟩
end
theorem qEx(hcl:(clausesOf e)[d]?=some g)(hga:g.is_async=0)
  (hdn:∀(A:Around) (Q:PySem.Fin->Shared->Prop) (E:Value->Shared->Prop) (s:Shared),wpAny (model prog w) A ((compStart e d it acc env).onRaise (λx=>do noteFrame x env;standAt theWindowsPlace)) Q E s->wpAny (model prog w) (A.under (.compStart e d it acc env)) ((model prog w).den (.compStart e d it acc env)) Q E s)
  (hq:∀it',(Code.compLoop e d it' acc env).quiet=true)
  (h0:codeAny (model prog w) A (.compLoop e d it acc env) R s)
  (h:wpAny (model prog w) A (pyIter it) (λit' s'=>codeAny (model prog w) A (.compLoop e d it' acc env) R s') (λ_ _=>False) s):codeAny (model prog w) A (.compStart e d it acc env) R s:=by
 refine codeAny_of_tree (hdn _ _ _ _ (wpAny_notedAt ?_));unfold compStart;rw[hcl];show wpAny _ _ (if (g.is_async != 0)=true then _ else _) _ _ s;rw[hDt (by rw[hga];decide)];refine hDo (hE7 (wpAny_ite ?_));split
 ·first
   |exact hDo (hDq (hDq (And.intro (hq _) h0)))
   |exact hDq (And.intro (hq _) h0)
 ·exact hDo (hEu (hDo (hE3 (hDo (hDz h (λit' s' h'=>hDq (And.intro (hq _) h')) λ_ _ x=>x.elim)))))
section
variable{X:Cx}{aB:List (Addr×Obj)}{σ:St}{H:Hp}{s:Shared}{AS:Type}
theorem zB0{e target:Expr}{gcl:Comprehension}{tpos:Pos}{ifs:List Expr}{scope:Scope}{N':List Str}{sub:List (Option Nat)}{J:It}{fp:List Addr}{it:Addr}{tn:Nat->Heap->Prop}{g:TG}{tt:TT}{tb:TB AS}{o0:Obj}{a0:AS}{AO:AS->Obj->Prop}{HOf:Addr->AS->HO}{newAcc:Sem Value}{body:Addr->Env->Sem Unit}
  {Qe:AS->Hp->Prop} {E:Value->Shared->Prop} {RR:Value->Addr->Result->Shared->Prop}
  (hnew:∀(A:Around) (s:Shared) (Q:Value->Shared->Prop) (E:Value->Shared->Prop),Q (.ref s.heap.objs.size) { s with heap:=s.heap.push o0 }->wpAny (model X.prog X.w) A newAcc Q E s) (nf:o0.isFreed=false) (nc:∀a o,AO a o->∀v,o.data≠.cell v) (hA0:AO a0 o0)
  (hHO:∀(H':Hp) (h:Heap) (acc:Addr) (a:AS) (o:Obj),sysModules<acc->AO a o->h.get? acc=some o->qB3 X.prog X.w H' h acc (HOf acc a))
  (hcl:(clausesOf e)[0]?=some gcl) (hga:gcl.is_async=0)
  (hdnS:∀(it acc:Value) (env:Env) (A:Around) (Q:PySem.Fin->Shared->Prop) (E:Value->Shared->Prop) (s:Shared),wpAny (model X.prog X.w) A ((compStart e 0 it acc env).onRaise (λx=>do noteFrame x env;standAt theWindowsPlace)) Q E s->wpAny (model X.prog X.w) (A.under (.compStart e 0 it acc env)) ((model X.prog X.w).den (.compStart e 0 it acc env)) Q E s)
  (hdnL:∀(it acc:Value) (env:Env) (A:Around) (Q:PySem.Fin->Shared->Prop) (E:Value->Shared->Prop) (s:Shared),wpAny (model X.prog X.w) A ((compTurn e 0 it acc env).onRaise (λx=>do noteFrame x env;theTreesLotGoes x)) Q E s->wpAny (model X.prog X.w) (A.under (.compLoop e 0 it acc env)) ((model X.prog X.w).den (.compLoop e 0 it acc env)) Q E s)
  (hq:∀it acc env,(Code.compLoop e 0 it acc env).quiet=true)
  (hsh:∀(it acc:Addr) (env:Env),compTurn e 0 (.ref it) (.ref acc) env=qCv tpos (.ref it) target env ifs (body acc env) (again (.compLoop e 0 (.ref it) (.ref acc) env)))
  (hc:X.calm=true) (I:Inv X aB σ H s) (O:CmpOk X.N X.env.scope N' scope sub) (T:Turn X.prog X.w X.K target J fp it tn) (st:tn 0 s.heap) (hf:∀b∈fp,qJg X aB H b)
  (B:∀C s H fp,PG (qBc X scope N' C s H fp) target g/\PTs (qBc X scope N' C s H fp) ifs tt/\∀acc,PBd (qBc X scope N' C s H fp) AO acc (body acc (qBc X scope N' C s H fp).env) tb)
  (rd:qHy J g tt tb (λa _ H'=>Qe a H') a0 (subσ sub σ) H)
  (hRR:∀(acc C:Addr) (a:AS) (H':Hp) (s':Shared),Inv X aB σ (upd H' acc (HOf acc a)) s'->qJg X aB (upd H' acc (HOf acc a)) C->(∃m,s'.heap.Ns C m)->H' acc=none->Qe a H'->RR (.ref acc) C (.ok .next) s') :
  wpAny (model X.prog X.w) X.A newAcc (λacc s₃=>wpAny (model X.prog X.w) X.A (newFunctionEnv scope X.env.globals (qCm X.env.cells scope.names []) [] X.env.qual none .none (some X.env)) (λcenv s₄ =>
   codeAny (model X.prog X.w) X.A (.compStart e 0 (.ref it) acc { cenv with scope:=relabel scope X.env }) (RR acc cenv.locals) s₄) E s₃) E s:=by
 refine hnew _ _ _ _ (qEh ?_);have hfl:∀b∈fp,b<s.heap.objs.size:=λb hb=>by
  obtain⟨o,e,_⟩:=T.obj _ _ st b hb;exact Heap.lt_size e
 have I0:=qR3 (o0:=o0) (sub:=sub) I O hf hfl nf (nc a0 o0 hA0);have sz3:(s.heap.push o0).objs.size=s.heap.objs.size+1:=Heap.size_push ..;dsimp only;show codeAny _ _ (.compStart _ 0 (.ref it) (.ref s.heap.objs.size) { scope:=relabel scope X.env,locals:=(s.heap.push o0).objs.size,globals:=X.env.globals,cells:=cellsFrom ((s.heap.push o0).objs.size+1) scope.names (qCm X.env.cells scope.names []),qual:=X.env.qual,func:=none,code:=X.env.code,frame:=X.env.frame,builtins:=X.env.builtins })
  (RR (.ref s.heap.objs.size) (s.heap.push o0).objs.size) { s with heap:=pushCells ((s.heap.push o0).push { cls:=.type "dict",data:=.dict #[] }) scope.names }
 rw[sz3];show codeAny _ _ (.compStart _ 0 (.ref it) (.ref s.heap.objs.size) (qB8 X.env scope (s.heap.objs.size+1))) (RR (.ref s.heap.objs.size) (s.heap.objs.size+1)) _;generalize hs0:({ s with heap:=pushCells ((s.heap.push o0).push { cls:=.type "dict",data:=.dict #[] }) scope.names }:Shared)=s0 at I0 ⊢;have hk0:∀b o,s.heap.get? b=some o->s0.heap.get? b=some o:=λb o e=>by
  rw[<-hs0];exact hE9 _ _ b o (Heap.get?_push_of_some _ (Heap.get?_push_of_some _ e))
 have st0:tn 0 s0.heap:=T.keep _ _ _ st λb hb o e=>hk0 b o e
 clear hs0 sz3;generalize hX:qBc X scope N' (s.heap.objs.size+1) s H fp=X' at I0;have xp:X'.prog=X.prog:=by rw[<-hX];rfl
 have xw:X'.w=X.w:=by rw[<-hX];rfl
 have xK:X'.K=X.K:=by rw[<-hX];rfl
 have xA:X'.A=X.A:=by rw[<-hX];rfl
 have xc:X'.calm=true:=by rw[<-hX];exact hc
 have xe:X'.env=qB8 X.env scope (s.heap.objs.size+1):=by rw[<-hX];rfl
 have xx:X'.ex=fp:=by rw[<-hX];rfl
 have xf:X'.fs=frs X.stack:=by rw[<-hX];rfl
 have xpn:X'.pn=[]:=by rw[<-hX];rfl
 have x0:X'.s₀=s:=by rw[<-hX];rfl
 have xh:X'.H₀=H:=by rw[<-hX];rfl
 have xxe:X'.xe=λ_ _=>False:=by rw[<-hX];rfl
 obtain⟨hg,ht,hbd⟩:=B (s.heap.objs.size+1) s H fp;rw[hX]at hg ht hbd;clear hX;have f0':∀b∈fp,qJg X' [(s.heap.objs.size,o0)] H b:=λb hb=>by
  obtain⟨f0,f1,f2,f3,f4,f5⟩:=hf b hb;refine⟨f0,(I0.ok.exf b (by rw[xx];exact hb)).1,I0.ok.exfs b (by rw[xx];exact hb),.inl (by rw[xx];exact hb),(I0.ok.exf b (by rw[xx];exact hb)).2,λp hp'=>?_⟩;rw[xpn,List.nil_append,hAa]at hp';rw[hp'];exact hCw (hfl b hb)
 have loop:codeAny (model X.prog X.w) X.A (.compLoop e 0 (.ref it) (.ref s.heap.objs.size) (qB8 X.env scope (s.heap.objs.size+1))) (RR (.ref s.heap.objs.size) (s.heap.objs.size+1)) s0:=by
  have T':Turn X'.prog X'.w X'.K target J fp it tn:=by rw[xp,xw,xK];exact T
  have hb0:=hbd s.heap.objs.size;have key:=zBz (X:=X') (AO:=AO) (e:=e) (d:=0) (tpos:=tpos) (R:=RR (.ref s.heap.objs.size) (s.heap.objs.size+1)) (aB:=[]) (a:=a0) (o:=o0) (acc:=s.heap.objs.size) xc xxe (hsh it s.heap.objs.size X'.env) (by rw[xp,xw];exact hdnL _ _ _) T' st0 f0' hg ht hb0 I0 (by rw[xpn];exact λp hp=>absurd hp (by simp)) (.inr (by rw[x0];exact hA3 _)) hA0 rd ?_
  ·rw[xp,xw,xA,xe]at key;exact key
  intro s5 a5 o5 σ5 H4 I5 ha5 q fr5;have pa:=I5.pin (s.heap.objs.size,o5) (by rw[xpn];simp);have nacc:H4 s.heap.objs.size=none:=pa.2.1;have nC:H4 (s.heap.objs.size+1)=none:=by have z:=I5.free;rw[xe]at z;exact z
  have un:Un (frs X.stack) fp H H4 s.heap s5.heap:=by have z:=I5.base;rw[xf,xx,xh,x0]at z;exact z
  have un2:Un (frs X.stack) fp H (upd H4 s.heap.objs.size (HOf s.heap.objs.size a5)) s.heap s5.heap:=by
   refine⟨un.keep,un.slot,λb o e n hx=>?_,un.there,λb xs e=>?_,λb o u e=>?_,λb ps e=>?_⟩
   ·rw[qAj (hAi (Heap.lt_size e))];exact un.free b o e n hx
   ·have z:=un.tups b xs e;rw[qAj (qAq z nacc)];exact z
   ·have z:=un.frzs b o u e;rw[qAj (qAq z nacc)];exact z
   ·obtain⟨more,z⟩:=un.tbls b ps e;exact⟨more,by rw[qAj (qAq z nacc)];exact z⟩
  have hok5:HOk X.prog X.w H4 s5.heap:=by have z:=I5.hok;rw[xp,xw]at z;exact z
  have hok2:HOk X.prog X.w (upd H4 s.heap.objs.size (HOf s.heap.objs.size a5)) s5.heap:=λb u e=>by
   by_cases hb:b=s.heap.objs.size
   ·subst hb;rw[upd_same]at e;cases e;exact hHO _ _ _ _ _ I.big ha5 pa.1
   ·rw[qAj hb]at e;exact(hok5 b u e).stay (λ_ _ _ q=>q) (λc q=>by rw[qAj (qAq q nacc)];exact q) λc xs q=>by rw[qAj (qAq q nacc)];exact q
  have os5:s5.os=s.os:=by have z:=I5.os;rw[x0]at z;exact z
  have J5:Inv X aB σ (upd H4 s.heap.objs.size (HOf s.heap.objs.size a5)) s5:=I.call' os5 un2 hok2 I5.bare λb hb=>by
   obtain⟨f0,f1,f2,f3,f4,f5⟩:=hf b hb;exact⟨f3,f1,f4,f5⟩
  refine hRR _ _ a5 H4 s5 J5 (I.fpOk (hAy _) ?_) ?_ nacc q
  ·rw[qAj (Nat.succ_ne_self _)];exact nC
  ·obtain⟨m,hn,_⟩:=I5.loc;rw[xe]at hn;exact⟨m,hn⟩
 exact qEx hcl hga (hdnS _ _ _) (λit'=>hq _ _ _) loop (T.self _ 0 _ _ _ st0 loop)
end
def qFy(e iter2:Expr)(acc:Addr)(env:Env):Sem Unit:=do
 let x ← eval iter2 env
 standAt iter2.pos
 let x ← foldedSetIterable iter2 env x
 let _ ← runOwn (.compStart e 1 (← holding [x] (pyIter x)) (.ref acc) env) env
def zC6{AS:Type}(wi:TI)(g:TG)(tt:TT)(tb:TB AS):TB AS:=λa σ H Q=>wi σ H λJ H1=>qHy J g tt tb Q a σ H1
theorem qTv{X:Cx}{AS:Type}{AO:AS->Obj->Prop}{acc:Addr}{e iter2 target2:Expr}{ifs2:List Expr}{tpos2:Pos}{gcl:Comprehension}{body:Sem Unit}{wi:TI}{g:TG}{tt:TT}{tb:TB AS}(hc:X.calm=true)(xxe:X.xe=λ_ _=>False)
  (hi:PI X target2 iter2 wi) (hg:PG X target2 g) (ht:PTs X ifs2 tt) (hb:PBd X AO acc body tb) (hfold:∀x,foldedSetIterable iter2 X.env x=pure x)
  (hcl:(clausesOf e)[1]?=some gcl) (hga:gcl.is_async=0)
  (hsh:∀it:Addr,compTurn e 1 (.ref it) (.ref acc) X.env=qCv tpos2 (.ref it) target2 X.env ifs2 body (again (.compLoop e 1 (.ref it) (.ref acc) X.env)))
  (hdnS:∀(it:Value) (A:Around) (Q:PySem.Fin->Shared->Prop) (E:Value->Shared->Prop) (s:Shared),wpAny (model X.prog X.w) A ((compStart e 1 it (.ref acc) X.env).onRaise (λx=>do noteFrame x X.env;standAt theWindowsPlace)) Q E s->wpAny (model X.prog X.w) (A.under (.compStart e 1 it (.ref acc) X.env)) ((model X.prog X.w).den (.compStart e 1 it (.ref acc) X.env)) Q E s)
  (hdnL:∀(it:Value) (A:Around) (Q:PySem.Fin->Shared->Prop) (E:Value->Shared->Prop) (s:Shared),wpAny (model X.prog X.w) A ((compTurn e 1 it (.ref acc) X.env).onRaise (λx=>do noteFrame x X.env;theTreesLotGoes x)) Q E s->wpAny (model X.prog X.w) (A.under (.compLoop e 1 it (.ref acc) X.env)) ((model X.prog X.w).den (.compLoop e 1 it (.ref acc) X.env)) Q E s)
  (hq:∀it,(Code.compLoop e 1 it (.ref acc) X.env).quiet=true):PBd X AO acc (qFy e iter2 acc X.env) (zC6 wi g tt tb):=by
 intro aB s σ H a o Q I np hx ha h;have h0:=hi _ s σ H _ I h;rw[xxe]at h0;unfold qFy;refine hDo (thn h0 λv s1 h1=>hDo (hE3 (hDo (wpAny_of_eq (hfold v) (hDo (hDv (thn h1 λitv s2 h2=>?_)))))));obtain⟨it,fp,tn,J,H2,e2,I2,T,st2,f2,rd⟩:=h2;subst e2;refine hDo (wpAny_runOwn ?_);have loop:=zBz (X:=X) (AO:=AO) (e:=e) (d:=1) (tpos:=tpos2) (R:=λr s'=>match r with
   |.ok f=>wpAny (model X.prog X.w) X.A (pure ():Sem Unit) (λ_ s'=>∃(a':AS) (o':Obj) (σ':St) (H':Hp),Inv X ((acc,o') :: aB) σ' H' s'/\AO a' o'/\Q a' σ' H') (λ_ _=>False) s'
   |.error e=>cameBackBy (model X.prog X.w) X.A X.env (λ_ _=>False) e s') hc xxe (hsh it) (hdnL _) T st2 f2 hg ht hb I2 np hx ha rd
  (λs' a' o' σ' H' I' ha' q' _=>hDq ⟨a',o',σ',H',I',ha',q'⟩)
 exact qEx hcl hga (hdnS _) hq loop (T.self _ 0 _ _ _ st2 loop)
def qHc(P:Program)(w:World)(ss:List Str)(o:Obj):Prop :=
 ∃(es:Array (Int×Value)) (ep:Nat) (t:SetTable),o=sOb es ep t/\ElemsOf (PySem.strKind P w) es.toList/\StrsAre (es.toList.map (·.2)) ss/\es.size<scanBound/\t.fits es.size=true/\t.led=!w.params.followText "set-order"/\(es.size≠0->t.plain=false)
theorem qHc.set(x:qHc P w ss o)(e:h.get? a=some o):qBp P w h a ss:=by
 obtain⟨es,ep,t,rfl,r⟩:=x;exact⟨es,ep,t,e,r⟩
theorem qBp.obj(x:qBp P w h a ss):∃o,h.get? a=some o/\qHc P w ss o:=by
 obtain⟨es,ep,t,e,r⟩:=x;exact⟨_,e,es,ep,t,rfl,r⟩
theorem qHc.nocell(x:qHc P w ss o):∀v,o.data≠.cell v:=by
 obtain⟨es,ep,t,rfl,_⟩:=x;intro v z;cases z
def qQm(elt:Expr)(acc:Addr)(env:Env):Sem Unit:=do
 let v ← eval elt env
 standAt elt.pos
 let _ ← call (.builtin "set.add") [.ref acc,v]
def zEj(te:TE):TB (List Str):=λss σ H Q=>te σ H λv H'=>∃x:Str,v = .str x/\ss.length<1000/\∀ss',(if x∈ss then ss'=ss else ss'.Perm (ss++[x]))->Q ss' σ H'
theorem qXs(xxe:X.xe=λ_ _=>False)(he:PE X elt te):PBd X (qHc X.prog X.w) acc (qQm elt acc X.env) (zEj te):=by
 intro aB s σ H a o Q I np hx ha h;have h0:=he _ s σ H _ I h;rw[xxe]at h0;unfold qQm;refine hDo (thn h0 λv s1 ⟨y,H1,I1,r1,x,ex,hl,q⟩=>hDo (hE3 (hDo ?_)));subst ex;obtain⟨tk,rfl⟩:=r1;have pa:=I1.pin (acc,o) (hAb _ hA6);have hS:qBp X.prog X.w s1.heap acc a:=ha.set pa.1;have hT:s1.TypeIs (.ref acc) "set":=by
  obtain⟨es,ep,t,ho,_⟩:=hS;exact⟨_,ho,rfl⟩
 refine hDx PySem.F.slot_set_add hT PySem.F.entry_set_add ?_ (PySem.F.args_set_add_2 _ _);unfold Builtin.«set.add» Builtin.Frozenset.oneOther;simp only[List.isEmpty_nil,bind_assoc];unfold Builtin.Frozenset.addrOf setAdd;refine hDo (hDq ?_);try dsimp only
 refine hDo (hDq ?_);try dsimp only
 refine hDo (hDv (hDo ((PySem.strKind X.prog X.w).pyHash (strKind_is X.prog X.w x tk) ?_)));refine qMp (s:={ s1 with toks:=s1.toks+1 }) hS (by have:scanBound=4096:=rfl;omega) λh2 ss2 sb2 hS2 q2=>?_
 show wpAny _ _ (ret Value.none) _ _ _;refine hDq ⟨_,rfl,hDq ?_⟩;obtain⟨o2,e2,ho2⟩:=hS2.obj;exact⟨ss2,o2,σ,H1,I1.repin (t':=s1.toks+1) (λb u hb e=>(sb2.2 b hb).trans e) e2 ho2.nocell hx np,ho2,q ss2 q2⟩
structure GC(P:Program)(w:World){AS:Type}(e target iter:Expr)(ifs:List Expr)(scope:Scope)(tpos:Pos)(newAcc:Sem Value)(body:Addr->Env->Sem Unit)(o0:Obj)(a0:AS)(AO:AS->Obj->Prop)(HOf:Addr->AS->HO):Prop where
 new:∀(A:Around) (s:Shared) (Q:Value->Shared->Prop) (E:Value->Shared->Prop),Q (.ref s.heap.objs.size) { s with heap:=s.heap.push o0 }->wpAny (model P w) A newAcc Q E s
 nf:o0.isFreed=false
 nc:∀a o,AO a o->∀v,o.data≠.cell v
 hA0:AO a0 o0
 hHO:∀(H':Hp) (h:Heap) (acc:Addr) (a:AS) (o:Obj),sysModules<acc->AO a o->h.get? acc=some o->qB3 P w H' h acc (HOf acc a)
 cl:∃gs,clausesOf e=⟨target,iter,ifs,0⟩ :: gs
 dnS:∀(it acc:Value) (env:Env) (A:Around) (Q:PySem.Fin->Shared->Prop) (E:Value->Shared->Prop) (s:Shared),wpAny (model P w) A ((compStart e 0 it acc env).onRaise (λx=>do noteFrame x env;standAt theWindowsPlace)) Q E s->wpAny (model P w) (A.under (.compStart e 0 it acc env)) ((model P w).den (.compStart e 0 it acc env)) Q E s
 dnL:∀(it acc:Value) (env:Env) (A:Around) (Q:PySem.Fin->Shared->Prop) (E:Value->Shared->Prop) (s:Shared),wpAny (model P w) A ((compTurn e 0 it acc env).onRaise (λx=>do noteFrame x env;theTreesLotGoes x)) Q E s->wpAny (model P w) (A.under (.compLoop e 0 it acc env)) ((model P w).den (.compLoop e 0 it acc env)) Q E s
 q:∀it acc env,(Code.compLoop e 0 it acc env).quiet=true
 sh:∀(it acc:Addr) (env:Env),compTurn e 0 (.ref it) (.ref acc) env=qCv tpos (.ref it) target env ifs (body acc env) (again (.compLoop e 0 (.ref it) (.ref acc) env))
def qZ1{AS:Type}(sub:List (Option Nat))(wi:TI)(g:TG)(tt:TT)(tb:TB AS)(a0:AS)(HOf:Addr->AS->HO):TE:=λσ H Q=>wi σ H λJ H1 =>
 qHy J g tt tb (λa _ H'=>∀r,H' r=none->Q (.ref r) (upd H' r (HOf r a))) a0 (subσ sub σ) H1
section
variable{X:Cx}{AS:Type}{e target iter:Expr}{ifs:List Expr}{scope sc:Scope}{pos tpos cpos:Pos}{N N':List Str}{sub:List (Option Nat)}{wi:TI}{g:TG}{tt:TT}{tb:TB AS}{newAcc:Sem Value}{body:Addr->Env->Sem Unit}{o0:Obj}{a0:AS}{AO:AS->Obj->Prop}{HOf:Addr->AS->HO}
theorem zE4(GG:GC X.prog X.w e target iter ifs scope tpos newAcc body o0 a0 AO HOf)(hev:eval e X.env=comprehension e scope X.env cpos newAcc false (eval iter X.env))(hN:X.N=N)(hsc:X.env.scope=sc)(O:CmpOk N sc N' scope sub)(hc:X.calm=true)(hi:PI X target iter wi)
  (B:∀C s H fp,PG (qBc X scope N' C s H fp) target g/\PTs (qBc X scope N' C s H fp) ifs tt/\∀acc,PBd (qBc X scope N' C s H fp) AO acc (body acc (qBc X scope N' C s H fp).env) tb)
  (hs:∀x,foldedSetIterable iter X.env x=pure x:=by intro _;rfl):PE X e (qZ1 sub wi g tt tb a0 HOf):=by
 subst hN hsc;intro aB s σ H Q I h;rw[hev];obtain⟨gs,hcl⟩:=GG.cl;refine hE4 (use:=none) hcl hs (qG5 I O) O.kind (qEp O) (thn (hi aB s σ H _ I h) λv s1 h1=>thn h1 λitv s2 h2=>?_);obtain⟨it,fp,tn,J,H2,e,I2,T,st2,f2,rd⟩:=h2;subst e;refine zB0 (RR:=λacc C=>compPost (model X.prog X.w) X.A X.xe none (EP X aB σ Q) acc C) GG.new GG.nf GG.nc GG.hA0 GG.hHO (by rw[hcl];rfl) rfl GG.dnS GG.dnL GG.q GG.sh hc I2 O T st2 f2 B rd λacc C a H' s' I' fC hn na q=>?_
 obtain⟨m,hn⟩:=hn;obtain⟨f0,f1,f3,f4,f5,f6⟩:=fC;refine⟨m,hn,λh' sb=>?_⟩;exact⟨.ref acc,upd H' acc (HOf acc a),I'.turned (t':=s'.toks) (it:=C) (λb o hb e=>(sb.2 b hb).trans e) f0 f1 f4 f5 f6,rfl,q acc na⟩
theorem zE3(GG:GC X.prog X.w e target iter ifs scope tpos newAcc body o0 a0 AO HOf)
  (hev:∀use,evalThenUse e X.env use=(do let _ ← comprehension e scope X.env cpos newAcc false (eval iter X.env) (some use))) (hN:X.N=N) (hsc:X.env.scope=sc) (O:CmpOk N sc N' scope sub) (hc:X.calm=true) (hi:PI X target iter wi)
  (B:∀C s H fp,PG (qBc X scope N' C s H fp) target g/\PTs (qBc X scope N' C s H fp) ifs tt/\∀acc,PBd (qBc X scope N' C s H fp) AO acc (body acc (qBc X scope N' C s H fp).env) tb)
  (nd:X.N.Nodup) (hy:X.N[i]?=some y) (hx:Loc X.env.scope y) (hsw:swapsWith e (some (.Name y py)) spos.line X.env=pure true:=by rfl)
  (hs:∀x,foldedSetIterable iter X.env x=pure x:=by intro _;rfl) (hf:X.fn y=true\/X.env.scope.names.lookup y=some .local:=by first|exact .inl rfl|exact .inr rfl|assumption):PS X (.Assign [.Name y py] e spos) (qZh (qZ1 sub wi g tt tb a0 HOf) (qFu i)):=by
 subst hN hsc;intro aB s σ H D I h;rw[exec_Assign_Name_used _ _ _ _ hsw,hev];obtain⟨gs,hcl⟩:=GG.cl;refine hDo (hE3 (hDo ?_));refine hDo (hDz (hE4 (use:=some (assign (.Name y py) X.env)) (Q:=λ_ s'=>SP X aB D .next s') hcl hs (qG5 I O) O.kind (qEp O) (thn (hi aB s σ H _ I h) λv s1 h1=>thn h1 λitv s2 h2=>?_)) (λ_ s' hq=>hDq (hDq hq)) λ_ _ e=>e);obtain⟨it,fp,tn,J,H2,e,I2,T,st2,f2,rd⟩:=h2;subst e;refine zB0 (RR:=λacc C=>compPost (model X.prog X.w) X.A X.xe (some (assign (.Name y py) X.env)) (λ_ s'=>SP X aB D .next s') acc C) GG.new GG.nf GG.nc GG.hA0 GG.hHO (by rw[hcl];rfl) rfl GG.dnS GG.dnL GG.q GG.sh hc I2 O T st2 f2 B rd λacc C a H' s' I' fC hn na q=>?_
 obtain⟨m,hn⟩:=hn;obtain⟨f0,f1,f3,f4,f5,f6⟩:=fC;show wpAny _ _ (assign (.Name y py) X.env (.ref acc)) _ _ s';refine wpAny_assign_Name (qF3 (v:=.ref acc) I' nd hy hx rfl (λs'' I'' ⟨b,sb,ha⟩=>?_) hf);have nCa:C≠b:=by
  rcases ha with z|z
  ·rw[z];exact f1
  ·exact λe=>f5 _ _ z e.symm
 refine⟨m,hn.sameBut sb nCa,λh' sb'=>?_⟩;exact⟨_,upd H' acc (HOf acc a),I''.turned (t':=s''.toks) (it:=C) (λb o hb e=>(sb'.2 b hb).trans e) f0 f1 f4 f5 f6,q acc na⟩
end
section
variable{P:Program}{w:World}{target iter target2 iter2 elt kx vx:Expr}{ifs ifs2:List Expr}{scope:Scope}{pos:Pos}
theorem qY0:GC P w (.SetComp elt [⟨target,iter,ifs,0⟩,⟨target2,iter2,ifs2,0⟩] scope pos) target iter ifs scope iter.pos (newSet (.type "set")) (qFy (.SetComp elt [⟨target,iter,ifs,0⟩,⟨target2,iter2,ifs2,0⟩] scope pos) iter2) (qOl w) ([]:List Str) (qHc P w) (zCv P w) where
 new:=λA s Q E h=>by
  unfold newSet setsByText;refine hDo (hDo (hE7 (hDq ?_)));dsimp only;simp only[newObj];exact hDo (wpAny_alloc (hDq h))
 nf:=rfl
 nc:=λa o h=>h.nocell
 hA0:=by
  obtain⟨o,e,r⟩:=(qQl P w (h:=(({}:Heap).push (qOl w))) (a:=({}:Heap).objs.size) (Heap.get?_push_size _ rfl)).obj;rw[Heap.get?_push_size _ rfl]at e;cases e;exact r
 hHO:=λH' h acc a o _ x e=>⟨x.set e,⟨o,e⟩,λh1 h2 z k=>z.at k⟩
 cl:=⟨_,rfl⟩
 dnS:=λ_ _ _ _ _ _ _ h=>h
 dnL:=λ_ _ _ _ _ _ _ h=>h
 q:=λ_ _ _=>rfl
 sh:=λit acc env=>by
  unfold qCv qFy;simp only[bind_assoc];rfl
end
def DOb(P:Program)(w:World)(kvs:List (Key×V))(o:Obj):Prop :=
 kvs.length<=sizeLine/\∃(vs:List (Key×Value)) (es:Array DictEntry) (ep:Nat),KV kvs vs/\o.ExactDict/\o.data = .dict es ep/\KeysOf (qBu P w) es/\Pairs (qBu P w) es.toList vs/\(vs.map (·.1)).Nodup
def qJa(kx vx:Expr)(acc:Addr)(env:Env):Sem Unit:=do
 let kv ← eval kx env
 let vv ← holding [kv] (eval vx env)
 standAt { kx.pos with endLine:=vx.pos.endLine,endCol:=vx.pos.endCol }
 holding [kv,vv] (dictSet acc kv vv)
def zC2(tk tv:TE):TB (List (Key×V)):=λkvs σ H Q=>tk σ H λx H1=>tv σ H1 λy H2=>∃k:Key,x=kV k/\kvs.length<sizeLine/\Q (qZm kvs k y) σ H2
theorem qTw(xxe:X.xe=λ_ _=>False)(hk:PE X kx tk)(hv:PE X vx tv):PBd X (DOb X.prog X.w) acc (qJa kx vx acc X.env) (zC2 tk tv):=by
 intro aB s σ H a o Q I np hx ha h;have h0:=hk _ s σ H _ I h;rw[xxe]at h0;unfold qJa;refine hDo (thn h0 λu s1 ⟨x,H1,I1,r1,q1⟩=>hDo (hDv ?_));have h2:=hv _ s1 σ H1 _ I1 q1;rw[xxe]at h2;refine thn h2 λr s2 ⟨y,H2,I2,r2,k,ex,hl,q⟩=>hDo (hE3 (hDv ?_))
 subst ex;obtain⟨hz,vs,es,ep,kv,d1,d2,d3,d4,d5⟩:=ha;have pa:=I2.pin (acc,o) (hAb _ hA6);have hlen:=kv.length;refine wpAny_dictSet_pairs (hsz:=by omega) (qYs r1) (show s2.heap.DictOf (qBu X.prog X.w) acc vs from ⟨o,es,ep,pa.1,d1,d2,d3,d4,d5⟩) λh3 dd sb=>?_
 obtain⟨o3,es3,ep3,e1,e2,e3,e4,e5,e6⟩:=dd;have hl3:=qL7 a k y;exact⟨qZm a k y,o3,σ,H2,I2.repin (t':=s2.toks+1) (λb u hb e=>(sb.2 b hb).trans e) e1 (λv z=>by rw[e3]at z;cases z) hx np,⟨by omega,_,es3,ep3,kv.put k r2,e2,e3,e4,e5,e6⟩,q⟩
theorem qY1 :
  GC P w (.DictComp kx vx [⟨target,iter,ifs,0⟩] scope pos) target iter ifs scope iter.pos (newDict) (qJa kx vx) { cls:=.type "dict",data:=.dict #[] } ([]:List (Key×V)) (DOb P w) (λ_ kvs=>.dK kvs) where
 new:=λA s Q E h=>hDw h (by size_fits)
 nf:=rfl
 nc:=λa o h v z=>by
  obtain⟨_,vs,es,ep,_,_,e,_⟩:=h;rw[e]at z;cases z
 hA0:=⟨hAq _,[],#[],0,.nil,⟨rfl,rfl,rfl⟩,rfl,λe he=>by simp at he,.nil,hDg⟩
 hHO:=λH' h acc a o hb x e=>by
  obtain⟨hz,vs,es,ep,kv,d1,d2,d3,d4,d5⟩:=x;exact zCa hz (beq_eq_false_iff_ne.mpr (hCw hb)) kv ⟨o,es,ep,e,d1,d2,d3,d4,d5⟩
 cl:=⟨_,rfl⟩
 dnS:=λ_ _ _ _ _ _ _ h=>h
 dnL:=λ_ _ _ _ _ _ _ h=>h
 q:=λ_ _ _=>rfl
 sh:=λ_ _ _=>rfl
end L2
namespace L2
open PySem PySem.Spec PyProof.Rows PySem.W
abbrev Rng(n:Nat):Array Nat:=List.toArray (List.range n)
def Gd(n:Nat)(p:Array Nat):Prop:=p.Perm (Rng n)
theorem Gd.lt(h:Gd n p)(h0:0<n)(i:Nat):p.getD i 0<n:=by
 by_cases hi:i<p.size
 ·have e:p.getD i 0=p[i]:=by simp[Array.getD,hi]
  rw[e];have m:p[i]∈p.toList:=by simp
  have m2:=(hBy.mp h).mem_iff.mp m
  simpa using m2
 ·have e:p.getD i 0=0:=by simp[Array.getD,hi]
  rw[e];exact h0
theorem Gd.rev(h:Gd n p)(i j:Nat):Gd n (kas_rev p i j):=(mirror_perm _ _ _ _).trans h
theorem Gd.bub(h:Gd n p)(i j:Nat):Gd n (bubble p i j):=(bubble_perm _ _ _).trans h
section
variable{n:Nat}{cmp:Nat->Nat->(Bool->Shared->Prop)->Shared->Prop}{s:Shared}(hask:∀i j C,i<n->j<n->(∀b,C b s)->cmp i j C s)(h0:0<n)
include hask h0
end
def zCs(h:Heap)(v:Value)(t:List Str):Prop:=∃a its,v = .ref a/\IsTup h a its/\StrsAre its.toList t/\t≠[]
section
variable{P:Program}{w:World}{A:Around}{E:Value->Shared->Prop}{s:Shared}
theorem qF2(k:∀b o,b≠a->h.get? b=some o->h'.get? b=some o):∀ {vs:List Value} {ts:List (List Str)},Paired (zCs h) vs ts->(∀v∈vs,v≠.ref a)->∃fs:List Value,KatTups h' vs fs/\fs.length=vs.length/\∀f∈fs,∃x t,f=Value.str x t
 |_,_,.nil,_=>⟨[],trivial,rfl,λf hf=>by cases hf⟩
 |_,_,@Paired.cons _ _ _ v t l1 l2 hh tt,hn=>by
  obtain⟨fs,q1,q2,q3⟩:=qF2 k tt λu hu=>hn u (hA4 _ hu)
  obtain⟨b,its,rfl,⟨o,g,c,n,d⟩,st,ne⟩:=hh;have nb:b≠a:=λz=>hn _ hA6 (by rw[z])
  cases t with
  |nil=>exact absurd rfl ne
  |cons x r =>
   have e:=st.strs;cases hi:its.toList with
   |nil=>rw[hi]at e;cases e
   |cons f fr =>
    have hf:its[0]?=some f:=by rw[<-hBj,hi];rfl
    refine⟨f :: fs,.cons (k b o nb g) c d hf q1,by simp[q2],λg' hg'=>?_⟩;rcases hA8.mp hg' with z|z
    ·subst z;exact st.all _ (by rw[hi];exact hA6)
    ·exact q3 g' z
end
section
variable{X:Cx}
theorem qLs:∀ {as:List Addr} {us:List Value},qBh (as.map V.ref) us->us=as.map Value.ref
 |[],_,r=>by cases r;rfl
 |a :: as,_,r=>by
  cases r with
  |cons h t=>cases h;rw[qLs t];rfl
theorem qF0:∀as:List Addr,qBh (as.map V.ref) (as.map Value.ref)
 |[]=>.nil
 |a :: as=>.cons rfl (qF0 as)
theorem qPv(I:Inv X aB σ H s)(k:∀b o,s.heap.get? b=some o->h'.get? b=some o):∀ {as:List Addr} {ts:List (List Str)},Paired (λa t=>SqT X.K H a (t.map V.str)/\t≠[]) as ts->Paired (zCs h') (as.map Value.ref) ts
 |_,_,.nil=>.nil
 |_,_,.cons h t=>by
  obtain⟨h1,h2⟩:=h;obtain⟨its,rv,⟨o,g,c,n,d⟩,_⟩:=I.tuple h1;exact .cons ⟨_,its.toArray,rfl,⟨o,k _ _ g,c,n,d⟩,by simpa using qCo rv,h2⟩ (qPv I k t)
theorem qPw(I:Inv X aB σ H s):∀ {as:List Addr} {ts:List (List Str)},Paired (λa t=>SqT X.K H a (t.map V.str)/\t≠[]) as ts->∀b∈as,b<s.heap.objs.size
 |_,_,.nil,b,hb=>by cases hb
 |_,_,.cons h t,b,hb=>by
  rcases hA8.mp hb with z|z
  ·subst z;obtain⟨its,rv,⟨o,g,_⟩,_⟩:=I.tuple h.1;exact Heap.lt_size g
  ·exact qPw I t b z
end
section
variable{AS:Type}{g:TG}{tt:TT}{tb:TB AS}{Q:AS->St->Hp->Prop}{a0:AS}{σ0:St}{H0:Hp}
def NxG(n i:Nat)(Pv:Nat->AS->St->Hp->Prop)(a:AS)(σ:St)(H:Hp):Prop:=∃m',m'<n-i/\m'=n-(i+1)/\i+1<=n/\Pv (i+1) a σ H
theorem nxg(hi:i<n)(h:Pv (i+1) a σ H):NxG n i Pv a σ H:=⟨_,by omega,rfl,hi,h⟩
theorem qV4{K:PySem.W.Frag}{p:Addr}{xs:List V}(Pv:Nat->AS->St->Hp->Prop)(h0:Pv 0 a0 σ0 H0)(hl:∀i a σ H,i<=xs.length->Pv i a σ H->SqL K H p xs)
  (hs:∀i x a σ H,xs[i]?=some x->Pv i a σ H->g x σ H λσ2 H2=>tt σ2 H2 λb H3=>if b=true then tb a σ2 H3 (NxG xs.length i Pv) else NxG xs.length i Pv a σ2 H3)
  (hd:∀a σ H,Pv xs.length a σ H->Q a σ H):qHy (Itl K p) g tt tb Q a0 σ0 H0:=by
 refine⟨λi m a σ H=>m=xs.length-i/\i<=xs.length/\Pv i a σ H,⟨xs.length,by simp,hAq _,h0⟩,?_⟩;rintro i m a σ H ⟨rfl,hi,pv⟩;have q:=hl i a σ H hi pv;by_cases hlt:i<xs.length
 ·refine .inr ⟨⟨xs,xs[i],q,by simp[hlt]⟩,λx H' y=>?_⟩;obtain⟨e,y⟩:=y;subst e;exact hs i x a σ _ (y xs q) pv
 ·have e:i=xs.length:=by omega
  subst e;exact .inl ⟨⟨xs,q,hA3 _⟩,hd a σ H pv⟩
theorem qY2{K:PySem.W.Frag}{p:Addr}{xs:List V}(Pv:Nat->AS->St->Hp->Prop)(h0:Pv 0 a0 σ0 H0)(hl:∀i a σ H,i<=xs.length->Pv i a σ H->SqT K H p xs)
  (hs:∀i x a σ H,xs[i]?=some x->Pv i a σ H->g x σ H λσ2 H2=>tt σ2 H2 λb H3=>if b=true then tb a σ2 H3 (NxG xs.length i Pv) else NxG xs.length i Pv a σ2 H3)
  (hd:∀a σ H,Pv xs.length a σ H->Q a σ H):qHy (Itt K p) g tt tb Q a0 σ0 H0:=by
 refine⟨λi m a σ H=>m=xs.length-i/\i<=xs.length/\Pv i a σ H,⟨xs.length,by simp,hAq _,h0⟩,?_⟩;rintro i m a σ H ⟨rfl,hi,pv⟩;have q:=hl i a σ H hi pv;by_cases hlt:i<xs.length
 ·refine .inr ⟨⟨xs,xs[i],q,by simp[hlt]⟩,λx H' y=>?_⟩;obtain⟨e,y⟩:=y;subst e;exact hs i x a σ _ (y xs q) pv
 ·have e:i=xs.length:=by omega
  subst e;exact .inl ⟨⟨xs,q,hA3 _⟩,hd a σ H pv⟩
end
section
variable{X:Cx}
theorem qKr:qB2 X (.type "range") (λxs H Q=>∃j:Int,xs=[.int j]/\0<=j/\j<=1000/\∀r,H r=none->Q (.ref r) (upd H r (.rng 0 j))):=by
 intro aB s σ H xs us Q I r h;obtain⟨j,rfl,h0,h1,q⟩:=h;obtain⟨u,rfl,t,rfl⟩:=qCw r;refine call_range_1 ?_;exact⟨.ref s.heap.objs.size,_,I.laid (a:=s.heap.objs.size) (o:=.rng 0 j) (λb o e=>Heap.get?_push_of_some _ e) (hA3 _) ⟨_,_,_,Heap.get?_push_size _ rfl⟩,rfl,q _ (I.hok.fresh (hA3 _))⟩
theorem qKc:∀ {its:List Value} {n:Nat} (k:Nat),its.length=n->(∀i v,its[i]?=some v->∃t,v=Value.int ((k+i:Nat):Int) t)->qBh ((List.range' k n).map λ(i:Nat)=>V.int (i:Int)) its
 |[],n,k,hl,_=>by
  have e:n=0:=hl.symm;subst e;exact .nil
 |v :: r,n,k,hl,h=>by
  obtain⟨m,rfl⟩:∃m,n=m+1:=⟨n-1,by simp at hl;omega⟩;rw[List.range'_succ,hAv];refine .cons ?_ (qKc (k+1) (by simpa using hl) λi v hv=>?_)
  ·obtain⟨t,e⟩:=h 0 v rfl;exact⟨t,by rw[e,Nat.add_zero]⟩
  ·obtain⟨t,e⟩:=h (i+1) v (by simpa using hv);exact⟨t,by rw[e,show k+(i+1)=k+1+i by omega]⟩
theorem qJe(hc:X.calm=true):qB2 X (.type "list") (λxs H Q=>∃(r:Addr) (j:Int),xs=[.ref r]/\H r=some (.rng 0 j)/\0<=j/\j<=1000/\∀l,H l=none->Q (.ref l) (upd H l (.lst ((List.range j.toNat).map λ(i:Nat)=>V.int (i:Int))))):=by
 intro aB s σ H xs us Q I r h;obtain⟨p,j,rfl,hp,h0,h1,q⟩:=h;obtain⟨u,rfl,rx⟩:=qCw r;cases rx;obtain⟨t,u,v,e⟩:=I.hok p _ hp;refine call_list_range (n:=j.toNat) (a:=0) (b:=j) (c:=1) (I.ok.hd hc) e (small_one (by decide) (by decide) (by omega) (by omega)) (by rw[rangeSize_one];split <;> omega) (by omega) λh' tk acc' c' hk hS hacc=>?_
 refine⟨.ref s.heap.objs.size,_,I.laid (t':=tk) (a:=s.heap.objs.size) (o:=.lst ((List.range j.toNat).map λ(i:Nat)=>V.int (i:Int))) (λb o e=>hk b o e) (hA3 _) ⟨?_,acc'.toList,c',?_,by rw[Array.toArray_toList];exact hS⟩,rfl,q _ (I.hok.fresh (hA3 _))⟩
 ·rw[hA1,hBi];exact hAz (qAf (by omega))
 ·rw[List.range_eq_range'];refine qKc 0 (by rw[hBo];exact hacc.1) λi v hv=>?_
  obtain⟨t,e⟩:=hacc.2 i v (by rw[<-hBj];exact hv);exact⟨t,by rw[e];congr 1;omega⟩
end
structure Ordr(lt:Nat->Nat->Bool):Prop where
 asym:∀a b,lt a b=true->lt b a=false
 tr:∀a b c,lt b a=false->lt c b=false->lt c a=false
theorem Ordr.irr(o:Ordr lt)(a:Nat):lt a a=false:=by
 cases h:lt a a with
 |false=>rfl
 |true=>exact(o.asym a a h).symm.trans h▸rfl
def SPk(lt:Nat->Nat->Bool)(p:Array Nat)(k:Nat):Prop:=∀i j,i<j->j<k->lt (p.getD j 0) (p.getD i 0)=false
def DPk(lt:Nat->Nat->Bool)(p:Array Nat)(k:Nat):Prop:=∀i j,i<j->j<k->lt (p.getD i 0) (p.getD j 0)=false
def ERk(lt:Nat->Nat->Bool)(p:Array Nat)(a b:Nat):Prop:=∀i j,a<=i->i<b->a<=j->j<b->lt (p.getD i 0) (p.getD j 0)=false
theorem Gd.size(h:Gd n p):p.size=n:=by
 have:=Array.Perm.size_eq h
 simpa using this
theorem qHt(hj:j<=p.size)(k:Nat):(kas_rev p i j).getD k 0=if i<=k/\k<j then p.getD (i+j-1-k) 0 else p.getD k 0:=by
 unfold kas_rev;rw[hBu,getElem?_mirror_all hj];split <;> rw[<-hBu]
theorem qWh(hk:k<p.size)(hl:l<=k)(i:Nat):(bubble p k (k-l)).getD i 0=if i=l then p.getD k 0 else if l<i/\i<=k then p.getD (i-1) 0 else p.getD i 0:=by
 rw[hBu,getElem?_bubble hk _ (by omega)];have e:k-(k-l)=l:=by omega
 rw[e];by_cases e1:i=l
 ·rw[hDu e1,hDu e1,<-hBu]
 ·rw[hDt e1,hDt e1];by_cases e2:l<i/\i<=k
  ·rw[hDu e2,hDu e2,<-hBu]
  ·rw[hDt e2,hDt e2,<-hBu]
section
variable{lt:Nat->Nat->Bool}(o:Ordr lt)
include o
theorem SPk.snoc(h:SPk lt p k)(h1:1<=k)(hk:lt (p.getD k 0) (p.getD (k-1) 0)=false):SPk lt p (k+1):=λi j hij hj=>by
 by_cases e:j=k
 ·subst e;by_cases e2:i=j-1
  ·subst e2;exact hk
  ·exact o.tr _ _ _ (h i (j-1) (by omega) (by omega)) hk
 ·exact h i j hij (by omega)
theorem DPk.snoc(h:DPk lt p k)(h1:1<=k)(hk:lt (p.getD (k-1) 0) (p.getD k 0)=false):DPk lt p (k+1):=λi j hij hj=>by
 by_cases e:j=k
 ·subst e;by_cases e2:i=j-1
  ·subst e2;exact hk
  ·exact o.tr _ _ _ hk (h i (j-1) (by omega) (by omega))
 ·exact h i j hij (by omega)
omit o in
theorem DPk.rev(h:DPk lt p k)(hb:b<=p.size)(hbk:b<=k)(e:ERk lt p a b):DPk lt (kas_rev p a b) k:=λi j hij hj=>by
 rw[qHt hb,qHt hb];split
 ·split
  ·exact e _ _ (by omega) (by omega) (by omega) (by omega)
  ·exact h _ _ (by omega) (by omega)
 ·split
  ·exact h _ _ (by omega) (by omega)
  ·exact h _ _ (by omega) (by omega)
omit o in
theorem DPk.turn(h:DPk lt p k)(hk:k<=p.size):SPk lt (kas_rev p 0 k) k:=λi j hij hj=>by
 rw[qHt hk,qHt hk,hDu (by omega),hDu (by omega)];exact h _ _ (by omega) (by omega)
variable{n:Nat}{cmp:Nat->Nat->(Bool->Shared->Prop)->Shared->Prop}{s:Shared}(hask:∀i j C,i<n->j<n->C (lt i j) s->cmp i j C s)(h0:0<n)
include hask h0
theorem qQg(g:Gd n p)(N:Nat)(hq:∀m,SPk lt p m->1<=m->m<=N->(m<N->lt (p.getD m 0) (p.getD (m-1) 0)=true)->Q m s):∀f m,1<=m->m+f=N->SPk lt p m->(kas_asc p f m).kasWp cmp Q s
 |0,m,h1,hN,sp=>hq m sp h1 (by omega) (λz=>by omega)
 |f+1,m,h1,hN,sp=>by
  refine hask _ _ _ (g.lt h0 _) (g.lt h0 _) ?_;dsimp only;split
  ·rename_i c;exact hq m sp h1 (by omega) λ_=>c
  ·rename_i c;exact qQg g N hq f (m+1) (by omega) (by omega) (sp.snoc o h1 (by simpa using c))
theorem qIh(N:Nat)(hN:N<=n)(hq:∀p m q,Gd n p->1<=m->q+1<=m->m<=N->DPk lt p m->ERk lt p (m-(q+1)) m->Q (p,m,q) s):∀f p m q,Gd n p->1<=m->q+1<=m->m+f=N->DPk lt p m->ERk lt p (m-(q+1)) m->(kas_desc f p m q).kasWp cmp Q s
 |0,p,m,q,g,h1,h2,h3,dp,er=>hq p m q g h1 h2 (by omega) dp er
 |f+1,p,m,q,g,h1,h2,h3,dp,er=>by
  have sz:=g.size;refine hask _ _ _ (g.lt h0 _) (g.lt h0 _) ?_;dsimp only;split
  ·rename_i c;have dp':=dp.snoc o h1 (o.asym _ _ c);have one:∀p':Array Nat,ERk lt p' (m+1-(0+1)) (m+1):=λp' i j hi hi' hj hj'=>by
    have e1:i=m:=by omega
    have e2:j=m:=by omega
    subst e1 e2;exact o.irr _
   split
   ·exact qIh N hN hq f _ (m+1) 0 (g.rev _ _) (by omega) (by omega) (by omega) (dp'.rev (by omega) (by omega) er) (one _)
   ·exact qIh N hN hq f p (m+1) 0 g (by omega) (by omega) (by omega) dp' (one _)
  ·rename_i c;refine hask _ _ _ (g.lt h0 _) (g.lt h0 _) ?_;dsimp only;split
   ·exact hq p m q g h1 h2 (by omega) dp er
   ·rename_i d;have c':lt (p.getD m 0) (p.getD (m-1) 0)=false:=by simpa using c
    have d':lt (p.getD (m-1) 0) (p.getD m 0)=false:=by simpa using d
    refine qIh N hN hq f p (m+1) (q+1) g (by omega) (by omega) (by omega) (dp.snoc o h1 d') λi j hi hi' hj hj'=>?_
    by_cases ei:i=m
    ·subst ei;by_cases ej:j=i
     ·subst ej;exact o.irr _
     ·exact o.tr _ _ _ (er (i-1) j (by omega) (by omega) (by omega) (by omega)) c'
    ·by_cases ej:j=m
     ·subst ej;exact o.tr _ _ _ d' (er i (j-1) (by omega) (by omega) (by omega) (by omega))
     ·exact er i j (by omega) (by omega) (by omega) (by omega)
theorem qMz(g:Gd n p)(N:Nat)(hN:N<=n)(hq:∀m p,Gd n p->SPk lt p m->1<=m->m<=N->Q (m,p) s)(m:Nat)(h1:1<=m)(h2:m<=N)(dp:DPk lt p m):(kas_tail3 m N p).kasWp cmp Q s:=by
 unfold kas_tail3;rw[KasT.kasWp_bind];have sz:=g.size;exact qQg o hask h0 (g.rev _ _) N (λm' sp a b _=>hq m' _ (g.rev _ _) sp a b) _ _ h1 (by omega) (dp.turn (by omega))
theorem qF6(g:Gd n p)(N:Nat)(hN:N<=n)(hq:∀m p,Gd n p->SPk lt p m->1<=m->m<=N->Q (m,p) s)(m:Nat)(h2:m+1<=N)(dp:DPk lt p (m+1)):(kas_descPart m N p).kasWp cmp Q s:=by
 unfold kas_descPart;rw[KasT.kasWp_bind];refine qIh o hask h0 N hN (λp' m' q g' a b c dp' er=>?_) _ _ _ _ g (by omega) (by omega) (by omega) dp λi j hi hi' hj hj'=>?_
 ·have sz:=g'.size;dsimp only;split
  ·exact qMz o hask h0 (g'.rev _ _) N hN hq _ a c (dp'.rev (by omega) (hA3 _) er)
  ·exact qMz o hask h0 g' N hN hq _ a c dp'
 ·have e1:i=m:=by omega
  have e2:j=m:=by omega
  subst e1 e2;exact o.irr _
theorem qS8(g:Gd n p)(hq:∀m p,Gd n p->SPk lt p m->1<=m->m<=n->Q (m,p) s):(kas_count n p).kasWp cmp Q s:=by
 unfold kas_count;rw[KasT.kasWp_bind];have sz:=g.size;refine qQg o hask h0 g n (λm sp m1 mn st=>?_) _ _ (hA3 _) (by omega) (λi j hij hj=>by omega);split
 ·exact hq _ _ g sp m1 mn
 ·rename_i c;have c':m≠n:=by simpa using c
  have lt1:=st (by omega);have ge1:=o.asym _ _ lt1;split
  ·refine hask _ _ _ (g.lt h0 _) (g.lt h0 _) ?_;dsimp only;split
   ·exact hq _ _ g sp m1 mn
   ·rename_i d;have d':lt (p.getD 0 0) (p.getD (m-1) 0)=false:=by simpa using d
    have lo:∀i,i<m->lt (p.getD (m-1) 0) (p.getD i 0)=false:=λi hi=>by
     by_cases e:i=m-1
     ·subst e;exact o.irr _
     ·exact sp i (m-1) (by omega) (by omega)
    have hi0:∀j,j<m->lt (p.getD j 0) (p.getD 0 0)=false:=λj hj=>by
     by_cases e:j=0
     ·subst e;exact o.irr _
     ·exact sp 0 j (by omega) hj
    have er:ERk lt p 0 m:=λi j _ hi _ hj=>o.tr _ _ _ (o.tr _ _ _ (lo j hj) d') (hi0 i hi)
    refine qF6 o hask h0 (g.rev _ _) n (hA3 _) hq m (by omega) λi j hij hj=>?_
    rw[qHt (by omega),qHt (by omega)];by_cases ej:j=m
    ·subst ej;rw[hDu (by omega),hDt (by omega)];exact o.tr _ _ _ ge1 (er _ _ (by omega) (by omega) (by omega) (by omega))
    ·rw[hDu (by omega),hDu (by omega)];exact er _ _ (by omega) (by omega) (by omega) (by omega)
  ·have e:m=1:=by omega
   subst e;refine qF6 o hask h0 g n (hA3 _) hq 1 (by omega) λi j hij hj=>?_
   have e1:i=0:=by omega
   have e2:j=1:=by omega
   subst e1 e2;exact ge1
theorem qIg(g:Gd n p)(k:Nat)(sp:SPk lt p k)(hq:∀l,l<=k->(∀i,i<l->lt (p.getD k 0) (p.getD i 0)=false)->(∀i,l<=i->i<k->lt (p.getD i 0) (p.getD k 0)=false)->Q l s) :
  ∀f l r,l<=r->r<=k->r-l<=f->(∀i,i<l->lt (p.getD k 0) (p.getD i 0)=false)->(∀i,r<=i->i<k->lt (p.getD i 0) (p.getD k 0)=false)->(kas_place p k f l r).kasWp cmp Q s
 |0,l,r,h1,h2,h3,a,b=>hq l (by omega) a λi hi hk=>b i (by omega) hk
 |f+1,l,r,h1,h2,h3,a,b=>by
  unfold kas_place;split
  ·exact hq l (by omega) a λi hi hk=>b i (by omega) hk
  ·refine hask _ _ _ (g.lt h0 _) (g.lt h0 _) ?_;dsimp only;split
   ·rename_i c;have c':=o.asym _ _ c;refine qIg g k sp hq f l ((l+r) / 2) (by omega) (by omega) (by omega) a λi hi hk=>?_
    by_cases e:i=(l+r) / 2
    ·subst e;exact c'
    ·exact o.tr _ _ _ c' (sp _ _ (by omega) hk)
   ·rename_i c;have c':lt (p.getD k 0) (p.getD ((l+r) / 2) 0)=false:=by simpa using c
    refine qIg g k sp hq f ((l+r) / 2+1) r (by omega) h2 (by omega) (λi hi=>?_) b;by_cases e:i=(l+r) / 2
    ·subst e;exact c'
    ·exact o.tr _ _ _ (sp i ((l+r) / 2) (by omega) (by omega)) c'
theorem qVh(hq:∀p,Gd n p->SPk lt p n->Q p s):∀f p k,Gd n p->k+f=n->SPk lt p k->(kas_bin f p k).kasWp cmp Q s
 |0,p,k,g,h1,sp=>hq p g (by rw[<-h1];exact sp)
 |f+1,p,k,g,h1,sp=>by
  unfold kas_bin;rw[KasT.kasWp_bind];have sz:=g.size;refine qIg o hask h0 g k sp (λl hl a b=>qVh hq f _ _ (g.bub _ _) (by omega) λi j hij hj=>?_) k 0 k (by omega) (hA3 _) (by omega) (λi hi=>by omega) (λi hi hk=>by omega);rw[qWh (by omega) hl,qWh (by omega) hl];by_cases ej:j=l
  ·rw[hDu ej,hDt (by omega),hDt (by omega)];exact a i (by omega)
  ·rw[hDt ej];by_cases ej2:l<j/\j<=k
   ·rw[hDu ej2];by_cases ei:i=l
    ·rw[hDu ei];exact b (j-1) (by omega) (by omega)
    ·rw[hDt ei];split
     ·exact sp _ _ (by omega) (by omega)
     ·exact sp _ _ (by omega) (by omega)
   ·rw[hDt ej2,hDt (by omega),hDt (by omega)];exact sp _ _ hij (by omega)
theorem qQf(hq:∀p,Gd n p->SPk lt p n->Q p s):(kas_sort n).kasWp cmp Q s:=by
 unfold kas_sort;rw[KasT.kasWp_bind];refine qS8 o hask h0 (Array.Perm.refl _) (λm p g sp m1 mn=>?_);dsimp only;have e:max m 1=m:=by omega
 rw[e];split
 ·exact qVh o hask h0 hq _ _ _ g (by omega) sp
 ·have e2:m=n:=by omega
  subst e2;exact hq _ g sp
end
theorem txTri:∀a b:List Nat,a<b\/a=b\/b<a
 |[],[]=>.inr (.inl rfl)
 |[],_ :: _=>.inl (List.nil_lt_cons _ _)
 |_ :: _,[]=>.inr (.inr (List.nil_lt_cons _ _))
 |x :: a,y :: b=>by
  rcases Nat.lt_trichotomy x y with h|h|h
  ·exact .inl (hD8.mpr (.inl h))
  ·subst h;rcases txTri a b with h|h|h
   ·exact .inl (hD8.mpr (.inr ⟨rfl,h⟩))
   ·exact .inr (.inl (by rw[h]))
   ·exact .inr (.inr (hD8.mpr (.inr ⟨rfl,h⟩)))
  ·exact .inr (.inr (hD8.mpr (.inl h)))
theorem zCy{x y:Str}(h:x.cps.toList=y.cps.toList):x=y:=by
 cases x;cases y;simp only[Str.mk.injEq];exact hDi.mp h
def qLl(x y:Str):Bool:=decide (x.cps.toList<y.cps.toList)
theorem qDv(x:Str):qLl x x=false:=hDr (List.lt_irrefl _)
theorem qC4(h:qLl x y=true)(h':qLl y z=true):qLl x z=true:=hDp (List.lt_trans (hDs h) (hDs h'))
theorem qIl(x y:Str):qLl x y=true\/x=y\/qLl y x=true:=by
 rcases txTri x.cps.toList y.cps.toList with h|h|h
 ·exact .inl (hDp h)
 ·exact .inr (.inl (zCy h))
 ·exact .inr (.inr (hDp h))
def ltL:List Str->List Str->Bool
 |[],[]=>false
 |[],_ :: _=>true
 |_ :: _,[]=>false
 |x :: r,y :: t=>if x=y then ltL r t else qLl x y
theorem qRr:∀a:List Str,ltL a a=false
 |[]=>rfl
 |x :: r=>by unfold ltL;rw[hDu rfl];exact qRr r
theorem qIy:∀a b:List Str,ltL a b=true\/a=b\/ltL b a=true
 |[],[]=>.inr (.inl rfl)
 |[],_ :: _=>.inl rfl
 |_ :: _,[]=>.inr (.inr rfl)
 |x :: r,y :: t=>by
  unfold ltL;by_cases e:x=y
  ·subst e;rw[hDu rfl,hDu rfl];rcases qIy r t with h|h|h
   ·exact .inl h
   ·exact .inr (.inl (by rw[h]))
   ·exact .inr (.inr h)
  ·rw[hDt e,hDt (λz=>e z.symm)];rcases qIl x y with h|h|h
   ·exact .inl h
   ·exact absurd h e
   ·exact .inr (.inr h)
theorem qGu:∀a b c:List Str,ltL a b=true->ltL b c=true->ltL a c=true
 |[],_,[],h,h'=>by
  rename_i b;cases b with
  |nil=>exact h
  |cons _ _=>cases h'
 |[],_,_ :: _,_,_=>rfl
 |_ :: _,[],_,h,_=>by cases h
 |_ :: _,_ :: _,[],_,h'=>by cases h'
 |x :: r,y :: t,z :: u,h,h'=>by
  unfold ltL at h h' ⊢;by_cases e1:x=y
  ·subst e1;rw[hDu rfl]at h;by_cases e2:x=z
   ·subst e2;rw[hDu rfl]at h' ⊢;exact qGu r t u h h'
   ·rw[hDt e2]at h' ⊢;exact h'
  ·rw[hDt e1]at h;by_cases e2:y=z
   ·subst e2;rw[hDt e1];exact h
   ·rw[hDt e2]at h';have q:=qC4 h h';have e3:¬x=z:=λe=>by rw[e,qDv]at q;cases q
    rw[hDt e3];exact q
theorem qNo(a b:List Str)(h:ltL a b=true):ltL b a=false:=by
 cases q:ltL b a with
 |false=>rfl
 |true=>have:=qGu a b a h q;rw[qRr]at this;cases this
def ltI(ts:List (List Str))(i j:Nat):Bool:=ltL (ts.getD i []) (ts.getD j [])
theorem qRs(ts:List (List Str)):Ordr (ltI ts):=⟨λa b h=>qNo _ _ h,λa b c h h'=>by
 have h1:ltL (ts.getD b []) (ts.getD a [])=false:=h;have h2:ltL (ts.getD c []) (ts.getD b [])=false:=h';show ltL (ts.getD c []) (ts.getD a [])=false;rcases qIy (ts.getD a []) (ts.getD b []) with q|q|q
 ·rcases qIy (ts.getD b []) (ts.getD c []) with r|r|r
  ·exact qNo _ _ (qGu _ _ _ q r)
  ·rw[<-r];exact h1
  ·rw[h2]at r;cases r
 ·rw[q];exact h2
 ·rw[h1]at q;cases q⟩
theorem qD0(vs:List Value):(List.range vs.length).map (λi=>vs.getD i Value.none)=vs:=by
 refine hDb λi=>?_
 by_cases hi:i<vs.length
 ·rw[hAj,hDl hi,hA2 hi];show some (vs.getD i Value.none)=_;rw[hA5,hA2 hi];rfl
 ·rw[hBk (by simp;omega),hBk (by omega)]
theorem qJ9:∀ {vs us:List Value} {x y:List Str} (i:Nat),StrsAre vs x->StrsAre us y->Q (ltL x y) s->fin=decide (x.length<y.length)->KatLex P w A b fin Q (vs.zip us) i s
 |_,_,_,_,i,.nil,.nil,hQ,hf=>by rw[hf];exact hQ
 |_,_,_,_,i,.nil,.cons _ _ _,hQ,hf=>by rw[hf];exact hQ
 |_,_,_,_,i,.cons _ _ _,.nil,hQ,hf=>by rw[hf];exact hQ
 |_,_,_,_,i,.cons p t r,.cons q u r',hQ,hf=>by
  refine kat_cons (wpAny_eqBool_str (kat_go (λe=>kat_yes (qJ9 (i+1) r r' ?_ ?_)) λe=>kat_no ?_))
  ·have e':=hDs e;unfold ltL at hQ;rw[hDu e']at hQ;exact hQ
  ·rw[hf];simp
  ·have e':=hEp e;unfold ltL at hQ;rw[hDt e']at hQ;cases hb:(b && i == 0) with
   |true=>exact strKind_oneLt P w A _ s _ _ _ _ rfl rfl hQ
   |false=>exact kat_one _ _ (lt_str hQ)
section
variable{P:Program}{w:World}{A:Around}{E:Value->Shared->Prop}{s:Shared}
theorem qH9(k:∀b o,b≠a->h.get? b=some o->h'.get? b=some o):∀ {vs:List Value} {ts:List (List Str)} {i:Nat},Paired (zCs h) vs ts->(∀v∈vs,v≠.ref a)->i<vs.length->∃(b:Addr) (its:Array Value),IsTup h' b its/\vs.getD i Value.none = .ref b/\StrsAre its.toList (ts.getD i [])
 |_,_,i,.nil,_,hi=>absurd hi (hC0 _)
 |_,_,0,@Paired.cons _ _ _ v t l1 l2 hh tt,hn,_=>by
  obtain⟨b,its,rfl,⟨o,g,c,n,d⟩,st,ne⟩:=hh;have nb:b≠a:=λz=>hn _ hA6 (by rw[z])
  exact⟨b,its,⟨o,k b o nb g,c,n,d⟩,rfl,st⟩
 |_,_,i+1,@Paired.cons _ _ _ v t l1 l2 hh tt,hn,hi=>qH9 (i:=i) k tt (λu hu=>hn u (hA4 _ hu)) (by simpa using hi)
theorem qOg(ho:s.heap.get? a=some (seqObj "list" vs.toArray n))(ht:Paired (zCs s.heap) vs ts)(h64:vs.length<64)(hna:∀v∈vs,v≠.ref a)
  (h:∀(out:List Value) (p:Array Nat),out.Perm vs->Gd vs.length p->SPk (ltI ts) p vs.length->out=p.toList.map (λi=>vs.getD i Value.none)->R (.done (.ret .none)) { s with heap:=sortedHeap s.heap a vs out.toArray }):wpAny (model P w) A (Builtin.«list.sort» ⟨[.ref a],[]⟩) R E s:=by
 rw[list_sort_plain];have ha:a<s.heap.objs.size:=Heap.lt_size ho;refine hDo (listItems_at ho rfl (hDo (hEo ho rfl ?_ (by rw[hAf,hE6];omega) (hAq _))));obtain⟨e1,ho1⟩:∃e1,(s.heap.update a (Obj.mapSeq λ_=>#[])).get? a=some (seqObj "list" #[] e1):=⟨_,get?_update_seq ho (λ_=>#[])⟩;refine hDo (seqEpoch_at ho1 rfl (hDo (wpAny_newTuple ?_ (by show vs.length<=_;rw[hE6];omega))));refine hDo (hEh ?_ (hAq _));refine hDv ?_;have ho6:((v9 0).push (seqObj "list" #[] 0)).get? a=some (seqObj "list" #[] e1):=Heap.get?_push_of_some _ (Heap.get?_push_of_some _ ho1);have keep:∀b o,b≠a->s.heap.get? b=some o->((v9 0).push (seqObj "list" #[] 0)).get? b=some o:=λb o hb e=>by
  refine Heap.get?_push_of_some _ (Heap.get?_push_of_some _ ?_);rw[Heap.get?_update_ne _ _ _ _ hb];exact e
 show wpAny (model P w) A _ R E { s with heap:=(v9 0).push (seqObj "list" #[] 0) };dsimp only;have fin:∀(st':SortSt) (out:List Value),(arrOf st').map (·.2)=out.toArray->failedOf st'=none->out.Perm vs->(∃p,Gd vs.length p/\SPk (ltI ts) p vs.length/\out=p.toList.map (λi=>vs.getD i Value.none))->wpAny (model P w) A (do
   let touched:=(← seqEpoch a) != e1
   Builtin.List.listUpdate (.ref a) λ_=>(arrOf st').map (·.2)
   if let some e:=failedOf st' then rule "list.sort.comparison-raised";throw e
   if touched then rule "list.sort.modified";raiseError "ValueError" "list modified during sort"
   ret .none) R E { s with heap:=(v9 0).push (seqObj "list" #[] 0) }:=by
  intro st' out e hf hp ⟨p,hg,hsp,ep⟩;refine hDo (seqEpoch_at ho6 rfl ?_);refine hDo (hEo ho6 rfl ?_ (hAq _) (by rw[e,hAf,hp.length_eq,hE6];omega));rw[hf];simp only[bne_self_eq_false,hCg,hEr];rw[e];exact hDq (h out p hp hg hsp ep)
 by_cases h2:vs.toArray.size<2
 ·rw[hDu h2,hDu h2];refine hDo (hDq ?_);rw[StateT.run_pure];refine hDo (hDq (fin _ vs ?_ rfl (hDf _) ⟨Rng vs.length,Array.Perm.refl _,λi j hij hj=>absurd hj (by rw[hAf]at h2;omega),(qD0 vs).symm⟩));show(vs.toArray.zip vs.toArray).map (·.2)=vs.toArray;apply hDi.mp;rw[Array.toList_map,Array.toList_zip];exact List.map_snd_zip (hA3 _)
 ·rw[hDt h2,hDt h2];have hl2:2<=vs.length:=by rw[hAf]at h2;omega
  obtain⟨fs,kt,fl,fa⟩:=qF2 (a:=a) keep ht hna;refine hDo (kat_kind (T:=.type "str") kt (by omega) (λv hv=>?_) (by decide) ?_)
  ·obtain⟨x,t,rfl⟩:=fa v hv;exact .now
  refine hDo (hDz (kat_run (ks:=vs) (Q:=λst' s'=>s'={ s with heap:=(v9 0).push (seqObj "list" #[] 0) }/\∃out:List Value,(arrOf st').map (·.2)=out.toArray/\failedOf st'=none/\out.Perm vs/\∃p,Gd vs.length p/\SPk (ltI ts) p vs.length/\out=p.toList.map (λi=>vs.getD i Value.none)) (G:=λp s'=>s'={ s with heap:=(v9 0).push (seqObj "list" #[] 0) }/\Gd vs.length p/\SPk (ltI ts) p vs.length) rfl hl2 h64 (λp st' s' a1 a2 a3 a4=>?_) ?_) ?_ λ_ _ e=>e)
  ·obtain⟨rfl,g,sp⟩:=a4;refine⟨rfl,_,kat_snds rfl a2,a3,?_,p,g,sp,rfl⟩;have q:=(hBy.mp g).map λi=>vs.getD i Value.none
   exact q.trans (List.Perm.of_eq (qD0 vs))
  ·refine qQf (qRs ts) (λi j C hi hj hC=>?_) (by omega) λp g sp=>⟨rfl,g,sp⟩
   obtain⟨x1,y1,z1,v1,w1⟩:=qH9 keep ht hna hi;obtain⟨x2,y2,z2,v2,w2⟩:=qH9 keep ht hna hj;show wpAny _ _ (keyLt' _ (vs.getD i Value.none) (vs.getD j Value.none)) C _ _;rw[v1,v2];obtain⟨o1,g1,c1,n1,d1⟩:=z1;obtain⟨o2,g2,c2,n2,d2⟩:=z2;have l1:y1.size=(ts.getD i []).length:=by rw[<-w1.strs];simp
   have l2:y2.size=(ts.getD j []).length:=by rw[<-w2.strs];simp
   exact kat_lt g1 d1 g2 d2 (qJ9 0 w1 w2 hC (by rw[l1,l2]))
  ·rintro⟨⟨⟩,st'⟩ s' ⟨rfl,out,q1,q2,q3,q4⟩;exact fin st' out q1 q2 q3 q4
end
theorem qKd(g:Gd n o)(hi:i∈o.toList):i<n:=by
 have:=(hBy.mp g).mem_iff.mp hi
 simpa using this
theorem qNy(g:Gd n o):o.toList.length=n:=by
 have:=g.size
 simpa using this
theorem qJz{as:List Addr}{l:List Nat}(h:∀i∈l,i<as.length):l.map (λi=>(as.map Value.ref).getD i Value.none)=(l.map λi=>as.getD i 0).map Value.ref:=by
 rw[hB3];refine hBv λi hi=>?_
 have:=h i hi;show(as.map Value.ref).getD i Value.none=Value.ref (as.getD i 0);rw[hA5,hA5,hAj,hA2 this];rfl
section
variable{X:Cx}
theorem qDh:qB2 X (.builtin "sorted") (λxs H Q=>∃(p:Addr) (as:List Addr) (ts:List (List Str)),xs=[.ref p]/\SqL X.K H p (as.map V.ref)/\Paired (λa t=>SqT X.K H a (t.map V.str)/\t≠[]) as ts/\as.length<64/\∀(r:Addr) (o:Array Nat),H r=none->Gd as.length o->SPk (ltI ts) o as.length->Q (.ref r) (upd H r (.lst ((o.toList.map λi=>as.getD i 0).map V.ref)))):=by
 intro aB s σ H xs us Q I r h;obtain⟨p,as,ts,rfl,hq,ht,h64,q⟩:=h;obtain⟨u,rfl,rx⟩:=qCw r;cases rx;obtain⟨its,rv,pl,hz⟩:=I.list hq;have ei:=qLs rv;subst ei;refine Calls.call_function_entry kind_sorted plain_sorted entry_sorted (args_sorted1 _) ?_;unfold Builtin.«sorted»;refine hDo (m:=checkCount "sorted" 1 1 _) (hDq (hDo (collect_list pl.isList ?_ (by rw[hA1,hE6];omega))));refine hDo (hEh ?_ (by rw[hA1,hE6];omega));have hsz:(vA 0).objs.size=s.heap.objs.size+1:=by rw[Heap.size_update,hEv]
 have hoL:((vA 0).push (seqObj "list" (as.map Value.ref).toArray 0)).get? (s.heap.objs.size+1)=some (seqObj "list" (as.map Value.ref).toArray 0):=by
  rw[<-hsz];exact Heap.get?_push_size _ rfl
 have keep:∀b o,s.heap.get? b=some o->((vA 0).push (seqObj "list" (as.map Value.ref).toArray 0)).get? b=some o:=λb o e=>by
  have hlt:b<s.heap.objs.size:=Heap.lt_size e;rw[Heap.get?_push_ne _ _ _ (by rw[hsz];exact hAi (hB2 hlt)),Heap.get?_update_ne _ _ _ _ (hAi hlt),Heap.get?_push_ne _ _ _ (hAi hlt)];exact e
 show wpAny _ _ _ _ _ { s with heap:=(vA 0).push (seqObj "list" (as.map Value.ref).toArray 0) };rw[hsz];have tp:=qPv (h':=(vA 0).push (seqObj "list" (as.map Value.ref).toArray 0)) I keep ht;refine hDo (hDv (hDx slot_list_sort ⟨_,hoL,rfl⟩ entry_list_sort (qOg hoL tp (by rw[hA1];exact h64) (λv hv z=>?_) λout o hp hg hsp eo=>⟨_,rfl,?_⟩) (hF2 _)))
 ·obtain⟨b,hb,e⟩:=hAe.mp hv;rw[<-e]at z;injection z with z
  have lt:=qPw I ht b hb;exact absurd lt (by rw[z];exact Nat.not_lt_of_le (hAy _))
 rw[hA1]at hg hsp;rw[qJz λi hi=>qKd hg hi]at eo;subst eo;have nz:H (s.heap.objs.size+1)=none:=I.hok.fresh (hAy _);obtain⟨e,he⟩:=sortedAll_at s.heap (as.map Value.ref) ((o.toList.map λi=>as.getD i 0).map Value.ref).toArray;refine hDq ⟨_,rfl,.ref (s.heap.objs.size+1),_,I.laid (t':=s.toks) (a:=s.heap.objs.size+1) (o:=.lst ((o.toList.map λi=>as.getD i 0).map V.ref)) (h':=sortedAll s.heap (as.map Value.ref) ((o.toList.map λi=>as.getD i 0).map Value.ref).toArray) (λb o eb=>sortedAll_old eb) (hAy _) ⟨?_,(o.toList.map λi=>as.getD i 0).map Value.ref,e,qF0 _,he⟩,rfl,q _ o nz hg hsp⟩;rw[hA1,hA1,qNy hg];exact hAz (qAf (by omega))
end
end L2
namespace L2
open PySem PySem.Spec PyProof.Rows PySem.W
open AutoSeq1 (wpAny_loadPart')
open MeetsSeq MeetsSeq2 MeetsSeq3 SeqRoads2
theorem qP1(h:StrsAre vs x):∀ {i:Nat},i<vs.length->∃t,vs[i]?=some (.str (x.getD i "") t):=by
 induction h with
 |nil=>intro i hi;exact absurd hi (hC0 _)
 |cons p t r ih =>
  intro i hi;cases i with
  |zero=>exact⟨t,rfl⟩
  |succ i=>simpa using ih (i:=i) (by simpa using hi)
theorem qSf{x:List Str}{i:Nat}(h:i<x.length):x.drop i=x.getD i "" :: x.drop (i+1):=by
 rw[List.drop_eq_getElem_cons h,hA5,hA2 h];rfl
theorem qUc(l b:Addr)(items items2:Array Value)(n n2:Nat)(dd dd2:Option Addr)(sl sl2:Array (Option Value))(x y:List Str)(hx:StrsAre items.toList x)(hy:StrsAre items2.toList y):∀(k i:Nat),items.size-i=k->i<=items.size->i<=items2.size ->
  Meets (Builtin.«list.__eq__.loop» ⟨[.ref l,.ref b,rawInt i,rawInt 0],[]⟩)
   (λA R s=>(s.heap.get? l=some { cls:=.type "list",dict:=dd,data:=.seq items n,slots:=sl }/\s.heap.get? b=some { cls:=.type "list",dict:=dd2,data:=.seq items2 n2,slots:=sl2 })/\R (.ok (.ret (.bool (ltL (x.drop i) (y.drop i))))) s):=by
 have lx:items.size=x.length:=by rw[<-hx.strs];simp
 have ly:items2.size=y.length:=by rw[<-hy.strs];simp
 intro k
 induction k with
 |zero =>
  intro i hk h1 h2 prog w A R s h;obtain⟨hp,g,d,tk,os⟩:=s;obtain⟨⟨hl,hb⟩,h⟩:=h;have e1:i=items.size:=by omega
  have q1:items[((i:Nat):Int).toNat]?=none:=by simp;omega
  wp_walk using hDy hl,hDy hb
  rw[q1]
  wp_walk using hDy hl,hDy hb
  have dx:x.drop i=[]:=by simp;omega
  rw[dx]at h;show R (.ok (.ret (.bool (decide (items.size<items2.size))))) _;cases hd:y.drop i with
  |nil =>
   rw[hd]at h;have:y.length<=i:=by simpa using hd
   rw[hDr (by omega)];exact h
  |cons a r =>
   rw[hd]at h;have:i<y.length:=by
    have:=congrArg List.length hd;rw[hDh,hB8]at this;omega
   rw[hDp (by omega)];exact h
 |succ k ih =>
  intro i hk h1 h2 prog w A R s h;obtain⟨hp,g,d,tk,os⟩:=s;obtain⟨⟨hl,hb⟩,h⟩:=h;have hlt:i<items.size:=by omega
  obtain⟨t1,q1⟩:=qP1 hx (i:=i) (by simpa using hlt);rw[hBj]at q1;have q1':items[((i:Nat):Int).toNat]?=some (.str (x.getD i "") t1):=q1;have dx:=qSf (x:=x) (i:=i) (by omega)
  wp_walk using hDy hl,hDy hb
  rw[q1'];by_cases hlt2:i<items2.size
  ·obtain⟨t2,q2⟩:=qP1 hy (i:=i) (by simpa using hlt2);rw[hBj]at q2;have q2':items2[((i:Nat):Int).toNat]?=some (.str (y.getD i "") t2):=q2;have dy:=qSf (x:=y) (i:=i) (by omega);have hc:((i:Int)+1)=((i+1:Nat):Int):=by push_cast;rfl
   rw[dx,dy]at h;unfold ltL at h;rw[q2'];refine hDo (wpAny_eqBool_str ?_);by_cases e:x.getD i ""=y.getD i ""
   ·rw[hDu e]at h;rw[hDp e]
    wp_walk
    rw[hc];exact⟨hEg plain_eq_loop _,hE1 entry_eq_loop (by
     rw[Around.under_plainId plain_eq_loop _];exact ih (i+1) (by omega) (by omega) (by omega) prog w A R _ ⟨⟨hl,hb⟩,h⟩)⟩
   ·rw[hDt e]at h;rw[hDr e]
    wp_walk using hDy hl,hDy hb
    rw[q1',q2'];refine hDo (richCompare_gives (op:=.Lt) (typeIs_str _ _ _) (typeIs_str _ _ _) F.slot_str_lt F.entry_str_lt (F.args_str_lt_2 _ _) (gives_str_lt _ _ _ _) (λe=>nomatch e) ?_);exact hDq h
  ·have q2':items2[((i:Nat):Int).toNat]?=none:=by simp;omega
   rw[q2']
   wp_walk using hDy hl,hDy hb
   have dy:y.drop i=[]:=by simp;omega
   rw[dx,dy]at h;show R (.ok (.ret (.bool (decide (items.size<items2.size))))) _;rw[hDr (by omega)];exact h
theorem qUd(l b:Addr)(items items2:Array Value)(n n2:Nat)(dd dd2:Option Addr)(sl sl2:Array (Option Value))(x y:List Str)(hx:StrsAre items.toList x)(hy:StrsAre items2.toList y) :
  Meets (Builtin.«list.__lt__» ⟨[.ref l,.ref b],[]⟩)
   (λA R s=>(s.heap.get? l=some { cls:=.type "list",dict:=dd,data:=.seq items n,slots:=sl }/\s.heap.get? b=some { cls:=.type "list",dict:=dd2,data:=.seq items2 n2,slots:=sl2 })/\R (.ok (.ret (.bool (ltL x y)))) s):=by
 intro prog w A R s h;obtain⟨hp,g,d,tk,os⟩:=s;obtain⟨⟨hl,hb⟩,h⟩:=h;have f3:=AutoSeq1.sub_list_list
 wp_walk using hDy hl,hDy hb
 exact⟨hEg plain_eq_loop _,hE1 entry_eq_loop (by
  rw[Around.under_plainId plain_eq_loop _];exact qUc l b items items2 n n2 dd dd2 sl sl2 x y hx hy _ 0 rfl (hAq _) (hAq _) prog w A R _ ⟨⟨hl,hb⟩,h⟩)⟩
theorem qL8(hu:A.units<cLine)(hl:s.heap.IsList l items)(hb:s.heap.IsList b items2)(hx:StrsAre items.toList x)(hy:StrsAre items2.toList y)
  (h:Q (ltL x y) s):wpAny (model P w) A (keyLt' oneType' (.ref l) (.ref b)) Q E s:=by
 obtain⟨⟨cls,dd,data,sl⟩,ho,hc,n,hd⟩:=hl;obtain⟨⟨cls2,dd2,data2,sl2⟩,ho2,hc2,n2,hd2⟩:=hb;simp only at hc hd hc2 hd2;subst hc hd hc2 hd2;rw[keyLt'_oneType,oneLt'_eq];simp only[if_true];refine hDo (wpAny_cRoomFor hu ?_);refine hDo (wpAny_callSpecialIfBound?_slot (⟨_,ho,rfl⟩:s.TypeIs (.ref l) "list") F.slot_list_lt (call_meets F.slot_list_lt ⟨_,ho,rfl⟩ F.entry_list_lt (F.args_list_lt_2 _ _) (qUd l b items items2 n n2 dd dd2 sl sl2 x y hx hy) ⟨⟨ho,ho2⟩,?_⟩));exact hE8 h
end L2
namespace L2
open PySem PySem.Spec PyProof.Rows PySem.W
def zCh(h:Heap)(v:Value)(t:List Str):Prop:=∃a its,v = .ref a/\h.IsList a its/\StrsAre its.toList t
theorem qJ8:∀ {vs:List Value} {ts:List (List Str)},Paired (zCh h) vs ts->∀v∈vs,∃t∈ts,zCh h v t
 |_,_,.nil,v,hv=>by cases hv
 |_,_,.cons x r,v,hv=>by
  rcases hA8.mp hv with z|z
  ·subst z;exact⟨_,hA6,x⟩
  ·obtain⟨t,ht,q⟩:=qJ8 r v z;exact⟨t,hA4 _ ht,q⟩
section
variable{P:Program}{w:World}{A:Around}{E:Value->Shared->Prop}{s:Shared}
theorem qGv{h h':Heap}{a:Addr}(k:∀b o,b≠a->h.get? b=some o->h'.get? b=some o):∀ {vs:List Value} {ts:List (List Str)} {i:Nat},Paired (zCh h) vs ts->(∀v∈vs,v≠.ref a)->i<vs.length->∃(b:Addr) (its:Array Value),h'.IsList b its/\vs.getD i Value.none = .ref b/\StrsAre its.toList (ts.getD i [])
 |_,_,i,.nil,_,hi=>absurd hi (hC0 _)
 |_,_,0,@Paired.cons _ _ _ v t l1 l2 hh tt,hn,_=>by
  obtain⟨b,its,rfl,⟨o,g,c,n,d⟩,st⟩:=hh;have nb:b≠a:=λz=>hn _ hA6 (by rw[z])
  exact⟨b,its,⟨o,k b o nb g,c,n,d⟩,rfl,st⟩
 |_,_,i+1,@Paired.cons _ _ _ v t l1 l2 hh tt,hn,hi=>qGv (i:=i) k tt (λu hu=>hn u (hA4 _ hu)) (by simpa using hi)
theorem qLb(hu:A.units<cLine)(ho:s.heap.get? a=some (seqObj "list" vs.toArray n))(ht:Paired (zCh s.heap) vs ts)(h64:vs.length<64)(hna:∀v∈vs,v≠.ref a)
  (h:∀(out:List Value) (p:Array Nat),out.Perm vs->Gd vs.length p->SPk (ltI ts) p vs.length->out=p.toList.map (λi=>vs.getD i Value.none)->R (.done (.ret .none)) { s with heap:=sortedHeap s.heap a vs out.toArray }):wpAny (model P w) A (Builtin.«list.sort» ⟨[.ref a],[]⟩) R E s:=by
 rw[list_sort_plain];have ha:a<s.heap.objs.size:=Heap.lt_size ho;refine hDo (listItems_at ho rfl (hDo (hEo ho rfl ?_ (by rw[hAf,hE6];omega) (hAq _))));obtain⟨e1,ho1⟩:∃e1,(s.heap.update a (Obj.mapSeq λ_=>#[])).get? a=some (seqObj "list" #[] e1):=⟨_,get?_update_seq ho (λ_=>#[])⟩;refine hDo (seqEpoch_at ho1 rfl (hDo (wpAny_newTuple ?_ (by show vs.length<=_;rw[hE6];omega))));refine hDo (hEh ?_ (hAq _));refine hDv ?_;have ho6:((v9 0).push (seqObj "list" #[] 0)).get? a=some (seqObj "list" #[] e1):=Heap.get?_push_of_some _ (Heap.get?_push_of_some _ ho1);have keep:∀b o,b≠a->s.heap.get? b=some o->((v9 0).push (seqObj "list" #[] 0)).get? b=some o:=λb o hb e=>by
  refine Heap.get?_push_of_some _ (Heap.get?_push_of_some _ ?_);rw[Heap.get?_update_ne _ _ _ _ hb];exact e
 show wpAny (model P w) A _ R E { s with heap:=(v9 0).push (seqObj "list" #[] 0) };dsimp only;have fin:∀(st':SortSt) (out:List Value),(arrOf st').map (·.2)=out.toArray->failedOf st'=none->out.Perm vs->(∃p,Gd vs.length p/\SPk (ltI ts) p vs.length/\out=p.toList.map (λi=>vs.getD i Value.none))->wpAny (model P w) A (do
   let touched:=(← seqEpoch a) != e1
   Builtin.List.listUpdate (.ref a) λ_=>(arrOf st').map (·.2)
   if let some e:=failedOf st' then rule "list.sort.comparison-raised";throw e
   if touched then rule "list.sort.modified";raiseError "ValueError" "list modified during sort"
   ret .none) R E { s with heap:=(v9 0).push (seqObj "list" #[] 0) }:=by
  intro st' out e hf hp ⟨p,hg,hsp,ep⟩;refine hDo (seqEpoch_at ho6 rfl ?_);refine hDo (hEo ho6 rfl ?_ (hAq _) (by rw[e,hAf,hp.length_eq,hE6];omega));rw[hf];simp only[bne_self_eq_false,hCg,hEr];rw[e];exact hDq (h out p hp hg hsp ep)
 by_cases h2:vs.toArray.size<2
 ·rw[hDu h2,hDu h2];refine hDo (hDq ?_);rw[StateT.run_pure];refine hDo (hDq (fin _ vs ?_ rfl (hDf _) ⟨Rng vs.length,Array.Perm.refl _,λi j hij hj=>absurd hj (by rw[hAf]at h2;omega),(qD0 vs).symm⟩));show(vs.toArray.zip vs.toArray).map (·.2)=vs.toArray;apply hDi.mp;rw[Array.toList_map,Array.toList_zip];exact List.map_snd_zip (hA3 _)
 ·rw[hDt h2,hDt h2];have hl2:2<=vs.length:=by rw[hAf]at h2;omega
  refine hDo (kas_kind (T:=.type "list") hl2 (λv hv=>?_) (by decide) (by decide) ?_)
  ·obtain⟨t,_,b,its,rfl,⟨o,g,c,_⟩,st⟩:=qJ8 ht v hv;have nb:b≠a:=λz=>hna _ hv (by rw[z])
   exact kitAt_ty _ _ ⟨o,keep b o nb g,c⟩
  refine hDo (hDz (kat_run (ks:=vs) (Q:=λst' s'=>s'={ s with heap:=(v9 0).push (seqObj "list" #[] 0) }/\∃out:List Value,(arrOf st').map (·.2)=out.toArray/\failedOf st'=none/\out.Perm vs/\∃p,Gd vs.length p/\SPk (ltI ts) p vs.length/\out=p.toList.map (λi=>vs.getD i Value.none)) (G:=λp s'=>s'={ s with heap:=(v9 0).push (seqObj "list" #[] 0) }/\Gd vs.length p/\SPk (ltI ts) p vs.length) rfl hl2 h64 (λp st' s' a1 a2 a3 a4=>?_) ?_) ?_ λ_ _ e=>e)
  ·obtain⟨rfl,g,sp⟩:=a4;refine⟨rfl,_,kat_snds rfl a2,a3,?_,p,g,sp,rfl⟩;have q:=(hBy.mp g).map λi=>vs.getD i Value.none
   exact q.trans (List.Perm.of_eq (qD0 vs))
  ·refine qQf (qRs ts) (λi j C hi hj hC=>?_) (by omega) λp g sp=>⟨rfl,g,sp⟩
   obtain⟨x1,y1,z1,v1,w1⟩:=qGv keep ht hna hi;obtain⟨x2,y2,z2,v2,w2⟩:=qGv keep ht hna hj;show wpAny _ _ (keyLt' _ (vs.getD i Value.none) (vs.getD j Value.none)) C _ _;rw[v1,v2];exact qL8 hu z1 z2 w1 w2 hC
  ·rintro⟨⟨⟩,st'⟩ s' ⟨rfl,out,q1,q2,q3,q4⟩;exact fin st' out q1 q2 q3 q4
end
section
variable{X:Cx}
theorem qNq(I:Inv X aB σ H s)(k:∀b o,s.heap.get? b=some o->h'.get? b=some o):∀ {as:List Addr} {ts:List (List Str)},Paired (λa t=>SqL X.K H a (t.map V.str)) as ts->Paired (zCh h') (as.map Value.ref) ts
 |_,_,.nil=>.nil
 |_,_,.cons h t=>by
  obtain⟨its,rv,⟨o,n,e,c,_,dt⟩,_⟩:=I.list h;exact .cons ⟨_,its.toArray,rfl,⟨o,k _ _ e,c,_,dt⟩,by simpa using qCo rv⟩ (qNq I k t)
theorem qNr(I:Inv X aB σ H s):∀ {as:List Addr} {ts:List (List Str)},Paired (λa t=>SqL X.K H a (t.map V.str)) as ts->∀b∈as,b<s.heap.objs.size
 |_,_,.nil,b,hb=>by cases hb
 |_,_,.cons h t,b,hb=>by
  rcases hA8.mp hb with z|z
  ·subst z;obtain⟨its,rv,⟨o,n,e,_⟩,_⟩:=I.list h;exact Heap.lt_size e
  ·exact qNr I t b z
theorem qJd(hu:X.A.units+2<cLine):qB2 X (.builtin "sorted") (λxs H Q=>∃(p:Addr) (as:List Addr) (ts:List (List Str)),xs=[.ref p]/\SqL X.K H p (as.map V.ref)/\Paired (λa t=>SqL X.K H a (t.map V.str)) as ts/\as.length<64/\∀(r:Addr) (o:Array Nat),H r=none->Gd as.length o->SPk (ltI ts) o as.length->Q (.ref r) (upd H r (.lst ((o.toList.map λi=>as.getD i 0).map V.ref)))):=by
 intro aB s σ H xs us Q I r h;obtain⟨p,as,ts,rfl,hq,ht,h64,q⟩:=h;obtain⟨u,rfl,rx⟩:=qCw r;cases rx;obtain⟨its,rv,pl,hz⟩:=I.list hq;have ei:=qLs rv;subst ei;refine Calls.call_function_entry kind_sorted plain_sorted entry_sorted (args_sorted1 _) ?_;unfold Builtin.«sorted»;refine hDo (m:=checkCount "sorted" 1 1 _) (hDq (hDo (collect_list pl.isList ?_ (by rw[hA1,hE6];omega))));refine hDo (hEh ?_ (by rw[hA1,hE6];omega));have hsz:(vA 0).objs.size=s.heap.objs.size+1:=by rw[Heap.size_update,hEv]
 have hoL:((vA 0).push (seqObj "list" (as.map Value.ref).toArray 0)).get? (s.heap.objs.size+1)=some (seqObj "list" (as.map Value.ref).toArray 0):=by
  rw[<-hsz];exact Heap.get?_push_size _ rfl
 have keep:∀b o,s.heap.get? b=some o->((vA 0).push (seqObj "list" (as.map Value.ref).toArray 0)).get? b=some o:=λb o e=>by
  have hlt:b<s.heap.objs.size:=Heap.lt_size e;rw[Heap.get?_push_ne _ _ _ (by rw[hsz];exact hAi (hB2 hlt)),Heap.get?_update_ne _ _ _ _ (hAi hlt),Heap.get?_push_ne _ _ _ (hAi hlt)];exact e
 show wpAny _ _ _ _ _ { s with heap:=(vA 0).push (seqObj "list" (as.map Value.ref).toArray 0) };rw[hsz];have tp:=qNq (h':=(vA 0).push (seqObj "list" (as.map Value.ref).toArray 0)) I keep ht;refine hDo (hDv (hDx slot_list_sort ⟨_,hoL,rfl⟩ entry_list_sort (qLb ?hu hoL tp (by rw[hA1];exact h64) (λv hv z=>?_) λout o hp hg hsp eo=>⟨_,rfl,?_⟩) (hF2 _)))
 case hu=>omega
 ·obtain⟨b,hb,e⟩:=hAe.mp hv;rw[<-e]at z;injection z with z
  have lt:=qNr I ht b hb;exact absurd lt (by rw[z];exact Nat.not_lt_of_le (hAy _))
 rw[hA1]at hg hsp;rw[qJz λi hi=>qKd hg hi]at eo;subst eo;have nz:H (s.heap.objs.size+1)=none:=I.hok.fresh (hAy _);obtain⟨e,he⟩:=sortedAll_at s.heap (as.map Value.ref) ((o.toList.map λi=>as.getD i 0).map Value.ref).toArray;refine hDq ⟨_,rfl,.ref (s.heap.objs.size+1),_,I.laid (t':=s.toks) (a:=s.heap.objs.size+1) (o:=.lst ((o.toList.map λi=>as.getD i 0).map V.ref)) (h':=sortedAll s.heap (as.map Value.ref) ((o.toList.map λi=>as.getD i 0).map Value.ref).toArray) (λb o eb=>sortedAll_old eb) (hAy _) ⟨?_,(o.toList.map λi=>as.getD i 0).map Value.ref,e,qF0 _,he⟩,rfl,q _ o nz hg hsp⟩;rw[hA1,hA1,qNy hg];exact hAz (qAf (by omega))
end
end L2
namespace L2
open PySem PySem.Spec PyProof.Rows
end L2
namespace L2
open PySem PySem.Spec PyProof.Rows PySem.W
abbrev Srt(a:List (List Str)):Prop:=a.Pairwise λx y=>ltL y x=false
theorem qMb(ts:List (List Str)):(List.range ts.length).map (λi=>ts.getD i [])=ts:=by
 refine hDb λi=>?_
 by_cases hi:i<ts.length
 ·rw[hAj,hDl hi,hA2 hi];show some (ts.getD i [])=_;rw[hA5,hA2 hi];rfl
 ·rw[hBk (by simp;omega),hBk (by omega)]
theorem qFa(g:Gd ts.length o)(sp:SPk (ltI ts) o ts.length):Srt (o.toList.map λi=>ts.getD i [])/\(o.toList.map λi=>ts.getD i []).Perm ts:=by
 have sz:=g.size;refine⟨?_,?_⟩
 ·rw[Srt,List.pairwise_iff_getElem];intro i j hi hj hij;rw[hA1]at hi hj;have h:=sp i j hij (by simpa [sz] using hj);rw[List.getElem_map,List.getElem_map];have e:∀k (hk:k<o.toList.length),o.getD k 0=o.toList[k]:=λk hk=>by
   have hk':k<o.size:=by simpa using hk
   simp[Array.getD,hk']
  rw[e i hi,e j hj]at h;exact h
 ·have q:=(hBy.mp g).map λi=>ts.getD i []
  exact q.trans (List.Perm.of_eq (qMb ts))
theorem qMr:∀ {a b:List (List Str)},Srt a->Srt b->a.Perm b->a=b
 |[],b,_,_,p=>(List.nil_perm.mp p).symm▸rfl
 |x :: a,[],_,_,p=>by have:=p.length_eq;simp at this
 |x :: a,y :: b,ha,hb,p=>by
  obtain⟨a1,a2⟩:=hBl.mp ha;obtain⟨b1,b2⟩:=hBl.mp hb;have e:x=y:=by
   rcases hA8.mp (p.mem_iff.mp hA6) with z|z
   ·exact z
   ·rcases hA8.mp (p.mem_iff.mpr hA6) with w'|w'
    ·exact w'.symm
    ·have h1:=b1 x z;have h2:=a1 y w';rcases qIy x y with q|q|q
     ·rw[q]at h1;cases h1
     ·exact q
     ·rw[q]at h2;cases h2
  subst e;rw[qMr a2 b2 ((List.perm_cons _).mp p)]
end L2
namespace L2
open PySem PySem.Spec PyProof.Rows
theorem qDn{X:Cx}{target iter elt:Expr}{ifs:List Expr}{scope sc:Scope}{pos:Pos}{N N':List Str}{sub:List (Option Nat)}{wi:TI}{g:TG}{tt:TT}{te:TE}(hN:X.N=N)(hsc:X.env.scope=sc)
  (O:CmpOk N sc N' scope sub) (hc:X.calm=true) (hi:PI X target iter wi)
  (B:∀C s H fp,PG (qBc X scope N' C s H fp) target g/\PTs (qBc X scope N' C s H fp) ifs tt/\PE (qBc X scope N' C s H fp) elt te)
  (hs:∀x,foldedSetIterable iter X.env x=pure x:=by intro _;rfl):PE X (.ListComp elt [⟨target,iter,ifs,0⟩] scope pos) (qJn sub wi g tt te) :=
 qXq hc (by rw[hN,hsc];exact O) hi B hs
theorem qXg{X:Cx}{target iter elt:Expr}{ifs:List Expr}{scope sc:Scope}{pos:Pos}{N N':List Str}{sub:List (Option Nat)}{wi:TI}{g:TG}{tt:TT}{te:TE}{i:Nat}{y:Str}{py spos:Pos}(hN:X.N=N)(hsc:X.env.scope=sc)
  (O:CmpOk N sc N' scope sub) (hc:X.calm=true) (hi:PI X target iter wi)
  (B:∀C s H fp,PG (qBc X scope N' C s H fp) target g/\PTs (qBc X scope N' C s H fp) ifs tt/\PE (qBc X scope N' C s H fp) elt te)
  (nd:X.N.Nodup) (hy:X.N[i]?=some y) (hx:Loc X.env.scope y)
  (hsw:swapsWith (.ListComp elt [⟨target,iter,ifs,0⟩] scope pos) (some (.Name y py)) spos.line X.env=pure true:=by rfl)
  (hs:∀x,foldedSetIterable iter X.env x=pure x:=by intro _;rfl) (hf:X.fn y=true\/X.env.scope.names.lookup y=some .local:=by first|exact .inl rfl|exact .inr rfl|assumption) :
  PS X (.Assign [.Name y py] (.ListComp elt [⟨target,iter,ifs,0⟩] scope pos) spos) (qZh (qJn sub wi g tt te) (qFu i)) :=
 qXi hc (by rw[hN,hsc];exact O) hi B nd hy hx hsw hs hf
theorem qCr{X:Cx}{y:Str}{py:Pos}{iter elt:Expr}{ifs:List Expr}{scope sc:Scope}{pos:Pos}{N N':List Str}{sub:List (Option Nat)}{wi:TI}{tt:TT}{te:TE}(hi:PI X (.Name y py) iter wi)
  (B:∀C s H fp,PTs (qBc X scope N' C s H fp) ifs tt/\PE (qBc X scope N' C s H fp) elt te) (hN:X.N=N:=by rfl) (hsc:X.env.scope=sc:=by rfl)
  (O:CmpOk N sc N' scope sub:=by exact CmpOk.of (by decide +kernel)) (hc:X.calm=true:=by rfl) (nd:N'.Nodup:=by decide) (h0:N'[0]?=some y:=by rfl) (hl:∀C s H fp,Loc (qBc X scope N' C s H fp).env.scope y:=by intro _ _ _ _;exact Or.inl rfl) (hg:∀C s H fp,(qBc X scope N' C s H fp).fn y=true\/(qBc X scope N' C s H fp).env.scope.names.lookup y=some .local:=by intro _ _ _ _;exact .inl rfl)
  (hs:∀x,foldedSetIterable iter X.env x=pure x:=by intro _;rfl):PE X (.ListComp elt [⟨.Name y py,iter,ifs,0⟩] scope pos) (qJn sub wi (qFu 0) tt te) :=
 qDn hN hsc O hc hi (λC s H fp=>⟨qAh (i:=0) nd h0 (hl C s H fp) (hg C s H fp),B C s H fp⟩) hs
theorem qQ8{X:Cx}{z:Str}{pz:Pos}{iter elt:Expr}{ifs:List Expr}{scope sc:Scope}{pos:Pos}{N N':List Str}{sub:List (Option Nat)}{wi:TI}{tt:TT}{te:TE}{i:Nat}{y:Str}{py spos:Pos}(hi:PI X (.Name z pz) iter wi)
  (B:∀C s H fp,PTs (qBc X scope N' C s H fp) ifs tt/\PE (qBc X scope N' C s H fp) elt te)
  (nd:X.N.Nodup) (hy:X.N[i]?=some y) (hx:Loc X.env.scope y) (hN:X.N=N:=by rfl) (hsc:X.env.scope=sc:=by rfl)
  (O:CmpOk N sc N' scope sub:=by exact CmpOk.of (by decide +kernel)) (hc:X.calm=true:=by rfl) (nd':N'.Nodup:=by decide) (h0:N'[0]?=some z:=by rfl) (hl:∀C s H fp,Loc (qBc X scope N' C s H fp).env.scope z:=by intro _ _ _ _;exact Or.inl rfl) (hg:∀C s H fp,(qBc X scope N' C s H fp).fn z=true\/(qBc X scope N' C s H fp).env.scope.names.lookup z=some .local:=by intro _ _ _ _;exact .inl rfl)
  (hsw:swapsWith (.ListComp elt [⟨.Name z pz,iter,ifs,0⟩] scope pos) (some (.Name y py)) spos.line X.env=pure true:=by rfl)
  (hs:∀x,foldedSetIterable iter X.env x=pure x:=by intro _;rfl) (hf:X.fn y=true\/X.env.scope.names.lookup y=some .local:=by first|exact .inl rfl|exact .inr rfl|assumption) :
  PS X (.Assign [.Name y py] (.ListComp elt [⟨.Name z pz,iter,ifs,0⟩] scope pos) spos) (qZh (qJn sub wi (qFu 0) tt te) (qFu i)) :=
 qXg hN hsc O hc hi (λC s H fp=>⟨qAh (i:=0) nd' h0 (hl C s H fp) (hg C s H fp),B C s H fp⟩) nd hy hx hsw hs hf
end L2
namespace My
open PySem L2
structure Cl(P:Program)(w:World)(K:PySem.W.Frag)(mg:Str->Option Value)(base:Heap)(CX:CXT)(k:Nat)(f:Addr)(fd:FuncData)(ps:List Str)(sp:Sp)(n:Str):Prop where
 g:FnOk P w K mg base CX k f fd ps sp
 b:qE1 K fd ps []
 k:PySem.W.keepIn K (.ref f)=true
 m:mg n=some (.ref f)
theorem qA0{X:Cx}{CX:CXT}{k:Nat}{f:Addr}{fd:FuncData}{ps:List Str}{sp:Sp}{x:Str}{dvs:List V}{E:XK}{e:Expr}{es:List Expr}{t:TA}{p pos:Pos}(G:Cl X.prog X.w X.K X.mg X.base CX k f fd ps sp x)(hr:Room k X.A)(hg:Gl X x)(hd:qBh dvs [])(hx:qDt CX X E)
  (ha:PA X (e :: es) t) (hdb:(x == ("__debug__" : Str))=false:=by decide) (he:starEach (e :: es) X.env=(false,eval e X.env) :: starEach es X.env:=by rfl) (hpl:(backTo pos (starEach es X.env)).any (·.1)=false:=by rfl):PE X (.Call (.Name x p) (e :: es) [] pos) (qZ4 sp dvs E t):=qXr G.g hr hg G.m G.k G.b hd hx ha hdb he hpl
def top(i:Nat):Stmt:=PySem.Challenge.pw_roundsalone_k74_deeds_of_benches.main.body.getD i (.Pass ⟨0,0,0,0⟩)
abbrev qLk:Stmt:=top 10
abbrev qFm:Stmt:=top 11
abbrev qOm:Stmt:=top 13
abbrev qGb:Stmt:=top 14
abbrev qOn:Stmt:=top 15
abbrev qLj:Stmt:=top 16
abbrev qOo:Stmt:=top 17
abbrev qVk:Stmt:=top 18
abbrev qLi:Stmt:=top 19
abbrev qOp:Stmt:=top 24
abbrev qGa:Stmt:=top 25
abbrev qHr:Stmt:=top 26
abbrev qGe:Stmt:=top 28
abbrev qLp:Stmt:=top 29
abbrev qZk:Stmt:=top 30
abbrev qLh:Stmt:=top 31
abbrev qEb:Stmt:=top 32
abbrev qW4:Stmt:=top 34
abbrev qF9:Stmt:=top 35
abbrev qFk:Stmt:=top 39
abbrev qLg:Stmt:=top 47
abbrev qC9:Stmt:=top 48
abbrev qEa:Stmt:=top 49
abbrev qHs:Stmt:=top 50
abbrev qOs:Stmt:=top 53
abbrev qZl:Stmt:=top 54
abbrev qGc:Stmt:=top 55
abbrev qLq:Stmt:=top 56
abbrev qZj:Stmt:=top 57
abbrev qLn:Stmt:=top 58
abbrev qFl:Stmt:=top 59
abbrev qLm:Stmt:=top 60
abbrev qEc:Stmt:=top 61
abbrev qGd:Stmt:=top 62
abbrev qTe:Stmt:=top 63
abbrev qGf:Stmt:=top 64
abbrev qW5:Stmt:=top 65
abbrev qOr:Stmt:=top 66
abbrev qLf:Stmt:=top 67
abbrev qLo:Stmt:=top 68
abbrev qTd:Stmt:=top 69
abbrev qOq:Stmt:=qI2 (top 51) 0
abbrev sDo:Stmt:=qI2 (top 51) 1
abbrev qOu:Stmt:=qI2 (top 51) 2
abbrev qOt:Stmt:=qI2 (top 51) 3
def Ext(H H':Hp):Prop:=∀b o,H b=some o->H' b=some o
theorem Ext.refl(H:Hp):Ext H H:=λ_ _ h=>h
theorem Ext.trans{H H1 H2:Hp}(a:Ext H H1)(b:Ext H1 H2):Ext H H2:=λc o h=>b c o (a c o h)
theorem Ext.new{H:Hp}{p:Addr}(h:H p=none)(o:HO):Ext H (upd H p o):=λb u q=>by rw[qAj (qAq q h)];exact q
theorem Ext.none{H H':Hp}(e:Ext H H'){p:Addr}(h:H' p=none):H p=none:=by
 cases q:H p with
 |none=>rfl
 |some o=>rw[e p o q]at h;cases h
theorem Ext.sqL{K:PySem.W.Frag}{H H':Hp}{a:Addr}{xs:List V}(e:Ext H H')(h:SqL K H a xs):SqL K H' a xs:=by
 rcases h with (h|⟨o,h⟩)|h
 ·exact .inl (.inl (e _ _ h))
 ·exact .inl (.inr ⟨o,e _ _ h⟩)
 ·exact .inr h
def qVd(K:PySem.W.Frag):Sp:=λvs H Q _=>∃(a:Addr) (ns:List Int) (k:Int),vs=[.ref a,.int k]/\SqL K H a (ns.map V.int)/\0<=k/\∀v,Q (.int v) H
section
variable{P:Program}{w:World}{K:PySem.W.Frag}{mg:Str->Option Value}{base:Heap}{f f1:Addr}{fd fd1:FuncData}
theorem zAp:FnScope ["_law_script","_law_k"] ["_law_script","_law_k"] (qAa qOs):=fsk
theorem qYc(F:Fun K "_law_cell_at" "_law_cell_at" qOs f fd)(ml:mg "len"=none):v7 1 f fd ["_law_script","_law_k"] (qVd K):=by
 refine F.okA zAp λcdv A outer s H vs Q E hr h=>?_
 obtain⟨a,ns,k,rfl,hS,h0,q⟩:=h;refine⟨_,qAb (qBl (qAm qJ2 (pv 1) (qAg qAt rfl ml hB1 (pa1 (pv 0))) (qAu _)) (qAe (qAo (qA6 qBz (pv 0) (pv 1) (λ_ _=>rfl)))) qAw) (qAe (qAo qAc)),?_⟩;refine⟨_,rfl,_,rfl,a,_,rfl,.inl hS,_,_,rfl,rfl,_,rfl,?_⟩;refine qB1 (λc=>?_) (λc=>q 0);have c':k<(((ns.map V.int).length:Nat):Int):=hDs c;rw[hA1]at c';have hk:k.toNat<ns.length:=by omega
 have hv:atI (ns.map V.int) ((k.toNat:Nat):Int)=some (.int ns[k.toNat]):=qAv (by rw[hAj,hA2 hk] <;> rfl);rw[hCp h0]at hv;exact⟨_,rfl,_,rfl,a,_,_,_,rfl,rfl,hS,hv,q _⟩
end
theorem qAz:bootBuiltins "isinstance"=some (.builtin "isinstance"):=by decide +kernel
theorem qB7(K:PySem.W.Frag)(t:Value):PySem.W.kitOne K t t=some true:=by unfold PySem.W.kitOne;rw[hDu (hEi t)]
theorem qKw:bootBuiltins "abs"=some (.builtin "abs"):=by decide +kernel
theorem qMh:bootBuiltins "range"=some (.type "range"):=by decide +kernel
section
variable{σ0:St}{g:TG}{tt:TT}{te:TE}{Q:List V->Hp->Prop}{H1:Hp}
theorem qOd{K:PySem.W.Frag}{a:Addr}{xs:List V}(f:V->Option V)(hS:SqL K H1 a xs)(hz:xs.length<=sizeLine)
  (hs:∀x∈xs,∀C:Option V->Hp->Prop,C (f x) H1->g x σ0 H1 λσ2 H2=>Sle σ0 σ2/\tt σ2 H2 λb H3=>if b=true then te σ2 H3 (λv H4=>C (some v) H4) else C none H3)
  (hd:Q (xs.filterMap f) H1):qDj (Itl K a) σ0 g tt te Q H1:=by
 refine qA1 (xs:=xs) (λi ys H=>H=H1/\ys=(xs.take i).filterMap f) ⟨rfl,by simp⟩ (λi ys H _ h=>by rw[h.1];exact hS) ?_ ?_
 ·rintro i x ys H hx ⟨rfl,rfl⟩;have hi:i<xs.length:=(hAc.mp hx).1;have hm:x∈xs:=hAs hx;have tk:(xs.take (i+1)).filterMap f=(xs.take i).filterMap f++(f x).toList:=by
   rw[hCv,hx,hCc];cases e:f x <;> simp[e]
  have hl:((xs.take i).filterMap f).length<sizeLine:=by
   have h1:=hCh f (xs.take i);rw[hAn]at h1;omega
  refine hs x hm (λo H4=>match o with|some v=>((xs.take i).filterMap f).length<sizeLine/\Nxt xs.length i _ ((xs.take i).filterMap f++[v]) H4|none=>Nxt xs.length i _ ((xs.take i).filterMap f) H4) ?_;cases e:f x with
  |none=>exact nxt hi ⟨rfl,by rw[tk,e];simp⟩
  |some v=>exact⟨hl,nxt hi ⟨rfl,by rw[tk,e];simp⟩⟩
 ·rintro ys H ⟨rfl,rfl⟩;rw[hA9 (hA3 _)];exact hd
theorem qPs{K:PySem.W.Frag}{a:Addr}{xs:List V}(f:V->Option V)(hS:SqL K H1 a xs)(hz:xs.length<=sizeLine)
  (hs:∀x∈xs,∀H,Ext H1 H->∀C:Option V->Hp->Prop,(∀H',Ext H H'->C (f x) H')->g x σ0 H λσ2 H2=>Sle σ0 σ2/\tt σ2 H2 λb H3=>if b=true then te σ2 H3 (λv H4=>C (some v) H4) else C none H3)
  (hd:∀H',Ext H1 H'->Q (xs.filterMap f) H'):qDj (Itl K a) σ0 g tt te Q H1:=by
 refine qA1 (xs:=xs) (λi ys H=>Ext H1 H/\ys=(xs.take i).filterMap f) ⟨Ext.refl _,by simp⟩ (λi ys H _ h=>h.1.sqL hS) ?_ ?_
 ·rintro i x ys H hx ⟨he,rfl⟩;have hi:i<xs.length:=(hAc.mp hx).1;have hm:x∈xs:=hAs hx;have tk:(xs.take (i+1)).filterMap f=(xs.take i).filterMap f++(f x).toList:=by
   rw[hCv,hx,hCc];cases e:f x <;> simp[e]
  have hl:((xs.take i).filterMap f).length<sizeLine:=by
   have h1:=hCh f (xs.take i);rw[hAn]at h1;omega
  refine hs x hm H he (λo H4=>match o with|some v=>((xs.take i).filterMap f).length<sizeLine/\Nxt xs.length i _ ((xs.take i).filterMap f++[v]) H4|none=>Nxt xs.length i _ ((xs.take i).filterMap f) H4) (λH' he'=>?_);cases e:f x with
  |none=>exact nxt hi ⟨he.trans he',by rw[tk,e];simp⟩
  |some v=>exact⟨hl,nxt hi ⟨he.trans he',by rw[tk,e];simp⟩⟩
 ·rintro ys H ⟨he,rfl⟩;rw[hA9 (hA3 _)];exact hd H he
end
theorem qFe(n:Str):∀other:List Str,inV (.str n) (other.map V.str)=decide (n∈other)
 |[]=>by simp[inV]
 |x :: r=>by
  have ih:=qFe n r;unfold inV at ih ⊢;rw[hAv,hD9,ih];show(x == n || decide (n∈r))=_;by_cases e:n=x
  ·subst e;simp
  ·have e':¬x=n:=λz=>e z.symm
   simp[e,e']
theorem qDs:∀other:List Str,(other.map V.str).all qI5=true:=λother=>by
 rw[hBx];intro x hx;obtain⟨y,_,rfl⟩:=hAe.mp hx;rfl
def LsS(H:Hp)(a:Addr)(ss:List Str):Prop:=H a=some (.lst (ss.map V.str))
abbrev sg:Str:="abcdefghijklmnopqrstuvwxyz0123456789"
def sgC(n:Nat):Nat:=sg.cps.toList.getD n 0
theorem qM1:sg.cps.toList.length=36:=by decide +kernel
theorem zDc:sg.cps.toList.Nodup:=by decide +kernel
theorem qTa:∀c∈sg.cps.toList,c<128:=by decide +kernel
theorem zAg{i:Int}(h0:0<=i)(h1:i<36):atI sg.cps.toList i=some (sgC i.toNat):=by
 have hk:i.toNat<sg.cps.toList.length:=by rw[qM1];omega
 have:=qAv (xs:=sg.cps.toList) (j:=i.toNat) (v:=sgC i.toNat) (by
  unfold sgC;rw[hA5,hA2 hk];rfl)
 rw[hCp h0]at this;exact this
theorem qWx{i j:Nat}(hi:i<36)(hj:j<36)(e:sgC i=sgC j):i=j:=by
 have hi':i<sg.cps.toList.length:=by rw[qM1];exact hi
 have hj':j<sg.cps.toList.length:=by rw[qM1];exact hj
 unfold sgC at e;rw[hA5,hA5,hA2 hi',hA2 hj']at e;exact(List.getElem_inj zDc).mp e
def Sm(x:Str):Prop:=∀c∈x.cps.toList,c<128
theorem Sm.ok{x:Str}(h:Sm x):PyData.strOk x=true:=by
 unfold PyData.strOk;rw[Array.all_eq_true_iff_forall_mem];intro c hc;have:=h c (by simpa using hc);exact hDp (by omega)
def qFr(r:List Str):PyData:=.list (r.map .str)
def qOv(F:List (List Str)):PyData:=.list (F.map qFr)
theorem qN0:∀a b:List Str,PyData.eqvAll (a.map .str) (b.map .str)=decide (a=b)
 |[],[]=>rfl
 |[],_ :: _=>rfl
 |_ :: _,[]=>rfl
 |x :: a,y :: b=>by
  show(x == y && PyData.eqvAll (a.map .str) (b.map .str))=_;rw[qN0 a b];by_cases e:x=y
  ·subst e;simp
  ·simp[e]
theorem qSb(a b:List Str):PyData.eqv (qFr a) (qFr b)=decide (a=b):=qN0 a b
def SOk(r:List Str):Prop:=∀x∈r,PyData.strOk x=true
theorem qEt:∀ {r:List Str},SOk r->PyData.canLayAll0 (r.map .str)=true/\PyData.depthAll (r.map .str)=0
 |[],_=>⟨rfl,rfl⟩
 |x :: r,h=>by
  obtain⟨h1,h2⟩:=qEt (r:=r) λy hy=>h y (hA4 _ hy)
  refine⟨?_,?_⟩
  ·show(PyData.strOk x && PyData.canLayAll0 (r.map .str))=true;rw[h1,h x hA6];rfl
  ·show max 0 (PyData.depthAll (r.map .str))=0;rw[h2];rfl
theorem qOi{r:List Str}(h:SOk r):SeqAt.shaped (qFr r)=true:=by
 obtain⟨h3,h4⟩:=qEt h;show(PyData.canLayAll0 (r.map .str) && decide (PyData.depthAll (r.map .str)+1<=64))=true;rw[h3,h4];rfl
theorem qI8{K:PySem.W.Frag}{H:Hp}:∀r:List Str,DRs K H (r.map V.str) (r.map .str)
 |[]=>.nil
 |x :: r=>.cons (.str x) (qI8 r)
theorem qH0{K:PySem.W.Frag}{H:Hp}{a:Addr}{r:List Str}(h:LsS H a r):DR K H (.ref a) (qFr r):=.lst (SqL.of h) (qI8 r)
theorem qQ0{k:Nat}{A:Around}(hr:Room k A):A.units+64<cLine:=by have:=hr.un;omega
theorem qBe:bootBuiltins "list"=some (.type "list"):=by decide +kernel
theorem qG8:bootBuiltins "str"=some (.type "str"):=by decide +kernel
theorem qBa:bootBuiltins "sorted"=some (.builtin "sorted"):=by decide +kernel
theorem qCi:bootBuiltins "all"=some (.builtin "all"):=by decide +kernel
theorem qKu:bootBuiltins "set"=some (.type "set"):=by decide +kernel
theorem qCb:bootBuiltins "tuple"=some (.type "tuple"):=by decide +kernel
end My
namespace L2
open PySem PySem.Spec PyProof.Rows
def zEo(Pm:St->Hp->Prop)(t:TS):TS:=λD σ H=>t { D with nx:=Pm } σ H/\∀σ' H',Pm σ' H'->D.nx σ' H'
theorem qVs{X:Cx}{st:Stmt}{t:TS}(Pm:St->Hp->Prop)(h:PS X st t):PS X st (zEo Pm t):=by
 intro aB s σ H D I hw;refine thn (h aB s σ H { D with nx:=Pm } I hw.1) λfl s' q=>?_
 cases fl with
 |next=>obtain⟨σ',H',I',q⟩:=q;exact⟨σ',H',I',hw.2 σ' H' q⟩
 |brk=>exact q
 |cont=>exact q
 |ret u=>exact q
end L2
namespace My
open PySem L2
theorem qC8{α:Type}{P:List α->Prop}(h0:P [])(hs:∀l t,P l->P (l++[t]))(l:List α):P l:=by
 have:∀r:List α,P r.reverse:=λr=>by
  induction r with
  |nil=>exact h0
  |cons a r ih=>rw[List.reverse_cons];exact hs _ _ ih
 have q:=this l.reverse
 rwa [List.reverse_reverse]at q
abbrev Tr:=Str×Str×Str
abbrev lab(f:Str->Str)(t:Tr):Str->Str:=λp=>if f p=f t.2.2 then f t.2.1 else f p
def qA3(net:List Tr):Str->Str:=net.foldl lab id
theorem qCu(net:List Tr)(t:Tr):qA3 (net++[t])=lab (qA3 net) t:=by unfold qA3;rw[hC5];rfl
def qI0(net:List Tr)(x:Str):Prop:=∃t∈net,x=t.2.1\/x=t.2.2
theorem qEu{net:List Tr}{t:Tr}{x:Str}:qI0 (net++[t]) x↔qI0 net x\/x=t.2.1\/x=t.2.2:=by
 unfold qI0;constructor
 ·rintro⟨u,hu,h⟩;rcases hAh.mp hu with z|z
  ·exact .inl ⟨u,z,h⟩
  ·rw[hAa]at z;subst z;exact .inr h
 ·rintro(⟨u,hu,h⟩|h)
  ·exact⟨u,hAk _ hu,h⟩
  ·exact⟨t,hAb _ (hAa.mpr rfl),h⟩
theorem qNx(net:List Tr):∀t∈net,qA3 net t.2.1=qA3 net t.2.2:=by
 refine qC8 (P:=λnet=>∀t∈net,qA3 net t.2.1=qA3 net t.2.2) (λt h=>by cases h) (λl t ih=>?_) net;intro u hu;rw[qCu];show(if qA3 l u.2.1=qA3 l t.2.2 then qA3 l t.2.1 else qA3 l u.2.1)=if qA3 l u.2.2=qA3 l t.2.2 then qA3 l t.2.1 else qA3 l u.2.2
 rcases hAh.mp hu with z|z
 ·rw[ih u z]
 ·rw[hAa]at z;subst z;rw[hDu rfl];split <;> rfl
def qOb(kept:List Tr)(t:Tr):List Tr:=if qA3 kept t.2.1=qA3 kept t.2.2 then kept else kept++[t]
def qCc(net:List Tr):List Tr:=net.foldl qOb []
theorem qDu(net:List Tr)(t:Tr):qCc (net++[t])=qOb (qCc net) t:=by unfold qCc;rw[hC5];rfl
theorem qNu{f:Str->Str}{t:Tr}(h:f t.2.1=f t.2.2):lab f t=f:=by
 funext p
 show(if f p=f t.2.2 then f t.2.1 else f p)=f p;split
 ·rename_i e;rw[e,h]
 ·rfl
theorem qG1(net:List Tr):qA3 (qCc net)=qA3 net:=by
 refine qC8 (P:=λnet=>qA3 (qCc net)=qA3 net) rfl (λl t ih=>?_) net;rw[qDu,qCu];unfold qOb;rw[ih];split
 ·rename_i e;rw[ih,qNu e]
 ·rw[qCu,ih]
theorem qRn{l1 l2:List Str}(h1:l1.Nodup)(h2:l2.Nodup)(h:∀x,x∈l1↔x∈l2):l1.length=l2.length:=((List.perm_ext_iff_of_nodup h1 h2).mpr h).length_eq
theorem count(ps:List Str)(nd:ps.Nodup)(net:List Tr):(∀x,qI0 net x->x∈ps)->∃labs:List Str,labs.Nodup/\(∀x,x∈labs↔∃p∈ps,qA3 net p=x)/\labs.length+(qCc net).length=ps.length:=by
 refine qC8 (P:=λnet=>(∀x,qI0 net x->x∈ps)->∃labs:List Str,labs.Nodup/\(∀x,x∈labs↔∃p∈ps,qA3 net p=x)/\labs.length+(qCc net).length=ps.length) (λ_=>⟨ps,nd,λx=>⟨λh=>⟨x,h,rfl⟩,λ⟨p,hp,e⟩=>e▸hp⟩,rfl⟩) (λl t ih hp=>?_) net;obtain⟨labs,n1,m1,c1⟩:=ih λx hx=>hp x (qEu.mpr (.inl hx))
 have o1:t.2.1∈ps:=hp _ (qEu.mpr (.inr (.inl rfl)));have o2:t.2.2∈ps:=hp _ (qEu.mpr (.inr (.inr rfl)));rw[qCu,qDu];unfold qOb;rw[qG1];by_cases e:qA3 l t.2.1=qA3 l t.2.2
 ·rw[hDu e,qNu e];exact⟨labs,n1,m1,c1⟩
 ·rw[hDt e];have mo:qA3 l t.2.2∈labs:=(m1 _).mpr ⟨_,o2,rfl⟩;refine⟨labs.erase (qA3 l t.2.2),n1.erase _,λx=>?_,?_⟩
  ·rw[n1.mem_erase_iff,m1];constructor
   ·rintro⟨nx,p,hp',ex⟩;refine⟨p,hp',?_⟩;show(if qA3 l p=qA3 l t.2.2 then qA3 l t.2.1 else qA3 l p)=x;rw[hDt (by rw[ex];exact nx),ex]
   ·rintro⟨p,hp',ex⟩;have ex':(if qA3 l p=qA3 l t.2.2 then qA3 l t.2.1 else qA3 l p)=x:=ex;by_cases z:qA3 l p=qA3 l t.2.2
    ·rw[hDu z]at ex';exact⟨by rw[<-ex'];exact e,_,o1,ex'⟩
    ·rw[hDt z]at ex';exact⟨by rw[<-ex'];exact z,p,hp',ex'⟩
  ·rw[List.length_erase_of_mem mo,hAd];have:0<labs.length:=List.length_pos_of_mem mo;show labs.length-1+((qCc l).length+1)=_;omega
abbrev qD5(l:List Str):Prop:=l.Pairwise λa b=>qLl a b=true
abbrev trV(t:Tr):List V:=[.str t.1,.str t.2.1,.str t.2.2]
def qA5(H:Hp)(p:Addr)(net:List Tr):Prop:=∃as:List Addr,H p=some (.lst (as.map V.ref))/\Paired (λa t=>H a=some (.tup (trV t))) as net
theorem qA5.ext{H H':Hp}{p:Addr}{net:List Tr}(h:qA5 H p net)(e:Ext H H'):qA5 H' p net:=by
 obtain⟨as,h1,h2⟩:=h;exact⟨as,e _ _ h1,Paired.mapP h2 λa t z=>e _ _ z⟩
theorem qBw{α β:Type}{R:α->β->Prop}:∀ {as:List α} {bs:List β} {i:Nat} {a:α},Paired R as bs->as[i]?=some a->∃b,bs[i]?=some b/\R a b
 |_,_,_,_,.nil,e=>by simp at e
 |_,_,0,_,.cons h _,e=>by simp at e;subst e;exact⟨_,rfl,h⟩
 |_,_,i+1,_,.cons _ t,e=>by
  obtain⟨b,h1,h2⟩:=qBw (i:=i) t (by simpa using e);exact⟨b,by simpa using h1,h2⟩
theorem qDc{H:Hp}{as:List Addr}{net:List Tr}{i:Nat}{x:V}(h:Paired (λa t=>H a=some (.tup (trV t))) as net)(e:(as.map V.ref)[i]?=some x):∃a t,x = .ref a/\net[i]?=some t/\H a=some (.tup (trV t)):=by
 rw[hAj]at e;cases ha:as[i]? with
 |none=>rw[ha]at e;cases e
 |some a =>
  rw[ha]at e;obtain⟨t,h1,h2⟩:=qBw h ha;exact⟨a,t,(hAr e).symm,h1,h2⟩
theorem qAr{α:Type}{l:List α}{i:Nat}{t:α}(h:l[i]?=some t):l.take (i+1)=l.take i++[t]:=by rw[hCv,h];rfl
theorem qBq{α:Type}{l:List α}{i:Nat}{t:α}(h:l[i]?=some t):i<l.length:=(hAc.mp h).1
theorem qQ2:∀(l:List Str) (p:Str),PyProof.Rows.risingS p l=true->(p :: l).Nodup->qD5 (p :: l)
 |[],p,_,_=>List.pairwise_singleton _ _
 |x :: r,p,h,nd=>by
  have h':(!PySem.Spec.ltCps x.cps.toList p.cps.toList && PyProof.Rows.risingS x r)=true:=h;rw[hB9]at h';have nd':=hBq.mp nd;have ih:=qQ2 r x h'.2 nd'.2;have px:qLl p x=true:=by
   have z:=h'.1;rw[PyProof.Rows.ltCps_eq]at z;rcases qIl p x with t|t|t
   ·exact t
   ·exact absurd t (λe=>nd'.1 (by rw[e];exact hA6))
   ·rw[hDp (hDs t)]at z;cases z
  refine hBl.mpr ⟨λy hy=>?_,ih⟩;rcases hA8.mp hy with e|hy
  ·rw[e];exact px
  ·exact qC4 px ((hBl.mp ih).1 y hy)
theorem qW9{l:List Str}(h:PyProof.Rows.sortedS l=true)(nd:l.Nodup):qD5 l:=by
 cases l with
 |nil=>exact List.Pairwise.nil
 |cons x r=>exact qQ2 r x h nd
def qHd(net:List Tr)(ps:List Str):Prop:=ps.Nodup/\∀x,x∈ps↔qI0 net x
def qMw:Sp:=λvs H Q _=>∃(p:Addr) (net:List Tr),vs=[.ref p]/\qA5 H p net/\net.length<=12/\∀r ps H',Ext H H'->H r=none->LsS H' r ps->qHd net ps->qD5 ps->ps.length<=24->Q (.ref r) H'
section
variable{P:Program}{w:World}{K:PySem.W.Frag}{mg:Str->Option Value}{base:Heap}{f f1:Addr}{fd fd1:FuncData}
theorem qTc:FnScope ["net"] ["net"] (qAa qEb):=fsk
abbrev ptN:List Str:=["tie","one","other","end"]
theorem qRl(F:Fun K "points" "points" qEb f fd)(mso:mg "sorted"=none):v7 1 f fd ["net"] qMw:=by
 refine F.okA qTc λcdv A outer s H vs Q E hr h=>?_
 obtain⟨p,net,rfl,⟨as,hp,pr⟩,hl,q⟩:=h;refine⟨_,qAe (qAo (qAg (qC3 rfl) rfl mso qBa (qAd
  (zE4 qY0 rfl (N:=["net"]) (sc:=qAa qEb) (N':=ptN) (sub:=[none,none,none,none]) rfl rfl (CmpOk.of (by decide +kernel)) rfl (qAx (pv 0))
   (λC s H fp=>⟨(show PG _ _ (qUp K 3 _) from qCe rfl (qAi (qAh (i:=0) (by show ptN.Nodup;decide) rfl (Or.inl rfl)) (qAi (qAh (i:=1) (by show ptN.Nodup;decide) rfl (Or.inl rfl)) (qAi (qAh (i:=2) (by show ptN.Nodup;decide) rfl (Or.inl rfl)) qBj)))),qA4,
    λacc=>qTv rfl rfl (show PI _ _ _ (zEe K _) from qJv (qBk (qAd (pv 1) (pa1 (pv 2))))) (qAh (i:=3) (by show ptN.Nodup;decide) rfl (Or.inl rfl)) qA4 (qXs rfl (pv 3)) (λ_=>rfl) rfl rfl (λ_=>rfl) (λ_ _ _ _ _ h=>h) (λ_ _ _ _ _ h=>h) (λ_=>rfl)⟩)) qAs))),?_⟩
 have lA:as.length=net.length:=pr.length;refine⟨_,rfl,p,rfl,⟨_,SqL.of hp⟩,?_⟩;refine qV4 (xs:=as.map V.ref) (λi ss σ H'=>Ext H H'/\(∃x0 x1 x2 x3:Option V,σ=[x0,x1,x2,x3])/\ss.Nodup/\(∀x,x∈ss↔qI0 (net.take i) x)/\ss.length<=2*i) ⟨Ext.refl _,⟨none,none,none,none,rfl⟩,hDg,λx=>⟨λz=>(by cases z),λ⟨t,ht,_⟩=>(by simp at ht)⟩,hAq _⟩ (λi ss σ H' _ h=>SqL.of (h.1 _ _ hp)) ?_ ?_
 ·rintro i x ss σ H' hx ⟨he,⟨x0,x1,x2,x3,rfl⟩,nd,mem,ln⟩;obtain⟨a,t,rfl,ht,ha⟩:=qDc pr hx;have hi:=qBq ht;refine⟨a,_,rfl,SqT.of (he _ _ ha),rfl,_,_,rfl,_,_,rfl,_,_,rfl,rfl,iteT (B:=False) ?_⟩;refine⟨_,rfl,_,rfl,(by show 2<=sizeLine;decide),λT hT=>⟨T,rfl,⟨_,SqT.of upd_same⟩,?_⟩⟩;have X1:=Ext.new hT (.tup [V.str t.2.1,V.str t.2.2]);refine qY2 (xs:=[V.str t.2.1,V.str t.2.2]) (λj ss σ H2=>Ext (upd H' T (.tup [V.str t.2.1,V.str t.2.2])) H2/\(∃y:Option V,σ=[some (.str t.1),some (.str t.2.1),some (.str t.2.2),y])/\ss.Nodup/\(∀x,x∈ss↔qI0 (net.take i) x\/(0<j/\x=t.2.1)\/(1<j/\x=t.2.2))/\ss.length<=2*i+j)
   ⟨Ext.refl _,⟨_,rfl⟩,nd,λx=>by rw[mem];simp,by omega⟩ (λj ss σ H2 _ h=>SqT.of (h.1 _ _ upd_same)) ?_ ?_
  ·rintro j z ss2 σ H2 hz ⟨h2,⟨y,rfl⟩,nd2,mem2,ln2⟩;have hj:j<2:=qBq hz;obtain⟨v,rfl,hv⟩:∃v:Str,z = .str v/\((j=0/\v=t.2.1)\/(j=1/\v=t.2.2)):=by
    rcases(show j=0\/j=1 by omega) with rfl|rfl
    ·exact⟨t.2.1,(hAr hz).symm,.inl ⟨rfl,rfl⟩⟩
    ·exact⟨t.2.2,(hAr hz).symm,.inr ⟨rfl,rfl⟩⟩
   refine iteT (B:=False) ⟨_,rfl,v,rfl,by omega,λss3 h3=>nxg hj ⟨h2,⟨_,rfl⟩,?_⟩⟩;have key:ss3.Nodup/\(∀x,x∈ss3↔x∈ss2\/x=v)/\ss3.length<=ss2.length+1:=by
    by_cases m:v∈ss2
    ·rw[hDu m]at h3;subst h3;exact⟨nd2,λx=>⟨.inl,λz=>z.elim id λe=>e▸m⟩,hAy _⟩
    ·rw[hDt m]at h3;refine⟨h3.nodup_iff.mpr ?_,λx=>by rw[h3.mem_iff,hAh,hAa],by rw[h3.length_eq,hAd];exact hA3 _⟩;rw[hDa];exact⟨nd2,by simp,λy hy z hz=>by rw[hAa]at hz;subst hz;rintro rfl;exact m hy⟩
   refine⟨key.1,λx=>?_,by have:=key.2.2;omega⟩;rw[key.2.1,mem2];rcases hv with ⟨rfl,rfl⟩|⟨rfl,rfl⟩
   ·simp
   ·simp[or_assoc]
  ·rintro ss2 σ H2 ⟨h2,⟨y,rfl⟩,nd2,mem2,ln2⟩;refine nxg (qBq hx) ⟨he.trans (X1.trans h2),⟨_,_,_,_,rfl⟩,nd2,λx=>?_,by have:ss2.length<=2*i+2:=ln2;omega⟩;rw[mem2,qAr ht,qEu];simp
 ·rintro ss σ H' ⟨he,_,nd,mem,ln⟩ r hr1;rw[hA1,lA,hA9 (hA3 _)]at mem;rw[hA1,lA]at ln;refine⟨r,ss,rfl,upd_same,by omega,λr2 ss2 hr2 pm srt=>?_⟩;exact q r2 ss2 _ ((he.trans (Ext.new hr1 _)).trans (Ext.new hr2 _)) ((he.trans (Ext.new hr1 _)).none hr2) upd_same ⟨pm.nodup_iff.mpr nd,λx=>by rw[pm.mem_iff,mem]⟩ (qW9 srt (pm.nodup_iff.mpr nd)) (by rw[pm.length_eq];omega)
end
theorem Ext.over{H H':Hp}{d:Addr}(e:Ext H H')(h:H d=Option.none)(o:HO):Ext H (upd H' d o):=λb u q=>by rw[qAj (qAq q h)];exact e b u q
def hD(ps:List Str)(f:Str->Str):List (Key×V):=ps.map λp=>(Sum.inr p,V.str (f p))
theorem zDh{k:Nat}{A:Around}(hr:Room k A):A.units+2<cLine:=by have:=hr.un;omega
def qH3(H:Hp)(p:Addr)(F:List (List Str)):Prop:=∃as:List Addr,H p=some (.lst (as.map V.ref))/\Paired (LsS H) as F
theorem qH3.ext{H H':Hp}{p:Addr}{F:List (List Str)}(h:qH3 H p F)(e:Ext H H'):qH3 H' p F:=by
 obtain⟨as,h1,h2⟩:=h;exact⟨as,e _ _ h1,Paired.mapP h2 λa r z=>e _ _ z⟩
def qPh(H0 H:Hp)(fo:Addr)(F:List (List Str)):Prop:=∃as:List Addr,H fo=some (.lst (as.map V.ref))/\Paired (λa r=>LsS H a r/\H0 a=none/\a≠fo) as F
theorem qPh.rows{H0 H:Hp}{p:Addr}{F:List (List Str)}(h:qPh H0 H p F):qH3 H p F:=by
 obtain⟨as,h1,h2⟩:=h;exact⟨as,h1,Paired.mapP h2 λa r z=>z.1⟩
theorem qPh.ext{H0 H H':Hp}{p:Addr}{F:List (List Str)}(h:qPh H0 H p F)(e:Ext H H'):qPh H0 H' p F:=by
 obtain⟨as,h1,h2⟩:=h;exact⟨as,e _ _ h1,Paired.mapP h2 λa r z=>⟨e _ _ z.1,z.2⟩⟩
theorem qGn{α β:Type}{R:α->β->Prop}:∀ {as:List α} {bs:List β},Paired R as bs->∀a∈as,∃b∈bs,R a b
 |_,_,.nil,a,h=>by cases h
 |_,_,.cons h t,a,ha=>by
  rcases hA8.mp ha with rfl|z
  ·exact⟨_,hA6,h⟩
  ·obtain⟨b,hb,hr⟩:=qGn t a z;exact⟨b,hA4 _ hb,hr⟩
theorem qMc(as:List Addr):(List.range as.length).map (λi=>as.getD i 0)=as:=by
 refine hDb λi=>?_
 by_cases hi:i<as.length
 ·rw[hAj,hDl hi,hA2 hi];show some (as.getD i 0)=_;rw[hA5,hA2 hi];rfl
 ·rw[hBk (by simp;omega),hBk (by omega)]
theorem pick_perm{as:List Addr}{o:Array Nat}(g:Gd as.length o):(o.toList.map λi=>as.getD i 0).Perm as :=
 ((hBy.mp g).map λi=>as.getD i 0).trans (List.Perm.of_eq (qMc as))
theorem qJx{R:Addr->List Str->Prop}:∀ {as:List Addr} {ts:List (List Str)} {i:Nat},Paired R as ts->i<as.length->R (as.getD i 0) (ts.getD i [])
 |_,_,i,.nil,hi=>absurd hi (hC0 _)
 |_,_,0,.cons h _,_=>h
 |_,_,i+1,.cons _ t,hi=>by simpa using qJx (i:=i) t (by simpa using hi)
theorem qGm{R:Addr->List Str->Prop}{as:List Addr}{ts:List (List Str)}(pr:Paired R as ts):∀ {l:List Nat},(∀i∈l,i<as.length)->Paired R (l.map λi=>as.getD i 0) (l.map λi=>ts.getD i [])
 |[],_=>.nil
 |i :: l,h=>.cons (qJx pr (h i hA6)) (qGm pr λj hj=>h j (hA4 _ hj))
def Sgd(s:Str):Prop:=∀c∈s.cps.toList,c∈sg.cps.toList
theorem qWw{i:Nat}(hi:i<36):sgC i∈sg.cps.toList:=by
 have hi':i<sg.cps.toList.length:=by rw[qM1];exact hi
 unfold sgC;rw[hA5,hA2 hi'];exact hBf hi'
theorem Sgd.sm{s:Str}(h:Sgd s):Sm s:=λc hc=>qTa c (h c hc)
theorem Sgd.app{x y:Str}(h:Sgd x)(h':Sgd y):Sgd (x++y):=λc hc=>by
 rw[Str.cps_append,Array.toList_append,hAh]at hc;exact hc.elim (h c) (h' c)
theorem Sgd.one{i:Nat}(hi:i<36):Sgd ⟨#[sgC i]⟩:=λd hd=>by
 have:d=sgC i:=by simpa using hd
 rw[this];exact qWw hi
theorem Sgd.nil:Sgd "":=λc hc=>by
 have:c∈([]:List Nat):=hc;cases this
theorem Sgd.slice{x:Str}(h:Sgd x)(l u:Option Int):Sgd (Txt.slice x l u):=λc hc=>by
 unfold Txt.slice at hc;split at hc
 ·exact h c hc
 ·simp only[hD5]at hc;obtain⟨i,_,hi⟩:=hc;exact h c (by simpa using Array.mem_of_getElem? hi)
def qDk(s:Str):Prop:=Sgd s/\1<=s.length/\s.length<=6
theorem qLc{x:Str}{j:Int}(h0:0<=j)(h1:j<=x.length):(Txt.slice x none (some j)).length<=j.toNat:=by
 have e:Txt.slice x none (some j)=_:=PySem.StrLaws.sliceText_to (x:=x) (j:=j) ⟨h0,h1⟩;rw[e];show(List.toArray _).size<=_;rw[hAf,hAn];omega
theorem qIe{x:Str}{j:Int}(h0:0<=j)(h1:j<=x.length):(Txt.slice x (some j) none).length<=x.length-j.toNat:=by
 have e:Txt.slice x (some j) none=_:=PySem.StrLaws.sliceText_from (x:=x) (i:=j) ⟨h0,h1⟩;rw[e];show(List.toArray _).size<=_;rw[hAf,hAn,hDh];have:x.cps.toList.length=x.length:=rfl;omega
def qWs(K:PySem.W.Frag):Sp:=λvs H Q _=>∃(a:Addr) (ns:List Int) (k:Int),vs=[.ref a,.int k]/\SqL K H a (ns.map V.int)/\0<=k/\k<=100/\∀v,Q (.int v) H
def Tx(ss:List Str):Prop:=∀s∈ss,qDk s
def qP7:Sp:=λvs H Q _=>∃(b n:Int),vs=[.int b,.int n]/\0<=n/\n<=100/\∀(r:Addr) (ss:List Str) (H':Hp),Ext H H'->H r=none->LsS H' r ss->ss.length=n.toNat->Tx ss->(n<=36->ss.Nodup)->Q (.ref r) H'
def nmF(pre post:Str)(f:Int)(k:Nat):Str:=pre++⟨#[sgC ((f+7*(0+(k:Int))) % 36).toNat]⟩++post
theorem qYi{pre post:Str}{f:Int}{i j:Nat}(hi:i<36)(hj:j<36)(e:nmF pre post f i=nmF pre post f j):i=j:=by
 have e1:=congrArg (λs:Str=>s.cps.toList) e;unfold nmF at e1;simp only[Str.cps_append,Array.toList_append]at e1;have e2:=List.append_cancel_left (List.append_cancel_right e1);have a0:=hBw (f+7*(0+(i:Int))) (show(36:Int)≠0 by decide);have a1:=hBm (f+7*(0+(i:Int))) (show(0:Int)<36 by decide);have b0:=hBw (f+7*(0+(j:Int))) (show(36:Int)≠0 by decide);have b1:=hBm (f+7*(0+(j:Int))) (show(0:Int)<36 by decide);have e3:sgC ((f+7*(0+(i:Int))) % 36).toNat=sgC ((f+7*(0+(j:Int))) % 36).toNat:=by simpa using e2
 have e4:=qWx (by omega) (by omega) e3;omega
theorem qNk{g:Nat->Str}:∀ {n:Nat},(∀i j,i<n->j<n->g i=g j->i=j)->((List.range n).map g).Nodup
 |0,_=>hDg
 |n+1,h=>by
  rw[hCd,hA7,hDa];refine⟨qNk λi j hi hj=>h i j (by omega) (by omega),by simp,λa ha b hb=>?_⟩;obtain⟨i,hi,rfl⟩:=hAe.mp ha;rw[hBc,hAa]at hb;subst hb;rw[hB4]at hi;intro z;have:=h i n (by omega) (by omega) z;omega
section
variable{P:Program}{w:World}{K:PySem.W.Frag}{mg:Str->Option Value}{base:Heap}{f f1 f2:Addr}{fd fd1 fd2:FuncData}
abbrev bgN:List Str:=["_law_script","_law_k","_law_x","_law_total","_law_j"]
theorem qLe:FnScope bgN ["_law_script","_law_k"] (qAa qZl):=fsk
theorem zBe(F:Fun K "_law_big" "_law_big" qZl f fd)(G:v8 1 f1 fd1 ["_law_script","_law_k"] (qVd K) "_law_cell_at")(mr:mg "range"=none)(ma:mg "abs"=none) :
  v7 2 f fd ["_law_script","_law_k"] (qWs K):=by
 refine F.okA qLe λcdv A outer s H vs Q E hr h=>?_
 obtain⟨a,ns,k,rfl,hS,h0,h1,q⟩:=h;refine⟨_,qAb (qBl (qAm zDm (qAg qN4 rfl ma qKw (pa1 (qA0 G hr rfl .nil qA2 (qAd (pv 0) (pa1 (pv 1)))))) (qAl qVz qAc qAc) (qAu _))
   (qAe (qAo (qAl qGq (qAg qN4 rfl ma qKw (pa1 (qA0 G hr rfl .nil qA2 (qAd (pv 0) (pa1 (pv 1)))))) (qAl qVz qAc qAc)))) qAw)
  (qAb (v0 2 qLe (qAl qCf (qAl qCf (qAl qCf (qAl qB4 (qA0 G hr rfl .nil qA2 (qAd (pv 0) (pa1 qAc))) qAc) (qAl qEn qAc (pv 1))) (qAl qEn qAc (qA0 G hr rfl .nil qA2 (qAd (pv 0) (pa1 (pv 1)))))) qAc))
  (qAb (v0 2 qLe (qAl qCf (qAl qB4 (pv 2) qAc) qAc))
  (qAb (v0 3 qLe qAc)
  (qAb (qCp PassesOwn.never rfl (qCq rfl mr (pa1 qAc)) (v4 4 qLe)
   (qAb (v0 2 qLe (qAl qB4 (qAl qCf (qAl qCf (qAl qCf (qAl qEn (pv 2) qAc) (qAl qBs (pv 2) qAc)) (qAl qEn (qAl qEn qAc (pv 4)) (pv 4))) (pv 1)) qAc))
   (qAe (v0 3 qLe (qAl qCf (qAl qEn (pv 3) qAc) (qAl qB4 (qAl qEn (pv 2) qAc) qAc))))))
  (qAe (qAo (pv 3))))))),?_⟩
 refine⟨_,rfl,_,rfl,a,ns,k,rfl,hS,h0,λv=>⟨v,rfl,?_⟩⟩;refine⟨_,_,rfl,rfl,⟨by decide,by decide,by decide⟩,_,_,rfl,rfl,_,rfl,?_⟩;refine qB1 (λc=>?_) (λc=>?_)
 ·refine⟨_,rfl,_,rfl,a,ns,k,rfl,hS,h0,λv=>⟨v,rfl,?_⟩⟩;exact⟨_,_,rfl,rfl,⟨by decide,by decide,by decide⟩,_,_,rfl,rfl,q _⟩
 refine⟨_,rfl,a,ns,0,rfl,hS,by decide,λv1=>?_⟩;refine⟨_,_,rfl,rfl,(by show(0:Int)<_;decide),_,rfl,_,_,rfl,rfl,.inl ⟨by decide,by decide⟩,_,_,rfl,rfl,?_⟩;refine⟨_,rfl,_,rfl,a,ns,k,rfl,hS,h0,λv2=>?_⟩;refine⟨_,_,rfl,rfl,.inl ⟨by decide,by decide⟩,_,_,rfl,rfl,_,_,rfl,rfl,?_⟩;refine⟨_,rfl,_,_,rfl,rfl,(by show(0:Int)<_;decide),_,_,rfl,rfl,?_⟩;refine⟨8,rfl,by decide,by decide,qDr (lo:=0) (n:=8) (λi σ H'=>H'=H/\∃(x t:Int) (z:Option V),σ=[some (.ref a),some (.int k),some (.int x),some (.int t),z]) ⟨rfl,_,0,none,rfl⟩ ?_ ?_⟩
 ·rintro i σ H' hi ⟨rfl,x,t,z,rfl⟩;refine⟨_,rfl,_,_,rfl,rfl,.inr ⟨by decide,by decide⟩,_,rfl,_,_,rfl,rfl,⟨by decide,by decide⟩,_,_,rfl,rfl,?_⟩;refine⟨_,rfl,_,_,rfl,rfl,.inl ⟨by decide,by decide⟩,_,rfl,_,_,rfl,rfl,.inr ⟨by omega,by omega⟩,_,_,rfl,rfl,?_⟩;refine⟨_,rfl,_,_,rfl,rfl,_,_,rfl,rfl,(by show(0:Int)<_;decide),?_⟩;refine⟨_,rfl,_,_,rfl,rfl,.inr ⟨by decide,by decide⟩,_,rfl,_,_,rfl,rfl,.inr ⟨by decide,by decide⟩,_,_,rfl,rfl,(by show(0:Int)<_;decide),_,_,rfl,rfl,?_⟩;exact⟨rfl,_,_,_,rfl⟩
 ·rintro σ H' ⟨rfl,x,t,z,rfl⟩;exact⟨_,rfl,q _⟩
abbrev naN:List Str:=["_law_big_here","_law_many","_law_signs","_law_word_here","_law_k","_law_spot","_law_first","_law_head","_law_tail"]
theorem qC0:FnScope naN ["_law_big_here","_law_many"] (qAa qGc):=fsk
theorem qT0(F:Fun K "_law_names" "_law_names" qGc f fd)(mr:mg "range"=none)(ml:mg "len"=none):v7 1 f fd ["_law_big_here","_law_many"] qP7:=by
 refine F.okA qC0 λcdv A outer s H vs Q E hr h=>?_
 obtain⟨b,n,rfl,n0,n1,q⟩:=h;refine⟨_,qAb (v5 2 qC0 qA9)
  (qAb (v0 3 qC0 qA9)
  (qAb (qCp PassesOwn.never rfl (qCq rfl mr (pa1 (qAl qCf qAc (qAl qB4 (pv 0) qAc)))) (v4 4 qC0)
   (qAb (v0 3 qC0 (qAl qDz (pv 3) (qA6 qV3 (pv 2) (qAl qB4 (qAl qBs (pv 0) qAc) qAc) (λ_ _=>rfl))))
   (qAe (v0 0 qC0 (qAl qBs (pv 0) qAc)))))
  (qAb (v0 5 qC0 (qAl qB4 (qAl qBs (pv 0) qAc) (qAg qCy rfl ml hB1 (pa1 (pv 3)))))
  (qAb (v5 6 qC0 (qAl qB4 (qAl qBs (pv 0) qAc) qAc))
  (qAb (qGl (qBk (qAd (qFx qVg (pv 3) qIs (qIr (pv 5))) (pa1 (qFx qVg (pv 3) (qIr (qAl qCf (pv 5) qAc)) qIs)))) (qCe rfl (qAi (v6 7 qC0) (qAi (v6 8 qC0) qBj))))
  (qAe (qAo (qCr (N:=naN) (sc:=qAa qGc) (N':=["_law_k","_law_head","_law_signs","_law_first","_law_tail"]) (sub:=[none,some 7,some 2,some 6,some 8]) (qCq rfl mr (pa1 (pv 1))) (λC s H fp=>⟨qA4,
    qAl qDz (qAl qDz (pv 1) (qA6 qV3 (pv 2) (qAl qB4 (qAl qCf (pv 3) (qAl qEn qAc (pv 0))) qAc) (λ_ _=>rfl))) (pv 4)⟩))))))))),?_⟩
 have b6:=hBw b (show(6:Int)≠0 by decide);have b6':=hBm b (show(0:Int)<6 by decide);refine⟨_,rfl,_,_,rfl,rfl,(by show(0:Int)<_;decide),_,_,rfl,rfl,1+b % 6,rfl,by omega,by omega,?_⟩;refine qDr (lo:=0) (n:=(1+b % 6).toNat) (λi σ H'=>H'=H/\∃(b':Int) (word:Str) (x:Option V),σ=[some (.int b'),some (.int n),some (.str sg),some (.str word),x,none,none,none,none]/\word.length=i/\Sgd word) ⟨rfl,b,"",none,rfl,rfl,Sgd.nil⟩ ?_ ?_
 ·rintro i σ H' hi ⟨rfl,b',word,x,rfl,hw,sm⟩;have c1:=hBw (b' / 6) (show(36:Int)≠0 by decide);have c2:=hBm (b' / 6) (show(0:Int)<36 by decide);refine⟨_,rfl,_,rfl,_,rfl,_,_,rfl,rfl,⟨by decide,by decide⟩,_,_,rfl,rfl,(by show(0:Int)<_;decide),sg,_,sgC (b' / 6 % 36).toNat,rfl,rfl,by decide +kernel,zAg c1 c2,word,⟨#[sgC (b' / 6 % 36).toNat]⟩,rfl,rfl,?_,?_⟩
  ·show word.length+1<=sizeLine;exact hAz (qAf (by omega))
  ·refine⟨_,rfl,_,_,rfl,rfl,⟨by decide,by decide⟩,?_⟩;refine⟨rfl,_,_,_,rfl,?_,sm.app (Sgd.one (by omega))⟩;rw[Str.length_append];show word.length+1=i+1;omega
 ·rintro σ H' ⟨rfl,b',word,x,rfl,hw,sm⟩;have wl:word.length<=sizeLine:=hAz (qAf (by omega));have fa:=hBw (b' / 216) (show(36:Int)≠0 by decide);have fb:=hBm (b' / 216) (show(0:Int)<36 by decide);refine⟨_,rfl,_,_,rfl,rfl,⟨by decide,by decide⟩,_,rfl,word,rfl,wl,_,_,rfl,rfl,(by show(0:Int)<_;omega),?_⟩;refine⟨_,rfl,_,_,rfl,rfl,⟨by decide,by decide⟩,_,_,rfl,rfl,(by show(0:Int)<_;decide),?_⟩;obtain⟨spot,hsp⟩:∃spot,b' / 6 % ((word.length:Nat):Int)=spot:=⟨_,rfl⟩;refine⟨_,rfl,_,rfl,_,rfl,word,rfl,wl,_,rfl,_,rfl,_,_,rfl,rfl,_,rfl,word,rfl,wl,(by show 2<=sizeLine;decide),λT hT=>⟨T,_,rfl,SqT.of upd_same,rfl,_,_,rfl,_,_,rfl,rfl,?_⟩⟩;have l1:=Txt.slice_le word none (some spot);have l2:=Txt.slice_le word (some (spot+1)) none;have s1:=sm.slice none (some spot);have s2:=sm.slice (some (spot+1)) none;have X1:=Ext.new hT (.tup [V.str (Txt.slice word none (some spot)),V.str (Txt.slice word (some (spot+1)) none)]);refine⟨_,rfl,n,rfl,by omega,by omega,?_⟩;refine qF1 (lo:=0) (n:=n.toNat) (λi ys H2=>H2=upd H' T (.tup [V.str (Txt.slice word none (some spot)),V.str (Txt.slice word (some (spot+1)) none)])/\∃ss:List Str,ys=ss.map V.str/\ss.length=i/\Tx ss/\ss=(List.range i).map (nmF (Txt.slice word none (some spot)) (Txt.slice word (some (spot+1)) none) (b' / 216 % 36))) ⟨by rw[hsp],[],rfl,rfl,(λs hs=>by cases hs),rfl⟩ ?_ ?_
  ·rintro i ys H2 hi ⟨rfl,ss,rfl,ls,tx,eq⟩;have ea:=hBw (b' / 216 % 36+7*(0+(i:Int))) (show(36:Int)≠0 by decide);have eb:=hBm (b' / 216 % 36+7*(0+(i:Int))) (show(0:Int)<36 by decide);rw[hsp];refine⟨sls,iteT (B:=False) ⟨_,rfl,_,rfl,_,rfl,_,rfl,_,_,rfl,rfl,.inl ⟨by decide,by decide⟩,_,_,rfl,rfl,_,_,rfl,rfl,(by show(0:Int)<_;decide),sg,_,sgC ((b' / 216 % 36+7*(0+(i:Int))) % 36).toNat,rfl,rfl,by decide +kernel,zAg ea eb,_,_,rfl,rfl,?_,_,rfl,_,_,rfl,rfl,?_,?_,nxt hi ⟨rfl,ss++[Txt.slice word none (some spot)++⟨#[sgC ((b' / 216 % 36+7*(0+(i:Int))) % 36).toNat]⟩++Txt.slice word (some (spot+1)) none],?_,?_,?_,?_⟩⟩⟩
   ·show _+1<=sizeLine;exact hAz (qAf (by omega))
   ·rw[Str.length_append];show _+1+_<=sizeLine;exact hAz (qAf (by omega))
   ·rw[hA1];exact qAf (by omega)
   ·rw[hA7];rfl
   ·rw[hAd,ls];rfl
   ·intro s hs;rcases hAh.mp hs with z|z
    ·exact tx s z
    ·rw[hAa]at z;subst z;have sp0:0<=spot:=by rw[<-hsp];exact hBw _ (by omega)
     have sp1:spot<(word.length:Int):=by rw[<-hsp];exact hBm _ (by omega)
     have la:=qLc (x:=word) (j:=spot) sp0 (by omega);have lb:=qIe (x:=word) (j:=spot+1) (by omega) (by omega);have lc:(⟨#[sgC ((b' / 216 % 36+7*(0+(i:Int))) % 36).toNat]⟩:Str).length=1:=rfl;refine⟨(s1.app (Sgd.one (by omega))).app s2,?_,?_⟩
     ·rw[Str.length_append,Str.length_append,lc];omega
     ·rw[Str.length_append,Str.length_append,lc];omega
   ·rw[eq,hCd,hA7];rfl
  ·rintro ys H2 ⟨rfl,ss,rfl,ls,tx,eq⟩ r hr';exact q r ss _ (X1.trans (Ext.new hr' _)) (X1.none hr') upd_same ls tx (λn36=>by rw[eq];exact qNk λi j hi hj=>qYi (by omega) (by omega))
end
theorem qH1(net:List Tr):∀S:Str->Prop,(∀t∈net,S t.2.1↔S t.2.2)->∀x y,qA3 net x=qA3 net y->(S x↔S y):=by
 refine qC8 (P:=λnet=>∀S:Str->Prop,(∀t∈net,S t.2.1↔S t.2.2)->∀x y,qA3 net x=qA3 net y->(S x↔S y)) (λS _ x y e=>?_) (λl t ih S hS x y e=>?_) net
 ·have:x=y:=e;rw[this]
 have ih':=ih S λu hu=>hS u (hAk _ hu)
 have hT:=hS t (by simp);rw[qCu]at e;have e':(if qA3 l x=qA3 l t.2.2 then qA3 l t.2.1 else qA3 l x)=(if qA3 l y=qA3 l t.2.2 then qA3 l t.2.1 else qA3 l y):=e;by_cases a:qA3 l x=qA3 l t.2.2
 ·by_cases b:qA3 l y=qA3 l t.2.2
  ·exact ih' x y (a.trans b.symm)
  ·rw[hDu a,hDt b]at e';exact(ih' x t.2.2 a).trans (hT.symm.trans (ih' t.2.1 y e'))
 ·by_cases b:qA3 l y=qA3 l t.2.2
  ·rw[hDt a,hDu b]at e';exact(ih' x t.2.1 e').trans (hT.trans (ih' t.2.2 y b.symm))
  ·rw[hDt a,hDt b]at e';exact ih' x y e'
theorem qEv(net:List Tr):∀x,qA3 net (qA3 net x)=qA3 net x:=by
 refine qC8 (P:=λnet=>∀x,qA3 net (qA3 net x)=qA3 net x) (λx=>rfl) (λl t ih x=>?_) net;rw[qCu];show(if qA3 l (if qA3 l x=qA3 l t.2.2 then qA3 l t.2.1 else qA3 l x)=qA3 l t.2.2 then qA3 l t.2.1 else qA3 l (if qA3 l x=qA3 l t.2.2 then qA3 l t.2.1 else qA3 l x))=if qA3 l x=qA3 l t.2.2 then qA3 l t.2.1 else qA3 l x
 by_cases a:qA3 l x=qA3 l t.2.2
 ·rw[hDu a,ih];split <;> rfl
 ·rw[hDt a,ih,hDt a]
theorem qNw{a b:List Tr}(h:∀t,t∈a->t∈b){x y:Str}(e:qA3 a x=qA3 a y):qA3 b x=qA3 b y :=
 ((qH1 a (λz=>qA3 b x=qA3 b z) (λt ht=>by rw[qNx b t (h t ht)]) x y e).mp rfl)
theorem qPo{a b:List Tr}{ps:List Str}(nd:ps.Nodup)(hp:∀x,qI0 a x->x∈ps)(p:a.Perm b):(qCc a).length=(qCc b).length:=by
 have hp':∀x,qI0 b x->x∈ps:=λx ⟨t,ht,h⟩=>hp x ⟨t,p.mem_iff.mpr ht,h⟩
 obtain⟨la,n1,m1,c1⟩:=count ps nd a hp;obtain⟨lb,n2,m2,c2⟩:=count ps nd b hp';have ab:∀ {x y},qA3 a x=qA3 a y->qA3 b x=qA3 b y:=λe=>qNw (λt ht=>p.mem_iff.mp ht) e
 have ba:∀ {x y},qA3 b x=qA3 b y->qA3 a x=qA3 a y:=λe=>qNw (λt ht=>p.mem_iff.mpr ht) e
 have n3:(la.map (qA3 b)).Nodup:=by
  unfold List.Nodup;rw[hCa];refine hCi (λ{x y} hx hy ne e=>ne ?_) n1;obtain⟨q,_,rfl⟩:=(m1 x).mp hx;obtain⟨q',_,rfl⟩:=(m1 y).mp hy;have:=ba e
  rwa [qEv,qEv]at this
 have e:(la.map (qA3 b)).length=lb.length:=qRn n3 n2 λx=>by
  rw[m2,hAe];constructor
  ·rintro⟨z,hz,rfl⟩;obtain⟨q,hq,rfl⟩:=(m1 z).mp hz;exact⟨q,hq,(ab (qEv a q)).symm⟩
  ·rintro⟨q,hq,rfl⟩;exact⟨qA3 a q,(m1 _).mpr ⟨q,hq,rfl⟩,ab (qEv a q)⟩
 rw[hA1]at e;omega
def zDr(f:Int->Int)(e:Int×Int):Int->Int:=λx=>if f x=f e.2 then f e.1 else f x
def hwS(p:(Int->Int)×Nat)(e:Int×Int):(Int->Int)×Nat:=(zDr p.1 e,if p.1 e.1=p.1 e.2 then p.2 else p.2+1)
def hwF(es:List (Int×Int)):(Int->Int)×Nat:=es.foldl hwS (id,0)
def hF(es:List (Int×Int)):Int->Int:=(hwF es).1
def wI(es:List (Int×Int)):Nat:=(hwF es).2
theorem qI3(es:List (Int×Int))(e:Int×Int):hwF (es++[e])=hwS (hwF es) e:=by unfold hwF;rw[hC5];rfl
theorem qMa(es:List (Int×Int))(e:Int×Int):hF (es++[e])=zDr (hF es) e:=by unfold hF;rw[qI3];rfl
theorem qYy{es:List (Int×Int)}{e:Int×Int}(h:hF es e.1=hF es e.2):hF (es++[e])=hF es:=by
 rw[qMa]
 funext x
 unfold zDr;rw[h];split
 ·rename_i z;exact z.symm
 ·rfl
theorem qH4{es:List (Int×Int)}{e:Int×Int}(h:hF es e.1=hF es e.2):wI (es++[e])=wI es:=by
 unfold wI;rw[qI3];show(if hF es e.1=hF es e.2 then _ else _)=_;rw[hDu h]
theorem qH5{es:List (Int×Int)}{e:Int×Int}(h:¬hF es e.1=hF es e.2):wI (es++[e])=wI es+1:=by
 unfold wI;rw[qI3];show(if hF es e.1=hF es e.2 then _ else _)=_;rw[hDt h]
theorem qRx{α β:Type}[DecidableEq β](f:α->β)(a b x y:α):((if f x=f b then f a else f x)=(if f y=f b then f a else f y))↔(f x=f y\/(f x=f a/\f y=f b)\/(f x=f b/\f y=f a)):=by
 by_cases c:f x=f b
 ·by_cases d:f y=f b
  ·rw[hDu c,hDu d];exact⟨λ_=>.inl (c.trans d.symm),λ_=>rfl⟩
  ·rw[hDu c,hDt d];constructor
   ·intro e;exact .inr (.inr ⟨c,e.symm⟩)
   ·rintro(e|⟨_,e⟩|⟨_,e⟩)
    ·exact absurd (e.symm.trans c) d
    ·exact absurd e d
    ·exact e.symm
 ·by_cases d:f y=f b
  ·rw[hDt c,hDu d];constructor
   ·intro e;exact .inr (.inl ⟨e,d⟩)
   ·rintro(e|⟨e,_⟩|⟨e,_⟩)
    ·exact absurd (e.trans d) c
    ·exact e
    ·exact absurd e c
  ·rw[hDt c,hDt d];constructor
   ·intro e;exact .inl e
   ·rintro(e|⟨_,e⟩|⟨e,_⟩)
    ·exact e
    ·exact absurd e d
    ·exact absurd e c
abbrev knA(kn:List Str)(i:Int):Str:=kn.getD i.toNat ""
def Lnk(kn:List Str)(e:Int×Int)(t:Tr):Prop:=(t.2.1=knA kn e.1/\t.2.2=knA kn e.2)\/(t.2.1=knA kn e.2/\t.2.2=knA kn e.1)
theorem qDo{α β:Type}{R:α->β->Prop}:∀ {l:List α} {t:α} {bs:List β},Paired R (l++[t]) bs->∃bs' b,bs=bs'++[b]/\Paired R l bs'/\R t b
 |[],t,bs,h=>by
  cases h with
  |cons h1 h2=>cases h2;exact⟨[],_,rfl,.nil,h1⟩
 |a :: l,t,bs,h=>by
  cases h with
  |cons h1 h2 =>
   obtain⟨bs',b,rfl,p,r⟩:=qDo h2;exact⟨_ :: bs',b,rfl,.cons h1 p,r⟩
def InR(i:Int):Prop:=0<=i/\i<10
theorem qPp{kn:List Str}(nd:∀i j,InR i->InR j->knA kn i=knA kn j->i=j)(net:List Tr):∀es:List (Int×Int),Paired (λt e=>Lnk kn e t) net es->(∀e∈es,InR e.1/\InR e.2) ->
  (∀i j,InR i->InR j->(qA3 net (knA kn i)=qA3 net (knA kn j)↔hF es i=hF es j))/\(qCc net).length=wI es:=by
 refine qC8 (P:=λnet=>∀es:List (Int×Int),Paired (λt e=>Lnk kn e t) net es->(∀e∈es,InR e.1/\InR e.2) ->
  (∀i j,InR i->InR j->(qA3 net (knA kn i)=qA3 net (knA kn j)↔hF es i=hF es j))/\(qCc net).length=wI es) (λes h _=>?_) (λl t ih es h hi=>?_) net
 ·cases h;exact⟨λi j hi hj=>⟨λe=>nd i j hi hj e,λe=>congrArg (knA kn) e⟩,rfl⟩
 obtain⟨es',e,rfl,pr,lk⟩:=qDo h;obtain⟨h1,h2⟩:=ih es' pr λx hx=>hi x (hAk _ hx)
 obtain⟨ia,ib⟩:=hi e (hAb _ (hAa.mpr rfl));have key:qA3 l t.2.1=qA3 l t.2.2↔hF es' e.1=hF es' e.2:=by
  rcases lk with ⟨z1,z2⟩|⟨z1,z2⟩
  ·rw[z1,z2];exact h1 _ _ ia ib
  ·rw[z1,z2];exact⟨λq=>((h1 _ _ ib ia).mp q).symm,λq=>(h1 _ _ ib ia).mpr q.symm⟩
 refine⟨λi j hi' hj'=>?_,?_⟩
 ·rw[qCu,qMa];show((if qA3 l (knA kn i)=qA3 l t.2.2 then qA3 l t.2.1 else qA3 l (knA kn i))=(if qA3 l (knA kn j)=qA3 l t.2.2 then qA3 l t.2.1 else qA3 l (knA kn j)))↔((if hF es' i=hF es' e.2 then hF es' e.1 else hF es' i)=(if hF es' j=hF es' e.2 then hF es' e.1 else hF es' j));rw[qRx (qA3 l),qRx (hF es')];rcases lk with ⟨z1,z2⟩|⟨z1,z2⟩
  ·rw[z1,z2,h1 i j hi' hj',h1 i _ hi' ia,h1 j _ hj' ib,h1 i _ hi' ib,h1 j _ hj' ia]
  ·rw[z1,z2,h1 i j hi' hj',h1 i _ hi' ia,h1 j _ hj' ib,h1 i _ hi' ib,h1 j _ hj' ia];constructor
   ·rintro(q|q|q)
    ·exact .inl q
    ·exact .inr (.inr q)
    ·exact .inr (.inl q)
   ·rintro(q|q|q)
    ·exact .inl q
    ·exact .inr (.inr q)
    ·exact .inr (.inl q)
 ·rw[qDu];unfold qOb;rw[qG1];by_cases c:qA3 l t.2.1=qA3 l t.2.2
  ·rw[hDu c,qH4 (key.mp c)];exact h2
  ·rw[hDt c,qH5 (λq=>c (key.mpr q)),hAd,h2];rfl
def leB(x y:Str):Bool:=!decide (y.cps.toList<x.cps.toList)
theorem qUx{kn:List Str}{i:Int}(h0:0<=i)(h1:i<(kn.length:Int)):∃k,k=knA kn i/\k∈kn/\atI (kn.map V.str) i=some (.str k):=by
 have hk:i.toNat<kn.length:=by omega
 have e:knA kn i=kn[i.toNat]:=by unfold knA;rw[hA5,hA2 hk];rfl
 have hv:atI (kn.map V.str) ((i.toNat:Nat):Int)=some (.str kn[i.toNat]):=qAv (by rw[hAj,hA2 hk] <;> rfl);rw[hCp h0]at hv;exact⟨kn[i.toNat],e.symm,hBf hk,hv⟩
theorem zBn{kn:List Str}(nd:kn.Nodup)(l:kn.length=10):∀i j,InR i->InR j->knA kn i=knA kn j->i=j:=λi j hi hj e=>by
 obtain⟨a,b⟩:=hi;obtain⟨c,d⟩:=hj;have hi':i.toNat<kn.length:=by omega
 have hj':j.toNat<kn.length:=by omega
 unfold knA at e;rw[hA5,hA5,hA2 hi',hA2 hj']at e;have:=(List.getElem_inj nd).mp (show kn[i.toNat]=kn[j.toNat] from e);omega
theorem perm2{x y a b:Str}(p:[x,y].Perm [a,b]):(x=a/\y=b)\/(x=b/\y=a):=by
 have hx:x∈[a,b]:=p.mem_iff.mp (by simp);have ha:a∈[x,y]:=p.mem_iff.mpr (by simp);have hb:b∈[x,y]:=p.mem_iff.mpr (by simp);have hy:y∈[a,b]:=p.mem_iff.mp (by simp);simp only[hA8,hAo,hE0]at hx ha hb hy;rcases hx with rfl|rfl
 ·rcases hb with rfl|rfl
  ·left
   rcases hy with rfl|rfl <;> exact⟨rfl,rfl⟩
  ·exact .inl ⟨rfl,rfl⟩
 ·rcases ha with rfl|rfl
  ·right
   rcases hy with rfl|rfl <;> exact⟨rfl,rfl⟩
  ·exact .inr ⟨rfl,rfl⟩
theorem zD6{x y:Str}(h:PyProof.Rows.sortedS [x,y]=true):leB x y=true:=by
 have h':(!PySem.Spec.ltCps y.cps.toList x.cps.toList && true)=true:=h;rw[Bool.and_true,PyProof.Rows.ltCps_eq]at h';exact h'
theorem zE6{kn:List Str}{e:Int×Int}{k1 k2 x y n:Str}(p:[x,y].Perm [k1,k2])(h1:k1=knA kn e.1)(h2:k2=knA kn e.2):Lnk kn e (n,x,y):=by
 rcases perm2 p with ⟨z1,z2⟩|⟨z1,z2⟩
 ·exact .inl ⟨z1.trans h1,z2.trans h2⟩
 ·exact .inr ⟨z1.trans h2,z2.trans h1⟩
abbrev enV(e:Int×Int):List V:=[.int e.1,.int e.2]
def qE0(H:Hp)(p:Addr)(es:List (Int×Int)):Prop:=∃as:List Addr,H p=some (.lst (as.map V.ref))/\Paired (λa e=>H a=some (.tup (enV e))) as es
theorem qE0.ext{H H':Hp}{p:Addr}{es:List (Int×Int)}(h:qE0 H p es)(e:Ext H H'):qE0 H' p es:=by
 obtain⟨as,h1,h2⟩:=h;exact⟨as,e _ _ h1,Paired.mapP h2 λa t z=>e _ _ z⟩
theorem qE0.snoc{H H':Hp}{k a:Addr}{as:List Addr}{net:List (Int×Int)}{t:Int×Int}(hk:H k=some (.lst (as.map V.ref)))(pr:Paired (λa t=>H a=some (.tup (enV t))) as net)(e:Ext H H')(ha:H' a=some (.tup (enV t))):qE0 (upd H' k (.lst (as.map V.ref++[V.ref a]))) k (net++[t]):=by
 have hk':=e _ _ hk;have ne:∀ {b:Addr} {xs:List V},H' b=some (.tup xs)->b≠k:=λh z=>by rw[z,hk']at h;cases h
 refine⟨as++[a],by rw[upd_same,hA7];rfl,?_⟩;refine Paired.snoc (Paired.mapP pr λb u z=>?_) ?_
 ·have z':=e _ _ z;rw[qAj (ne z')];exact z'
 ·rw[qAj (ne ha)];exact ha
def qZp(sp:Int)(e:Int×Int):Prop:=(0<=e.1/\e.1<sp)/\0<=e.2/\e.2<sp
def qVa:Sp:=λvs H Q _=>∃(b n sp:Int),vs=[.int b,.int n,.int sp]/\0<=n/\n<=12/\0<sp/\sp<=10/\∀r es H',Ext H H'->H r=none->qE0 H' r es->es.length<=n.toNat->(∀e∈es,qZp sp e)->wI es<=8->es.length<=wI es+8->Q (.ref r) H'
theorem zCf{hs:List Int}{es:List (Int×Int)}{sp i:Int}(hse:hs=(List.range sp.toNat).map λ(j:Nat)=>hF es (j:Int))(h0:0<=i)(h1:i<sp):atI (hs.map V.int) i=some (.int (hF es i)):=by
 have hk:i.toNat<sp.toNat:=by omega
 have hv:atI (hs.map V.int) ((i.toNat:Nat):Int)=some (.int (hF es ((i.toNat:Nat):Int))):=qAv (by rw[hse,hB3,hAj,hDl hk];rfl);rw[hCp h0]at hv;exact hv
theorem zEb{sp:Int}{es:List (Int×Int)}{x:Int×Int}(h:∀e∈es,qZp sp e)(hx:qZp sp x):∀e∈es++[x],qZp sp e:=λe he=>by
 rcases hAh.mp he with z|z
 ·exact h e z
 ·rw[hAa]at z;subst z;exact hx
section
variable{P:Program}{w:World}{K:PySem.W.Frag}{mg:Str->Option Value}{base:Heap}{f f1 f2:Addr}{fd fd1 fd2:FuncData}
abbrev eN:List Str:=["_law_big_here","_law_many","_law_spread","_law_heaps","_law_found","_law_high","_law_k","_law_one","_law_other","_law_gone"]
theorem qDl:FnScope eN ["_law_big_here","_law_many","_law_spread"] (qAa qLq):=fsk
structure EI(H:Hp)(sp n:Int)(i:Nat)(σ:St)(H':Hp)(b' h:Int)(hp fo:Addr)(hs:List Int)(es:List (Int×Int)):Prop where
 st:∃x6 x7 x8 x9:Option V,σ=[some (.int b'),some (.int n),some (.int sp),some (.ref hp),some (.ref fo),some (.int h),x6,x7,x8,x9]
 ext:Ext H H'
 fo0:H fo=none
 ne:hp≠fo
 hsA:H' hp=some (.lst (hs.map V.int))
 hsl:(hs.length:Int)=sp
 esA:qE0 H' fo es
 esl:es.length<=i
 esi:∀e∈es,qZp sp e
 hse:hs=(List.range sp.toNat).map λ(j:Nat)=>hF es (j:Int)
 hw:h=(wI es:Int)
 w8:wI es<=8
 l8:es.length<=wI es+8
theorem qYa(F:Fun K "_law_ends" "_law_ends" qLq f fd)(mr:mg "range"=none)(ml:mg "len"=none)(mL:mg "list"=none):v7 1 f fd ["_law_big_here","_law_many","_law_spread"] qVa:=by
 refine F.okA qDl λcdv A outer s H vs Q E hr h=>?_
 obtain⟨b,n,sp,rfl,n0,n1,p0,p1,q⟩:=h;refine⟨_,qAb (v5 3 qDl (qBf (qJe rfl) rfl mL qBe (pa1 (qBf qKr rfl mr qMh (pa1 (pv 2))))))
  (qAb (v0 4 qDl (qB9 qAs))
  (qAb (v0 5 qDl qAc)
  (qAb (qCp PassesOwn.never rfl (qCq rfl mr (pa1 (pv 1))) (v4 6 qDl)
   (qAb (qGl (qBk (qAd (qAl qB4 (pv 0) (pv 2)) (pa1 (qAl qB4 (qAl qBs (pv 0) (pv 2)) (pv 2))))) (qCe rfl (qAi (v6 7 qDl) (qAi (v4 8 qDl) qBj))))
   (qAb (v0 0 qDl (qAl qBs (qAl qBs (pv 0) (pv 2)) (pv 2)))
   (qAe (qBl (PW.pt (qGk (qAm qDb (qA6 qBz (pv 3) (pv 7) (λ_ _=>rfl)) (qA6 qBz (pv 3) (pv 8) (λ_ _=>rfl)) (qAu _)) (qEd (qAm qJ2 (qAl qGq (qAg qAt rfl ml hB1 (pa1 (pv 4))) (pv 5)) qAc (qAu _)))))
    (qAe (qCa (qEm hAu hB6 hB7 qBt (pv 4) (pa1 (qBk (qAd (pv 7) (pa1 (pv 8))))))))
    (qAe (qBl (PW.pt (qGk (qAm qEe (qA6 qBz (pv 3) (pv 7) (λ_ _=>rfl)) (qA6 qBz (pv 3) (pv 8) (λ_ _=>rfl)) (qAu _)) (qEd (qAm qJ2 (pv 5) qAc (qAu _)))))
     (qAb (qCa (qEm hAu hB6 hB7 qBt (pv 4) (pa1 (qBk (qAd (pv 7) (pa1 (pv 8)))))))
     (qAb (zAz (i:=5) qDl.nd rfl (Or.inl rfl) qAc zBw)
     (qAb (v5 9 qDl (qA6 qBz (pv 3) (pv 8) (λ_ _=>rfl)))
     (qAe (v5 3 qDl (qCr (N:=eN) (sc:=qAa qLq) (N':=["_law_heap","_law_heaps","_law_one","_law_gone"]) (sub:=[none,some 3,some 7,some 9]) (qAx (pv 3)) (λC s H fp=>⟨qA4,qDy (qAm qDb (pv 0) (pv 3) (qAu _)) (qA6 (show IxR _ (zCn K) from qBz) (pv 1) (pv 2) (λ_ _=>rfl)) (pv 0)⟩)))))))
     qAw)))))))
  (qAe (qAo (pv 4)))))),?_⟩
 refine⟨_,rfl,sp,rfl,by omega,by omega,λrg hrg=>⟨rg,sp,rfl,upd_same,by omega,by omega,λhp hhp=>?_⟩⟩;have X1:=Ext.new hrg (.rng 0 sp);have X2:=X1.trans (Ext.new hhp (.lst ((List.range sp.toNat).map λ(i:Nat)=>V.int (i:Int))));refine⟨hAq _,λfo hfo=>?_⟩;have f0:=X2.none hfo;refine⟨_,rfl,n,rfl,by omega,by omega,qDr (lo:=0) (n:=n.toNat) (λi σ H'=>∃b' h hp fo hs es,EI H sp n i σ H' b' h hp fo hs es)
  ⟨b,0,hp,fo,(List.range sp.toNat).map λ(i:Nat)=>(i:Int),[],⟨_,_,_,_,rfl⟩,X2.trans (Ext.new hfo _),f0,λe=>(by rw[<-e,upd_same]at hfo;cases hfo),?_,?_,⟨[],upd_same,.nil⟩,hA3 _,λe he=>(by cases he),rfl,rfl,hAq _,hAq _⟩ ?_ ?_⟩
 ·rw[qAj (λe=>by rw[<-e,upd_same]at hfo;cases hfo),upd_same,hB3];rfl
 ·rw[hA1,hBi];omega
 ·rintro i σ H' hi ⟨b',h,hp,fo,hs,es,⟨x6,x7,x8,x9,rfl⟩,ext,fo0,ne,hsA,hsl,esA,esl,esi,hse,hw,w8,l8⟩;have sp0:(0:Int)<sp:=p0;have o0:=hBw b' (show sp≠0 by omega);have o1:=hBm b' p0;have t0:=hBw (b' / sp) (show sp≠0 by omega);have t1:=hBm (b' / sp) p0;have cd:zD4 (b' / sp) sp:=⟨p0,by omega⟩;have cd':zD4 b' sp:=⟨p0,by omega⟩;refine⟨_,rfl,_,rfl,_,_,rfl,rfl,p0,_,rfl,_,rfl,_,_,rfl,rfl,cd',_,rfl,_,_,rfl,rfl,p0,(by show 2<=sizeLine;decide),λT hT=>⟨T,_,rfl,SqT.of upd_same,rfl,_,_,rfl,_,_,rfl,rfl,?_⟩⟩;have X3:=Ext.new hT (.tup [V.int (b' % sp),V.int (b' / sp % sp)]);refine⟨_,rfl,_,rfl,_,_,rfl,rfl,cd',_,rfl,_,_,rfl,rfl,cd,?_⟩;have a1:=zCf hse o0 o1;have a2:=zCf hse t0 t1;obtain⟨v1,hv1⟩:∃v,hF es (b' % sp)=v:=⟨_,rfl⟩;obtain⟨v2,hv2⟩:∃v,hF es (b' / sp % sp)=v:=⟨_,rfl⟩;rw[hv1]at a1;rw[hv2]at a2;have hs3:=X3 _ _ hsA;have es3:=esA.ext X3;obtain⟨as,ea1,ea2⟩:=id esA;have la:as.length=es.length:=ea2.length;have inn:qZp sp ((b' % sp),(b' / sp % sp)):=⟨⟨o0,o1⟩,t0,t1⟩;refine⟨_,rfl,_,rfl,hp,_,_,_,rfl,rfl,SqL.of hs3,a1,_,rfl,_,rfl,hp,_,_,_,rfl,rfl,SqL.of hs3,a2,rfl,_,rfl,?_⟩;refine qB1 (λc=>?_) (λc=>?_)
  ·refine⟨_,rfl,fo,_,rfl,.inl (SqL.of (X3 _ _ ea1)),_,rfl,_,_,rfl,rfl,_,_,rfl,rfl,_,rfl,?_⟩;refine qB1 (λc2=>?_) (λc2=>?_)
   ·refine⟨_,rfl,.inl ⟨rfl,_,SqL.of (X3 _ _ ea1)⟩,_,rfl,_,rfl,(by show 2<=sizeLine;decide),λT2 hT2=>?_⟩;have X4:=X3.trans (Ext.new hT2 (.tup (enV ((b' % sp),(b' / sp % sp)))));refine⟨fo,_,_,rfl,rfl,X4 _ _ ea1,by rw[hA1];exact qAf (by omega),?_⟩;refine⟨_,_,hp,fo,hs,es++[((b' % sp),(b' / sp % sp))],⟨_,_,_,_,rfl⟩,(ext.trans X4).over fo0 _,fo0,ne,by rw[qAj ne];exact X4 _ _ hsA,hsl,qE0.snoc ea1 ea2 X4 upd_same,by rw[hAd];exact Nat.succ_le_succ esl,zEb esi inn,?_,?_,?_,?_⟩
    ·rw[qYy (hv1.trans ((by simpa using c:v1=v2).trans hv2.symm))];exact hse
    ·rw[qH4 (hv1.trans ((by simpa using c:v1=v2).trans hv2.symm))];exact hw
    ·rw[qH4 (hv1.trans ((by simpa using c:v1=v2).trans hv2.symm))];exact w8
    ·rw[qH4 (hv1.trans ((by simpa using c:v1=v2).trans hv2.symm)),hAd];have c9:=hDs c2;rw[hA1,la]at c9;show es.length+1<=_;omega
   ·refine⟨_,rfl,_,rfl,hp,_,_,_,rfl,rfl,SqL.of hs3,a1,_,rfl,_,rfl,hp,_,_,_,rfl,rfl,SqL.of hs3,a2,rfl,_,rfl,?_⟩;refine qB1 (λc3=>?_) (λc3=>?_)
    ·have e1:v1=v2:=by simpa using c
     have e2:¬v1=v2:=by simpa using c3
     exact absurd e1 e2
    ·refine qGz ?_;exact⟨_,_,hp,fo,hs,es,⟨_,_,_,_,rfl⟩,ext.trans X3,fo0,ne,hs3,hsl,es3,by omega,esi,hse,hw,w8,l8⟩
  ·refine qGz ?_;refine⟨_,rfl,_,rfl,hp,_,_,_,rfl,rfl,SqL.of hs3,a1,_,rfl,_,rfl,hp,_,_,_,rfl,rfl,SqL.of hs3,a2,rfl,_,rfl,?_⟩;refine qB1 (λc3=>?_) (λc3=>?_)
   ·refine⟨_,rfl,_,_,rfl,rfl,_,rfl,?_⟩;refine qB1 (λc2=>?_) (λc2=>?_)
    ·refine⟨_,rfl,.inl ⟨rfl,_,SqL.of (X3 _ _ ea1)⟩,_,rfl,_,rfl,(by show 2<=sizeLine;decide),λT2 hT2=>?_⟩;have X4:=X3.trans (Ext.new hT2 (.tup (enV ((b' % sp),(b' / sp % sp)))));refine⟨fo,_,_,rfl,rfl,X4 _ _ ea1,by rw[hA1];exact qAf (by omega),?_⟩;have hs4:upd (upd (upd H' T (.tup [V.int (b' % sp),V.int (b' / sp % sp)])) T2 (.tup (enV ((b' % sp),(b' / sp % sp))))) fo (.lst (as.map V.ref++[V.ref T2])) hp=some (.lst (hs.map V.int)):=by rw[qAj ne];exact X4 _ _ hsA
     have en4:=qE0.snoc (t:=((b' % sp),(b' / sp % sp))) ea1 ea2 X4 upd_same;have X5:=(ext.trans X4).over fo0 (.lst (as.map V.ref++[V.ref T2]));refine⟨_,rfl,_,_,rfl,rfl,?_⟩;refine⟨_,rfl,_,rfl,hp,_,_,_,rfl,rfl,SqL.of hs4,a2,?_⟩;refine⟨_,rfl,hp,rfl,⟨_,SqL.of hs4⟩,?_⟩;refine qOd (λv=>some (if v = .int v2 then .int v1 else v)) (SqL.of hs4) (by rw[hA1];exact hAz (qAf (by omega))) (λx hx C hC=>?_) (λr hr'=>?_)
     ·obtain⟨y,_,rfl⟩:=hAe.mp hx;refine⟨sls,iteT (B:=False) ?_⟩;refine⟨_,rfl,_,rfl,rfl,_,rfl,?_⟩;refine qB1 (λc5=>?_) (λc5=>?_)
      ·have e5:y=v2:=by simpa using c5
       subst e5;refine⟨_,rfl,_,rfl,hp,_,_,_,rfl,rfl,SqL.of hs4,a1,?_⟩;rw[hDu rfl]at hC;exact hC
      ·have e5:¬y=v2:=by simpa using c5
       rw[hDt (λz=>e5 (V.int.inj z))]at hC;exact⟨_,rfl,hC⟩
     ·have rf:r≠fo:=λe=>by rw[e,upd_same]at hr';cases hr'
      have em:(hs.map V.int).filterMap (λv=>some (if v = .int v2 then .int v1 else v))=(hs.map λy=>if y=v2 then v1 else y).map V.int:=by
       rw[List.filterMap_eq_map',hB3,hB3];refine hBv λy _=>?_
       show(if V.int y=V.int v2 then V.int v1 else V.int y)=V.int (if y=v2 then v1 else y);by_cases z:y=v2
       ·subst z;rw[hDu rfl,hDu rfl]
       ·rw[hDt (λe=>z (V.int.inj e)),hDt z]
      rw[em];refine⟨_,_,r,fo,_,es++[((b' % sp),(b' / sp % sp))],⟨_,_,_,_,rfl⟩,X5.trans (Ext.new hr' _),fo0,rf,upd_same,by rw[hA1];exact hsl,en4.ext (Ext.new hr' _),by rw[hAd];exact Nat.succ_le_succ esl,zEb esi inn,?_,?_,?_,?_⟩
      ·rw[hse,hB3];refine hBv λj _=>?_
       rw[qMa];show(if hF es (j:Int)=v2 then v1 else hF es (j:Int))=if hF es (j:Int)=hF es (b' / sp % sp) then hF es (b' % sp) else hF es (j:Int)
       rw[hv1,hv2]
      ·rw[qH5 (by show ¬hF es (b' % sp)=hF es (b' / sp % sp);rw[hv1,hv2];simpa using c),hw];rfl
      ·rw[qH5 (by show ¬hF es (b' % sp)=hF es (b' / sp % sp);rw[hv1,hv2];simpa using c)];have c9:=hDs c2;omega
      ·rw[qH5 (by show ¬hF es (b' % sp)=hF es (b' / sp % sp);rw[hv1,hv2];simpa using c),hAd];show es.length+1<=_;omega
    ·exact⟨_,_,hp,fo,hs,es,⟨_,_,_,_,rfl⟩,ext.trans X3,fo0,ne,hs3,hsl,es3,by omega,esi,hse,hw,w8,l8⟩
   ·refine qGz ?_;exact⟨_,_,hp,fo,hs,es,⟨_,_,_,_,rfl⟩,ext.trans X3,fo0,ne,hs3,hsl,es3,by omega,esi,hse,hw,w8,l8⟩
 ·rintro σ H' ⟨b',h,hp,fo,hs,es,⟨x6,x7,x8,x9,rfl⟩,ext,fo0,ne,hsA,hsl,esA,esl,esi,hse,hw,w8,l8⟩;exact⟨_,rfl,q fo es H' ext fo0 esA esl esi w8 l8⟩
end
end My
namespace L2
open PySem PySem.Spec PyProof.Rows
theorem qKf{n:Nat}{Ls:Hp->Prop}{xv:Nat->List V}{g:TG}{tb:TS}{D:Ends}{σ:St}{H:Hp}(Pv:Nat->St->Hp->Prop)(h0:Pv 0 σ H)(hl:∀i σ H,i<=n->Pv i σ H->Ls H)
  (hs:∀i σ H T,i<n->Pv i σ H->H T=none->g (.ref T) σ (upd H T (.tup (xv i))) λσ2 H2=>tb { D with nx:=Pv (i+1),ct:=Pv (i+1),bk:=D.nx } σ2 H2) (hd:∀σ H,Pv n σ H->D.nx σ H) :
  ∃W:Nat->Nat->St->Hp->Prop,(∃m,W 0 m σ H)/\∀i m σ H,W i m σ H ->
   ((Itp n Ls xv).stop i H/\D.nx σ H)\/((Itp n Ls xv).go i H/\∃N:St->Hp->Prop,(∀σ' H',N σ' H'->∃m',m'<m/\W (i+1) m' σ' H')/\∀x H',(Itp n Ls xv).yld i H x H'->g x σ H' λσ2 H2=>tb { D with nx:=N,ct:=N,bk:=D.nx } σ2 H2):=by
 refine⟨λi m σ H=>m=n-i/\i<=n/\Pv i σ H,⟨n,by simp,hAq _,h0⟩,?_⟩;rintro i m σ H ⟨rfl,hi,p⟩;have q:=hl i σ H hi p;by_cases hlt:i<n
 ·refine .inr ⟨⟨q,hlt⟩,Pv (i+1),λσ' H' p'=>⟨n-(i+1),by omega,rfl,hlt,p'⟩,λx H' y=>?_⟩;obtain⟨T,e1,e2,e3⟩:=y;subst e2 e3;exact hs i σ H T hlt p e1
 ·have e:i=n:=by omega
  subst e;exact .inl ⟨⟨q,rfl⟩,hd σ H p⟩
end L2
namespace My
open PySem L2
theorem qZd{hs:List Int}{i:Int}(h0:0<=i)(h1:i<(hs.length:Int)):∃v∈hs,atI (hs.map V.int) i=some (.int v):=by
 have hk:i.toNat<hs.length:=by omega
 have hv:atI (hs.map V.int) ((i.toNat:Nat):Int)=some (.int hs[i.toNat]):=qAv (by rw[hAj,hA2 hk] <;> rfl);rw[hCp h0]at hv;exact⟨_,hBf hk,hv⟩
theorem qC6{α β γ:Type}{R:α->β->Prop}{S:α->γ->Prop}(g:β->γ)(h:∀a b,R a b->S a (g b)):∀ {as:List α} {bs:List β},Paired R as bs->Paired S as (bs.map g)
 |_,_,.nil=>.nil
 |_,_,.cons x t=>.cons (h _ _ x) (qC6 g h t)
theorem qA5.snoc{H H':Hp}{k a:Addr}{as:List Addr}{net:List Tr}{t:Tr}(hk:H k=some (.lst (as.map V.ref)))(pr:Paired (λa t=>H a=some (.tup (trV t))) as net)(e:Ext H H')(ha:H' a=some (.tup (trV t))):qA5 (upd H' k (.lst (as.map V.ref++[V.ref a]))) k (net++[t]):=by
 have hk':=e _ _ hk;have ne:∀ {b:Addr} {xs:List V},H' b=some (.tup xs)->b≠k:=λh z=>by rw[z,hk']at h;cases h
 refine⟨as++[a],by rw[upd_same,hA7];rfl,?_⟩;refine Paired.snoc (Paired.mapP pr λb u z=>?_) ?_
 ·have z':=e _ _ z;rw[qAj (ne z')];exact z'
 ·rw[qAj (ne ha)];exact ha
def qFw(t:Tr):List Str:=[t.1,t.2.1,t.2.2]
def t0:Tr:=("","","")
theorem qQz:∀ {net:List Tr} {i:Nat},i<net.length->qFw (net.getD i t0)=(net.map qFw).getD i []
 |[],_,h=>absurd h (hC0 _)
 |t :: r,0,_=>rfl
 |t :: r,i+1,h=>by simpa using qQz (net:=r) (i:=i) (by simpa using h)
theorem qNj{H:Hp}:∀ {as:List Addr} {net:List Tr} {i:Nat},Paired (λa t=>H a=some (.tup (trV t))) as net->i<as.length->H (as.getD i 0)=some (.tup (trV (net.getD i t0)))
 |_,_,i,.nil,hi=>absurd hi (hC0 _)
 |_,_,0,.cons h _,_=>h
 |_,_,i+1,.cons _ t,hi=>by simpa using qNj (i:=i) t (by simpa using hi)
theorem qGs{H:Hp}{as:List Addr}{net:List Tr}(pr:Paired (λa t=>H a=some (.tup (trV t))) as net):∀ {l:List Nat},(∀i∈l,i<as.length)->Paired (λa t=>H a=some (.tup (trV t))) (l.map λi=>as.getD i 0) (l.map λi=>net.getD i t0)
 |[],_=>.nil
 |i :: l,h=>.cons (qNj pr (h i hA6)) (qGs pr λj hj=>h j (hA4 _ hj))
theorem qE9{net:List Tr}:∀ {l:List Nat},(∀i∈l,i<net.length)->(l.map λi=>net.getD i t0).map qFw=l.map λi=>(net.map qFw).getD i []
 |[],_=>rfl
 |i :: l,h=>by
  rw[hAv,hAv,hAv,qE9 λj hj=>h j (hA4 _ hj),qQz (h i hA6)]
theorem qTi{t u:Tr}(e:qFw t=qFw u):t=u:=by
 obtain⟨a,b,c⟩:=t;obtain⟨a',b',c'⟩:=u;unfold qFw at e;simp at e;obtain⟨e1,e2,e3⟩:=e;subst e1 e2 e3;rfl
theorem qJ7(net:List Tr):(net.map qFw).map (λr=>r.getD 0 "")=net.map (·.1):=by
 rw[hB3];rfl
theorem qIn:∀ {net:List Tr},Srt (net.map qFw)->(net.map (·.1)).Nodup->qD5 (net.map (·.1))
 |[],_,_=>List.Pairwise.nil
 |t :: r,h,nd=>by
  rw[hAv]at h nd;obtain⟨h1,h2⟩:=hBl.mp h;obtain⟨n1,n2⟩:=hBq.mp nd;rw[hAv];refine hBl.mpr ⟨λx hx=>?_,qIn h2 n2⟩;obtain⟨u,hu,rfl⟩:=hAe.mp hx;have q:=h1 (qFw u) (hBd hu);have ne:¬u.1=t.1:=λz=>n1 (z▸hBd hu)
  unfold qFw ltL at q;rw[hDt ne]at q;rcases qIl t.1 u.1 with z|z|z
  ·exact z
  ·exact absurd z.symm ne
  ·rw[z]at q;cases q
def TxT(t:Tr):Prop:=qDk t.1/\qDk t.2.1/\qDk t.2.2/\leB t.2.1 t.2.2=true
def TxN(net:List Tr):Prop:=∀t∈net,TxT t
def qZ7(K:PySem.W.Frag):Sp:=λvs H Q _=>∃(a:Addr) (ns:List Int),vs=[.ref a,.int 1]/\SqL K H a (ns.map V.int)/\∀r net H',Ext H H'->H r=none->qA5 H' r net->net.length<=12->TxN net->qD5 (net.map (·.1))->(qCc net).length<=8->net.length<=(qCc net).length+8->Q (.ref r) H'
section
variable{P:Program}{w:World}{K:PySem.W.Frag}{mg:Str->Option Value}{base:Heap}{f f1 f2 f3:Addr}{fd fd1 fd2 fd3:FuncData}
abbrev neN:List Str:=["_law_script","_law_at","_law_head","_law_ends_here","_law_ties","_law_knots","_law_net_here","_law_tie","_law_two"]
theorem qJt:FnScope neN ["_law_script","_law_at"] (qAa qZj):=fsk
abbrev spr:List Int:=[4,5,3,6,5,9,2,10]
theorem zA7(F:Fun K "_law_net" "_law_net" qZj f fd)
  (G1:v8 2 f1 fd1 ["_law_script","_law_k"] (qWs K) "_law_big")
  (G2:v8 1 f2 fd2 ["_law_big_here","_law_many","_law_spread"] qVa "_law_ends")
  (G3:v8 1 f3 fd3 ["_law_big_here","_law_many"] qP7 "_law_names")
  (ml:mg "len"=none) (mz:mg "zip"=none) (mtu:mg "tuple"=none) (mso:mg "sorted"=none):v7 3 f fd ["_law_script","_law_at"] (qZ7 K):=by
 refine F.okA qJt λcdv A outer s H vs Q E hr h=>?_
 obtain⟨a,ns,rfl,hS,q⟩:=h;have hr1:=hr.mono (j:=1) (by decide);refine⟨_,qAb (v0 2 qJt (qA0 G1 hr rfl .nil qA2 (qAd (pv 0) (pa1 (pv 1)))))
  (qAb (v0 3 qJt (qA0 G2 hr1 rfl .nil qA2 (qAd (qA0 G1 hr rfl .nil qA2 (qAd (pv 0) (pa1 (qAl qCf (pv 1) qAc)))) (qAd (qAl qB4 (qAl qBs (pv 2) qAc) qAc) (qAd
    (qA6 qBz (qB9 (qAd qAc (qAd qAc (qAd qAc (qAd qAc (qAd qAc (qAd qAc (qAd qAc (pa1 qAc))))))))) (qAl qB4 (pv 2) qAc) (λ_ _=>rfl)) qAs)))))
  (qAb (v0 4 qJt (qA0 G3 hr1 rfl .nil qA2 (qAd (qAl qBs (pv 2) qAc) (pa1 (qAg qAt rfl ml hB1 (pa1 (pv 3)))))))
  (qAb (v0 5 qJt (qA0 G3 hr1 rfl .nil qA2 (qAd (qA0 G1 hr rfl .nil qA2 (qAd (pv 0) (pa1 (qAl qCf (pv 1) qAc)))) (pa1 qAc))))
  (qAb (v0 6 qJt (qB9 qAs))
  (qAb (qCp PassesOwn.never rfl (qVu rfl mz (qAd (pv 4) (pa1 (pv 3)))) (qCe rfl (qAi (v4 7 qJt) (qAi (v4 8 qJt) qBj)))
   (qAe (qCa (qEm hAu hB6 hB7 qBt (pv 6) (qAd
    (qAl qL1 (qBk (pa1 (pv 7))) (qBf qDg rfl mtu qCb (pa1 (qAg qFo rfl mso qBa (qAd
     (qB9 (qAd (qA6 qBz (pv 5) (qA6 qA7 (pv 8) qAc (λ_ _=>rfl)) (λ_ _=>rfl)) (pa1 (qA6 qBz (pv 5) (qA6 qA7 (pv 8) qAc (λ_ _=>rfl)) (λ_ _=>rfl))))) qAs))))) qAs)))))
  (qAe (qAo (qAg qDh rfl mso qBa (pa1 (pv 6)))))))))),?_⟩
 refine⟨_,rfl,_,rfl,a,ns,1,rfl,hS,by decide,by decide,λhd=>?_⟩;have d1:=hBw (hd / 8) (show(13:Int)≠0 by decide);have d2:=hBm (hd / 8) (show(0:Int)<13 by decide);have d3:=hBw hd (show(8:Int)≠0 by decide);have d4:=hBm hd (show(0:Int)<8 by decide);refine⟨_,rfl,_,rfl,_,_,rfl,rfl,a,ns,_,rfl,hS,by decide,by decide,λv1=>?_⟩;refine⟨_,rfl,_,_,rfl,rfl,⟨by decide,by decide⟩,_,_,rfl,rfl,(by show(0:Int)<_;decide),(by show 8<=sizeLine;decide),λL hL=>?_⟩;have X1:=Ext.new hL (.lst (spr.map V.int));obtain⟨sp,spm,spa⟩:=qZd (hs:=spr) d3 (by show hd % 8<8;exact d4);have spb:0<sp/\sp<=10:=by
  have:∀z∈spr,0<z/\z<=10:=by decide
  exact this sp spm
 refine⟨_,rfl,_,_,rfl,rfl,(by show(0:Int)<_;decide),L,spr.map V.int,_,_,rfl,rfl,SqL.of upd_same,spa,?_⟩;refine⟨_,_,sp,rfl,d1,by omega,spb.1,spb.2,λen es H2 e2 en0 hen esl esi w8 l8=>?_⟩;have E2:=X1.trans e2;obtain⟨bs,hb1,hb2⟩:=id hen;have lb:bs.length=es.length:=hb2.length;have esl':es.length<=12:=by omega
 refine⟨_,rfl,_,_,rfl,rfl,⟨by decide,by decide⟩,_,rfl,en,_,rfl,.inl (SqL.of hb1),?_⟩;refine⟨_,_,rfl,by omega,by rw[hA1];omega,λtl ts H3 e3 tl0 htl tsl tsx tnd=>?_⟩;have E3:=E2.trans e3;refine⟨_,rfl,_,rfl,_,_,rfl,rfl,a,ns,_,rfl,E3.sqL hS,by decide,by decide,λv2=>?_⟩;refine⟨_,10,rfl,by decide,by decide,λkl kn H4 e4 kl0 hkl knl knx knd=>?_⟩;have E4:=E3.trans e4;refine⟨hAq _,λnl hnl=>?_⟩;have nl0:=E4.none hnl;have E5:=E4.trans (Ext.new hnl (.lst []));have tsl':ts.length=es.length:=by rw[tsl,hA1,lb];omega
 have mn:min (ts.map V.str).length (bs.map V.ref).length=es.length:=by rw[hA1,hA1,lb,tsl'];exact Nat.min_self _
 have htl5:=(Ext.new hnl (.lst [])) _ _ (e4 _ _ htl);have hen5:=(Ext.new hnl (.lst [])) _ _ (e4 _ _ (e3 _ _ hb1));refine⟨_,rfl,_,rfl,tl,en,_,_,rfl,SqL.of htl5,SqL.of hen5,?_⟩;refine qKf (λi σ H6=>∃(x7 x8:Option V) (net:List Tr),σ=[some (.ref a),some (.int 1),some (.int hd),some (.ref en),some (.ref tl),some (.ref kl),some (.ref nl),x7,x8]/\Ext H4 H6/\qA5 H6 nl net/\net.length=i/\TxN net/\net.map (·.1)=ts.take i/\Paired (λt e=>Lnk kn e t) net (es.take i))
  ⟨none,none,[],rfl,Ext.new hnl _,⟨[],upd_same,.nil⟩,rfl,(λt ht=>by cases ht),rfl,by rw[List.take_zero];exact .nil⟩ ?_ ?_ ?_
 ·rintro i σ H6 _ ⟨x7,x8,net,_,e6,_⟩;exact⟨SqL.of (e6 _ _ (e4 _ _ htl)),SqL.of (e6 _ _ (e4 _ _ (e3 _ _ hb1)))⟩
 ·rintro i σ H6 T hi ⟨x7,x8,net,rfl,e6,nt,nl',tx,nm,lks⟩ hT;rw[mn]at hi;have hit:i<ts.length:=by omega
  have hib:i<bs.length:=by omega
  have g1:(ts.map V.str).getD i .non = .str ts[i]:=by rw[hA5,hAj,hA2 hit];rfl
  have g2:(bs.map V.ref).getD i .non = .ref bs[i]:=by rw[hA5,hAj,hA2 hib];rfl
  obtain⟨e,he,hbe⟩:=qBw hb2 (hA2 hib);obtain⟨⟨i0,i1⟩,j0,j1⟩:=esi e (hAs he);obtain⟨k1,k1e,k1m,k1a⟩:=qUx (kn:=kn) i0 (by rw[knl];show e.1<10;omega);obtain⟨k2,k2e,k2m,k2a⟩:=qUx (kn:=kn) j0 (by rw[knl];show e.2<10;omega);obtain⟨as,ea1,ea2⟩:=id nt;have la:as.length=net.length:=ea2.length;dsimp only;rw[g1,g2];have Y1:=Ext.new hT (.tup [V.str ts[i],V.ref bs[i]]);refine⟨T,_,rfl,SqT.of upd_same,rfl,_,_,rfl,_,_,rfl,rfl,?_⟩;refine⟨_,rfl,.inl ⟨rfl,_,SqL.of (Y1 _ _ ea1)⟩,_,rfl,(by show 1<=sizeLine;decide),λT1 hT1=>?_⟩;have Y2:=Y1.trans (Ext.new hT1 (.tup [V.str ts[i]]));have hb6:=Y2 _ _ (e6 _ _ (e4 _ _ (e3 _ _ hbe)));have hk6:=Y2 _ _ (e6 _ _ hkl);refine⟨_,rfl,_,rfl,bs[i],_,_,_,rfl,rfl,SqT.of hb6,(by exact qAv (j:=0) rfl),kl,_,_,_,rfl,rfl,SqL.of hk6,k1a,?_⟩;refine⟨_,rfl,_,rfl,bs[i],_,_,_,rfl,rfl,SqT.of hb6,(by exact qAv (j:=1) rfl),kl,_,_,_,rfl,rfl,SqL.of hk6,k2a,?_⟩;refine⟨(by show 2<=sizeLine;decide),λL2 hL2=>⟨L2,[k1,k2],rfl,SqL.of upd_same,(by show 2<64;decide),λS ss hS' perm srt=>?_⟩⟩;have Y3:=Y2.trans (Ext.new hL2 (.lst [V.str k1,V.str k2]));have Y4:=Y3.trans (Ext.new hS' (.lst (ss.map V.str)));refine⟨S,_,rfl,.inl ⟨SqL.of upd_same,λT2 hT2=>?_⟩⟩;have lss:ss.length=2:=perm.length_eq;obtain⟨x,y,rfl⟩:∃x y,ss=[x,y]:=by
   match ss,lss with
   |[x,y],_=>exact⟨x,y,rfl⟩
  have sx:qDk x:=by
   have:x∈[k1,k2]:=perm.mem_iff.mp (by simp);simp at this;rcases this with rfl|rfl
   ·exact knx _ k1m
   ·exact knx _ k2m
  have sy:qDk y:=by
   have:y∈[k1,k2]:=perm.mem_iff.mp (by simp);simp at this;rcases this with rfl|rfl
   ·exact knx _ k1m
   ·exact knx _ k2m
  have Y5:=Y4.trans (Ext.new hT2 (.tup ([x,y].map V.str)));have t1:upd (upd H6 T (.tup [V.str ts[i],V.ref bs[i]])) T1 (.tup [V.str ts[i]]) T1=some (.tup [V.str ts[i]]):=upd_same;have t15:=Ext.new hT2 (.tup ([x,y].map V.str)) _ _ (Ext.new hS' (.lst ([x,y].map V.str)) _ _ (Ext.new hL2 (.lst [V.str k1,V.str k2]) _ _ t1));refine⟨T1,T2,_,_,rfl,rfl,SqT.of t15,SqT.of upd_same,(by simp),(by show 3<=sizeLine;decide),(λz=>by cases z),λ_ T3 hT3=>?_⟩;have Y6:=Y5.trans (Ext.new hT3 (.tup (trV (ts[i],x,y))));refine⟨nl,_,_,rfl,rfl,Y6 _ _ ea1,?_,?_⟩
  ·rw[hA1];exact qAf (by omega)
  ·refine⟨_,_,net++[(ts[i],x,y)],rfl,(e6.trans Y6).over hnl _,qA5.snoc ea1 ea2 Y6 upd_same,by rw[hAd,nl'];rfl,(λt ht=>?_),by rw[hA7,nm,qAr (hA2 hit)];rfl,by rw[qAr he];exact Paired.snoc lks (zE6 perm k1e k2e)⟩;rcases hAh.mp ht with z|z
   ·exact tx t z
   ·rw[hAa]at z;subst z;exact⟨tsx _ (hBf hit),sx,sy,zD6 srt⟩
 ·rintro σ H6 ⟨x7,x8,net,rfl,e6,nt,nl',tx,nm,lks⟩;rw[mn]at nl' nm lks;rw[hA9 (hA3 _)]at lks;obtain⟨as,ea1,ea2⟩:=id nt;have la:as.length=net.length:=ea2.length;refine⟨_,rfl,nl,as,net.map qFw,rfl,SqL.of ea1,qC6 _ (λa t z=>⟨SqT.of z,by simp[qFw]⟩) ea2,by omega,λr o hr' g sp=>?_⟩;have E6:=E4.trans e6;have gm:∀i∈o.toList,i<as.length:=λi hi=>qKd g hi
  have gm':∀i∈o.toList,i<net.length:=λi hi=>by have:=gm i hi;omega
  have gl:=qNy g;have lt:as.length=(net.map qFw).length:=by rw[hA1];exact la
  rw[lt]at g sp;obtain⟨s1,s2⟩:=qFa g sp;rw[<-qE9 gm']at s1 s2;have nd:((o.toList.map λi=>net.getD i t0).map (·.1)).Nodup:=by
   rw[<-qJ7];refine(s2.map _).nodup_iff.mpr ?_;rw[qJ7,nm,<-tsl',hA9 (hA3 _)];refine tnd ?_;rw[hA1];omega
  have inR:∀e∈es,InR e.1/\InR e.2:=λe he=>by
   obtain⟨⟨z1,z2⟩,z3,z4⟩:=esi e he;exact⟨⟨z1,by omega⟩,z3,by omega⟩
  have kn10:kn.length=10:=knl;have knd':=knd (by decide);have wl:=(qPp (zBn knd' kn10) net es lks inR).2;have pm:(o.toList.map λi=>net.getD i t0).Perm net:=by
   have z:=s2.map (λr:List Str=>((r.getD 0 "",r.getD 1 "",r.getD 2 ""):Tr));have id1:∀l:List Tr,(l.map qFw).map (λr:List Str=>((r.getD 0 "",r.getD 1 "",r.getD 2 ""):Tr))=l:=λl=>by
    rw[hB3];exact List.map_id l
   rw[id1,id1]at z;exact z
  have ptk:∀x,qI0 net x->x∈kn:=λx ⟨t,ht,hx⟩=>by
   obtain⟨j,hj,rfl⟩:=hDm ht;obtain⟨e,he,lk⟩:=qBw lks (hA2 hj);obtain⟨⟨i1,i2⟩,i3,i4⟩:=inR e (hAs he);obtain⟨k1,k1e,k1m,_⟩:=qUx (kn:=kn) i1 (by rw[kn10];exact i2);obtain⟨k2,k2e,k2m,_⟩:=qUx (kn:=kn) i3 (by rw[kn10];exact i4);rcases lk with ⟨z1,z2⟩|⟨z1,z2⟩ <;> rcases hx with rfl|rfl <;> first|(rw[z1,<-k1e];exact k1m)|(rw[z2,<-k2e];exact k2m)|(rw[z1,<-k2e];exact k2m)|(rw[z2,<-k1e];exact k1m)
  have wp:=qPo knd' ptk pm.symm;have pl:=pm.length_eq;have esn:net.length=es.length:=lks.length;refine q r (o.toList.map λi=>net.getD i t0) _ (E6.trans (Ext.new hr' _)) (E6.none hr') ⟨_,upd_same,Paired.mapP (qGs ea2 gm) λa' t z=>Ext.new hr' _ _ _ z⟩ ?_ (λt ht=>?_) (qIn s1 nd) (by omega) (by omega)
  ·rw[hA1,gl];omega
  ·have m:qFw t∈net.map qFw:=s2.mem_iff.mp (hBd ht);obtain⟨u,hu,e⟩:=hAe.mp m;rw[<-qTi e];exact tx u hu
end
theorem qSw:bootBuiltins "int"=some (.type "int"):=by decide +kernel
section
variable{P:Program}{w:World}{K:PySem.W.Frag}{mg:Str->Option Value}{base:Heap}{f f1 f2:Addr}{fd fd1 fd2:FuncData}
theorem qCd{as:List Addr}{net:List Tr}{Q:List V->Hp->Prop}{H1:Hp}{σ0:St}{g:TG}{tt:TT}{te:TE}{p:Addr}(h:Tr->Str)(hp:H1 p=some (.lst (as.map V.ref)))(pr:Paired (λa t=>H1 a=some (.tup (trV t))) as net)(ln:net.length<=20)
  (hs:∀a t,H1 a=some (.tup (trV t))->∀(C:V->Hp->Prop) (B:Hp->Prop),C (.str (h t)) H1->g (.ref a) σ0 H1 λσ2 H2=>Sle σ0 σ2/\tt σ2 H2 λb H3=>if b=true then te σ2 H3 C else B H3)
  (hd:Q ((net.map h).map V.str) H1):qDj (Itl K p) σ0 g tt te Q H1:=by
 have lA:as.length=net.length:=pr.length;refine qA1 (xs:=as.map V.ref) (λj ys H2=>H2=H1/\ys=((net.take j).map h).map V.str) ⟨rfl,rfl⟩ (λj ys H2 _ h=>by rw[h.1];exact SqL.of hp) ?_ ?_
 ·rintro j x ys H2 hx ⟨rfl,rfl⟩;obtain⟨a,t,rfl,ht,ha⟩:=qDc pr hx;have hi:=qBq ht;have sz:(((net.take j).map h).map V.str).length<sizeLine:=by
   rw[hA1,hA1,hAn];exact qAf (by omega)
  exact hs a t ha _ _ ⟨sz,nxt (qBq hx) ⟨rfl,by rw[qAr ht,hA7,hA7];rfl⟩⟩
 ·rintro ys H2 ⟨rfl,rfl⟩;rw[hA1,lA,hA9 (hA3 _)];exact hd
end
end My
namespace My
theorem qE5{x i:Nat}(h:x<2^i){j:Nat}(hj:i<=j):x.testBit j=false :=
 hD4 (hAl h (hDd (by decide) hj))
theorem qZw{x i:Nat}(h:x.testBit i=true):2^i<=x:=by
 rcases hCx x (2^i) with z|z
 ·rw[hD4 z]at h;cases h
 ·exact z
theorem qRu{x i:Nat}(h1:x.testBit i=true)(h2:x<2^(i+1)):x.log2=i:=by
 have g:=qZw h1;have nz:x≠0:=λz=>by subst z;simp at h1
 have a:=(Nat.log2_lt nz).mpr h2;have b:=(Nat.le_log2 nz).mpr g;omega
theorem qZv{x i:Nat}(h:x.testBit i=true):i<=x.log2:=by
 have nz:x≠0:=λz=>by subst z;simp at h
 exact(Nat.le_log2 nz).mpr (qZw h)
theorem qMq{x i:Nat}(h:x.log2<i):x.testBit i=false:=qE5 hD1 h
theorem qFh{n:Nat}(h:n % 2=0):n^^^1=n+1:=by
 have d:(n^^^1) / 2=n / 2:=by rw[Nat.xor_div_two];simp
 have b:(n^^^1).testBit 0=true:=by rw[hAp,hAw,hAw];simp[h]
 rw[hAw]at b;have b':=hDs b;omega
theorem qK2{n:Nat}(h:n % 2=1):n^^^1=n-1:=by
 have d:(n^^^1) / 2=n / 2:=by rw[Nat.xor_div_two];simp
 have b:(n^^^1).testBit 0=false:=by rw[hAp,hAw,hAw];simp[h]
 rw[hAw]at b;have b':=hEp b;omega
theorem qS9{s:Nat}(hs:s≠0):s >>> s.log2=1:=by
 rw[hCs];have a:=Nat.log2_self_le hs;have b:s<2^(s.log2+1):=hD1;rw[Nat.pow_succ]at b;have p:0<2^s.log2:=Nat.pow_pos (by decide);exact Nat.div_eq_of_lt_le (by omega) (by omega)
theorem qHi(x:Nat){s:Nat}(hs:s≠0):x^^^s<x↔x.testBit s.log2=true:=by
 have e:(x^^^s) >>> s.log2=(x >>> s.log2)^^^1:=by rw[Nat.shiftRight_xor_distrib,qS9 hs]
 have tb:x.testBit s.log2=decide ((x >>> s.log2) % 2=1):=by rw[Nat.testBit_eq_decide_div_mod_eq,hCs]
 rw[tb];have lt:∀ {a b:Nat},a >>> s.log2<b >>> s.log2->a<b:=λ{a b} h=>by
  rw[hCs,hCs]at h;rcases hCx a b with z|z
  ·exact z
  ·have:=Nat.div_le_div_right (c:=2^s.log2) z;omega
 rcases hBh (x >>> s.log2) with h|h
 ·rw[qFh h]at e;have:x<x^^^s:=lt (by omega);constructor
  ·intro z;omega
  ·intro z;rw[h]at z;simp at z
 ·rw[qK2 h]at e;have:x^^^s<x:=lt (by rw[e];exact Nat.sub_one_lt λz=>by rw[z]at h;cases h);exact⟨λ_=>by simp[h],λ_=>this⟩
def rd1(x s:Nat):Nat:=if x.testBit s.log2=true then x^^^s else x
theorem qYn(x:Nat){s:Nat}(hs:s≠0):(if x^^^s<x then x^^^s else x)=rd1 x s:=by
 unfold rd1;by_cases h:x.testBit s.log2=true
 ·rw[hDu h,hDu ((qHi x hs).mpr h)]
 ·rw[hDt h,hDt (λz=>h ((qHi x hs).mp z))]
theorem qC1(x s i:Nat):(rd1 x s).testBit i=(x.testBit i ^^ (x.testBit s.log2 && s.testBit i)):=by
 unfold rd1;by_cases h:x.testBit s.log2=true
 ·rw[hDu h,hAp,h,hCn]
 ·rw[hDt h];have:x.testBit s.log2=false:=by simpa using h
  rw[this];simp
theorem qTl(s:Nat):rd1 0 s=0:=by unfold rd1;simp
theorem qXc(x y s:Nat):rd1 (x^^^y) s=rd1 x s^^^rd1 y s:=by
 refine hBa λi=>?_
 rw[qC1,hAp,hAp,hAp,qC1,qC1];cases x.testBit i <;> cases y.testBit i <;> cases x.testBit s.log2 <;> cases y.testBit s.log2 <;> cases s.testBit i <;> rfl
def red1(k:List Nat)(x:Nat):Nat:=k.foldl rd1 x
theorem qGi:∀k:List Nat,red1 k 0=0
 |[]=>rfl
 |s :: k=>by show red1 k (rd1 0 s)=0;rw[qTl];exact qGi k
theorem qNa:∀(k:List Nat) (x y:Nat),red1 k (x^^^y)=red1 k x^^^red1 k y
 |[],_,_=>rfl
 |s :: k,x,y=>by show red1 k (rd1 (x^^^y) s)=red1 k (rd1 x s)^^^red1 k (rd1 y s);rw[qXc];exact qNa k _ _
structure RR(k:List Nat):Prop where
 nz:∀s∈k,s≠0
 ap:k.Pairwise λs t=>t.testBit s.log2=false/\s.testBit t.log2=false
theorem RR.nil:RR []:=⟨λs h=>(by cases h),.nil⟩
theorem RR.tl{s:Nat}{k:List Nat}(h:RR (s :: k)):RR k:=⟨λt ht=>h.nz t (hA4 _ ht),(hBl.mp h.ap).2⟩
theorem RR.hd{s:Nat}{k:List Nat}(h:RR (s :: k)):∀t∈k,t.testBit s.log2=false/\s.testBit t.log2=false:=(hBl.mp h.ap).1
theorem RR.ne:∀ {k:List Nat},RR k->∀ {s t:Nat},s∈k->t∈k->s≠t->s.testBit t.log2=false
 |[],_,_,_,hs,_,_=>by cases hs
 |a :: k,h,s,t,hs,ht,e=>by
  rcases hA8.mp hs with rfl|zs
  ·rcases hA8.mp ht with rfl|zt
   ·exact absurd rfl e
   ·exact(h.hd t zt).2
  ·rcases hA8.mp ht with rfl|zt
   ·exact(h.hd s zs).1
   ·exact RR.ne h.tl zs zt e
theorem RR.self{k:List Nat}(h:RR k){s:Nat}(hs:s∈k):s.testBit s.log2=true:=hDj (h.nz s hs)
theorem RR.nd{k:List Nat}(h:RR k):k.Nodup:=by
 have:∀ {k:List Nat},RR k->k.Nodup:=λ{k} h=>by
  induction k with
  |nil=>exact hDg
  |cons s k ih =>
   refine hBq.mpr ⟨λz=>?_,ih h.tl⟩;have:=(h.hd s z).1;rw[h.self hA6]at this;cases this
 exact this h
theorem qEk:∀ {k:List Nat} {x i:Nat},RR k->(∀s∈k,x.testBit s.log2=true->s.testBit i=false)->(red1 k x).testBit i=x.testBit i
 |[],_,_,_,_=>rfl
 |s :: k,x,i,h,hx=>by
  show(red1 k (rd1 x s)).testBit i=_;have b1:(rd1 x s).testBit i=x.testBit i:=by
   rw[qC1];cases q:x.testBit s.log2 with
   |false=>simp
   |true=>rw[hx s hA6 q];simp
  rw[qEk h.tl λt ht hb=>?_,b1];refine hx t (hA4 _ ht) ?_;rw[qC1,(h.hd t ht).2]at hb
  simpa using hb
theorem qGj:∀ {k:List Nat} {x:Nat},RR k->∀s∈k,(red1 k x).testBit s.log2=false
 |[],_,_,_,hs=>by cases hs
 |a :: k,x,h,s,hs=>by
  show(red1 k (rd1 x a)).testBit s.log2=false;rcases hA8.mp hs with rfl|z
  ·rw[qEk h.tl λt ht _=>(h.hd t ht).1,qC1,h.self hA6];cases x.testBit s.log2 <;> rfl
  ·exact qGj h.tl s z
theorem qM9:∀ {k:List Nat},RR k->∀s∈k,red1 k s=0
 |[],_,_,hs=>by cases hs
 |a :: k,h,s,hs=>by
  show red1 k (rd1 s a)=0;rcases hA8.mp hs with rfl|z
  ·have:rd1 s s=0:=by unfold rd1;rw[hDu (h.self hA6),hCy]
   rw[this];exact qGi k
  ·have:rd1 s a=s:=by unfold rd1;rw[hDt (by rw[(h.hd s z).1];decide)]
   rw[this];exact qM9 h.tl s z
theorem qQ4{k:List Nat}(h:RR k){x:Nat}(hx:∀s∈k,x.testBit s.log2=false):red1 k x=x :=
 hBa λi=>qEk h λs hs z=>by rw[hx s hs]at z;cases z
inductive Spn (l:List Nat):Nat->Prop
 |zero:Spn l 0
 |add {x y:Nat}:x∈l->Spn l y->Spn l (x^^^y)
theorem Spn.mem{l:List Nat}{x:Nat}(h:x∈l):Spn l x:=by
 have:=Spn.add h Spn.zero
 rwa [Nat.xor_zero]at this
theorem Spn.xor{l:List Nat}{x y:Nat}(h:Spn l x)(h':Spn l y):Spn l (x^^^y):=by
 induction h with
 |zero=>rwa [hCz]
 |add m _ ih=>rw[hC2];exact .add m ih
theorem Spn.mono{l l':List Nat}(h:∀x∈l,Spn l' x){y:Nat}(hy:Spn l y):Spn l' y:=by
 induction hy with
 |zero=>exact .zero
 |add m _ ih=>exact(h _ m).xor ih
theorem Spn.lt{l:List Nat}{m:Nat}(h:∀x∈l,x<2^m){y:Nat}(hy:Spn l y):y<2^m:=by
 induction hy with
 |zero=>exact Nat.pow_pos (by decide)
 |add hm _ ih=>exact hCj (h _ hm) ih
theorem qBn(x y:Nat):(x^^^y)^^^y=x:=by rw[hC2,hCy,Nat.xor_zero]
theorem qXb{k:List Nat}{x s:Nat}(hs:s∈k):Spn k (rd1 x s^^^x):=by
 unfold rd1;split
 ·rw[Nat.xor_comm x s,qBn];exact .mem hs
 ·rw[hCy];exact .zero
theorem qIo(k:List Nat):∀(k':List Nat),(∀s∈k',s∈k)->∀x,Spn k (red1 k' x^^^x)
 |[],_,x=>by show Spn k (x^^^x);rw[hCy];exact .zero
 |s :: k',h,x=>by
  have a:=qIo k k' (λt ht=>h t (hA4 _ ht)) (rd1 x s);have b:=qXb (x:=x) (h s hA6);have c:=a.xor b;rw[<-hC2,qBn]at c;exact c
theorem qMs{k:List Nat}(h:RR k){y:Nat}(hy:Spn k y):red1 k y=0:=by
 induction hy with
 |zero=>exact qGi k
 |add m _ ih=>rw[qNa,qM9 h _ m,ih];rfl
theorem qS5{k:List Nat}(h:RR k){y:Nat}(hy:Spn k y)(hx:∀s∈k,y.testBit s.log2=false):y=0:=(qQ4 h hx).symm.trans (qMs h hy)
theorem qMt{k:List Nat}(h:RR k){y:Nat}(hy:Spn k y)(nz:y≠0):∃s∈k,s.log2=y.log2:=by
 refine hCt λno=>?_
 have e:(red1 k y).testBit y.log2=y.testBit y.log2:=qEk h λs hs hb=>by
  have le:=qZv hb;have ne:s.log2≠y.log2:=λz=>no ⟨s,hs,z⟩
  exact qMq (by omega)
 rw[qMs h hy,hDj nz]at e;simp at e
theorem qIm{a b:List Nat}(ha:RR a)(hb:RR b)(h:∀y,Spn a y↔Spn b y):∀s∈a,s∈b:=λs hs=>by
 obtain⟨t,ht,e⟩:=qMt hb ((h s).mp (.mem hs)) (ha.nz s hs);have d:s^^^t=0:=by
  refine qS5 ha ((Spn.mem hs).xor ((h t).mpr (.mem ht))) λu hu=>?_
  rw[hAp];by_cases z:u=s
  ·subst z;have h2:=hb.self ht;rw[e]at h2;rw[ha.self hs,h2];rfl
  ·have s1:=ha.ne hs hu (λw=>z w.symm);obtain⟨v,hv,ev⟩:=qMt hb ((h u).mp (.mem hu)) (ha.nz u hu);have us:=ha.ne hu hs z;have vt:t≠v:=λw=>by
    have h3:=ha.self hu;rw[<-ev,<-w,e]at h3;rw[h3]at us;cases us
   have t1:=hb.ne ht hv vt;rw[ev]at t1;rw[s1,t1];rfl
 have:s=t:=by
  have q:=qBn s t;rw[d,hCz]at q;exact q.symm
 rw[this];exact ht
def qOx(k:List Nat)(x:Nat):List Nat:=if red1 k x=0 then k else k.map (λs=>rd1 s (red1 k x))++[red1 k x]
def red(xs:List Nat):List Nat:=xs.foldl qOx []
theorem qDx(xs:List Nat)(x:Nat):red (xs++[x])=qOx (red xs) x:=by unfold red;rw[hC5];rfl
theorem qNb{s f:Nat}(hs:s≠0)(hf:f≠0)(h:f.testBit s.log2=false):(rd1 s f).log2=s.log2/\rd1 s f≠0:=by
 have ss:=hDj hs;have bit:(rd1 s f).testBit s.log2=true:=by rw[qC1,ss,h];simp
 refine⟨qRu bit ?_,λz=>by rw[z]at bit;simp at bit⟩;unfold rd1;split
 ·rename_i q;have le:=qZv q;exact hCj hD1 (hAl hD1 (hDd (by decide) (by omega)))
 ·exact hD1
theorem RR.step{k:List Nat}(h:RR k)(x:Nat):RR (qOx k x):=by
 unfold qOx;by_cases z:red1 k x=0
 ·rw[hDu z];exact h
 rw[hDt z];have ld:=λs hs=>qGj (x:=x) h s hs
 generalize red1 k x=f at z ld;have l2:∀s∈k,(rd1 s f).log2=s.log2/\rd1 s f≠0:=λs hs=>qNb (h.nz s hs) z (ld s hs)
 have ff:=hDj z;refine⟨λs hs=>?_,?_⟩
 ·rcases hAh.mp hs with w|w
  ·obtain⟨u,hu,rfl⟩:=hAe.mp w;exact(l2 u hu).2
  ·rw[hAa]at w;rw[w];exact z
 ·rw[List.pairwise_append];refine⟨?_,List.pairwise_singleton _ _,λa ha b hb=>?_⟩
  ·rw[hCa];refine hCi (λ{a b} ha hb r=>?_) h.ap;rw[(l2 a ha).1,(l2 b hb).1,qC1,qC1,r.1,r.2,ld a ha,ld b hb];simp
  ·rw[hAa]at hb;obtain⟨u,hu,rfl⟩:=hAe.mp ha;subst hb;refine⟨by rw[(l2 u hu).1];exact ld u hu,?_⟩;rw[qC1,ff];cases u.testBit b.log2 <;> rfl
theorem qTj{k:List Nat}(x y:Nat):Spn (qOx k x) y↔Spn (k++[x]) y:=by
 have rx:=qIo k k (λ_ h=>h) x;unfold qOx;have inl:∀ {z},Spn k z->Spn (k++[x]) z:=λ{z} hz=>hz.mono λu hu=>.mem (hAk _ hu)
 have xm:Spn (k++[x]) x:=.mem (by simp);by_cases z:red1 k x=0
 ·rw[hDu z];rw[z,hCz]at rx;refine⟨inl,λh=>h.mono λu hu=>?_⟩;rcases hAh.mp hu with w|w
  ·exact .mem w
  ·rw[hAa]at w;rw[w];exact rx
 rw[hDt z];have fm:Spn (k++[x]) (red1 k x):=by
  have:=(inl rx).xor xm
  rwa [qBn]at this
 revert rx fm;generalize red1 k x=f;intro rx fm;have ff:Spn (k.map (λs=>rd1 s f)++[f]) f:=.mem (by simp);have sk:∀s∈k,Spn (k.map (λs=>rd1 s f)++[f]) s:=λs hs=>by
  have a:Spn (k.map (λs=>rd1 s f)++[f]) (rd1 s f):=.mem (hAk _ (hBd (f:=λs=>rd1 s f) hs));by_cases q:s.testBit f.log2=true
  ·have b:=a.xor ff;rw[show rd1 s f=s^^^f from hDu q,qBn]at b;exact b
  ·rw[show rd1 s f=s from hDt q]at a;exact a
 constructor
 ·intro h;refine h.mono λu hu=>?_
  rcases hAh.mp hu with w|w
  ·obtain⟨s,hs,rfl⟩:=hAe.mp w;unfold rd1;split
   ·exact(inl (.mem hs)).xor fm
   ·exact inl (.mem hs)
  ·rw[hAa]at w;rw[w];exact fm
 ·intro h;refine h.mono λu hu=>?_
  rcases hAh.mp hu with w|w
  ·exact sk u w
  ·rw[hAa]at w;subst w;have b:=ff.xor (rx.mono sk);rw[<-hC2,hCy,hCz]at b;exact b
theorem qOh{P:List Nat->Prop}(h0:P [])(hs:∀l t,P l->P (l++[t]))(l:List Nat):P l:=by
 have:∀r:List Nat,P r.reverse:=λr=>by
  induction r with
  |nil=>exact h0
  |cons a r ih=>rw[List.reverse_cons];exact hs _ _ ih
 have q:=this l.reverse
 rwa [List.reverse_reverse]at q
theorem qD6(xs:List Nat):RR (red xs):=qOh (P:=λxs=>RR (red xs)) RR.nil (λl t ih=>by rw[qDx];exact ih.step t) xs
theorem qDm(xs:List Nat):∀y,Spn (red xs) y↔Spn xs y:=by
 refine qOh (P:=λxs=>∀y,Spn (red xs) y↔Spn xs y) (λy=>Iff.rfl) (λl t ih y=>?_) xs;rw[qDx,qTj];constructor
 ·exact λh=>h.mono λu hu=>by
   rcases hAh.mp hu with w|w
   ·exact((ih u).mp (.mem w)).mono λv hv=>.mem (hAk _ hv)
   ·exact .mem (hAb _ w)
 ·exact λh=>h.mono λu hu=>by
   rcases hAh.mp hu with w|w
   ·exact((ih u).mpr (.mem w)).mono λv hv=>.mem (hAk _ hv)
   ·exact .mem (hAb _ w)
theorem qVm{xs:List Nat}{m:Nat}(h:∀x∈xs,x<2^m):∀s∈red xs,s<2^m:=λs hs=>Spn.lt h ((qDm xs s).mp (.mem hs))
def Fsh(xs:List Nat):Prop:=∀i x,xs[i]?=some x->∃j,x.testBit j=true/\∀y∈xs.take i,y.testBit j=false
theorem qP4{l:List Nat}{j:Nat}(h:∀x∈l,x.testBit j=false){y:Nat}(hy:Spn l y):y.testBit j=false:=by
 induction hy with
 |zero=>simp
 |add m _ ih=>rw[hAp,h _ m,ih];rfl
theorem qXa(xs:List Nat):Fsh xs->(red xs).length=xs.length:=by
 refine qOh (P:=λxs=>Fsh xs->(red xs).length=xs.length) (λ_=>rfl) (λl t ih h=>?_) xs;have ih':=ih λi x hx=>by
  have hi:i<l.length:=(hAc.mp hx).1;obtain⟨j,h1,h2⟩:=h i x (by rw[hCb hi];exact hx);exact⟨j,h1,λy hy=>h2 y (by rw[hCm (by omega)];exact hy)⟩
 obtain⟨j,h1,h2⟩:=h l.length t (by simp);rw[hCm (hA3 _),hA9 (hA3 _)]at h2;rw[qDx];unfold qOx;have nz:red1 (red l) t≠0:=λz=>by
  have rx:=qIo (red l) (red l) (λ_ h=>h) t;rw[z,hCz]at rx;have:=qP4 h2 ((qDm l t).mp rx);rw[this]at h1;cases h1
 rw[hDt nz,hAd,hA1,hAd,ih'];rfl
def xsum:Nat->(Nat->Bool)->Bool
 |0,_=>false
 |m+1,f=>xsum m f ^^ f m
theorem qBb{f g:Nat->Bool}:∀ {m:Nat},(∀j,j<m->f j=g j)->xsum m f=xsum m g
 |0,_=>rfl
 |m+1,h=>by unfold xsum;rw[qBb λj hj=>h j (by omega),h m (by omega)]
theorem qFv(f g:Nat->Bool):∀m:Nat,xsum m (λj=>f j ^^ g j)=(xsum m f ^^ xsum m g)
 |0=>rfl
 |m+1=>by
  unfold xsum;rw[qFv f g m];show((xsum m f ^^ xsum m g) ^^ (f m ^^ g m))=_;cases xsum m f <;> cases xsum m g <;> cases f m <;> cases g m <;> rfl
theorem qCn:∀m:Nat,xsum m (λ_=>false)=false
 |0=>rfl
 |m+1=>by unfold xsum;rw[qCn m];rfl
theorem qEg{f:Nat->Bool}{l:Nat}:∀ {m:Nat},(∀j,j<m->j≠l->f j=false)->xsum m f=(decide (l<m) && f l)
 |0,_=>by simp[xsum]
 |m+1,h=>by
  unfold xsum;rw[qEg (m:=m) λj hj=>h j (by omega)];by_cases e:l=m
  ·subst e;simp
  ·have n:=h m (by omega) (λz=>e z.symm);rw[n];have:decide (l<m)=decide (l<m+1):=by
    by_cases q:l<m
    ·rw[hDp q,hDp (by omega)]
    ·rw[hDr q,hDr (by omega)]
   rw[this];simp
theorem qJi(f:Nat->Bool):∀m:Nat,xsum (m+1) f=(f 0 ^^ xsum m λj=>f (j+1))
 |0=>by simp[xsum]
 |m+1=>by
  rw[xsum,qJi f m,xsum];cases f 0 <;> cases xsum m (λj=>f (j+1)) <;> cases f (m+1) <;> rfl
theorem qMo(f:Nat->Bool):∀m:Nat,xsum m (λj=>f (m-1-j))=xsum m f
 |0=>rfl
 |m+1=>by
  rw[qJi];have:xsum m (λj=>f (m+1-1-(j+1)))=xsum m λj=>f (m-1-j):=qBb λj hj=>by
   rw[show m+1-1-(j+1)=m-1-j by omega]
  rw[this,qMo f m];show(f m ^^ xsum m f)=(xsum m f ^^ f m);cases f m <;> cases xsum m f <;> rfl
def dot(m x y:Nat):Bool:=xsum m λj=>x.testBit j && y.testBit j
theorem qI9(m x x' y:Nat):dot m (x^^^x') y=(dot m x y ^^ dot m x' y):=by
 unfold dot;rw[<-qFv];refine qBb λj _=>?_
 rw[hAp];cases x.testBit j <;> cases x'.testBit j <;> cases y.testBit j <;> rfl
theorem qSj(m x y y':Nat):dot m x (y^^^y')=(dot m x y ^^ dot m x y'):=by
 unfold dot;rw[<-qFv];refine qBb λj _=>?_
 rw[hAp];cases x.testBit j <;> cases y.testBit j <;> cases y'.testBit j <;> rfl
theorem qUu(m y:Nat):dot m 0 y=false:=by
 unfold dot;rw[qBb (g:=λ_=>false) λj _=>by simp,qCn]
theorem qSi(m y:Nat):dot m y 0=false:=by
 unfold dot;rw[qBb (g:=λ_=>false) λj _=>by simp,qCn]
theorem qY7{m p y:Nat}(hp:p<m):dot m (2^p) y=y.testBit p:=by
 unfold dot;rw[qEg (l:=p) λj _ ne=>by rw[hB5,hDr (λz=>ne z.symm)];rfl];rw[hB5];simp[hp]
theorem qN2{m x s l:Nat}(hl:l<m)(hs:s.testBit l=true)(h:∀j,j<m->j≠l->(x.testBit j && s.testBit j)=false):dot m x s=x.testBit l:=by
 unfold dot;rw[qEg (l:=l) h,hDp hl,hs];simp
theorem qP3{l:List Nat}{m y:Nat}(h:∀s∈l,dot m y s=false){z:Nat}(hz:Spn l z):dot m y z=false:=by
 induction hz with
 |zero=>exact qSi m y
 |add hm _ ih=>rw[qSj,h _ hm,ih];rfl
theorem qMu{l:List Nat}{m s:Nat}(h:∀x∈l,dot m x s=false){z:Nat}(hz:Spn l z):dot m z s=false:=by
 induction hz with
 |zero=>exact qUu m s
 |add hm _ ih=>rw[qI9,h _ hm,ih];rfl
theorem qHa:∀(l x:Nat),x.testBit l=false->2^l+x=2^l^^^x
 |0,x,h=>by
  have e:x % 2=0:=by
   rw[hAw]at h;have:=hEp h;omega
  show 1+x=1^^^x;rw[Nat.xor_comm,qFh e,Nat.add_comm]
 |l+1,x,h=>by
  rw[hC3]at h;have ih:=qHa l (x / 2) h;have d:(2^(l+1)^^^x) / 2=2^l+x / 2:=by
   rw[Nat.xor_div_two,ih,Nat.pow_succ,Nat.mul_div_cancel _ (by decide)]
  have b:(2^(l+1)^^^x).testBit 0=x.testBit 0:=by rw[hAp,hB5];simp
  rw[hAw,hAw]at b;have b':(2^(l+1)^^^x) % 2=1↔x % 2=1:=by simpa using b
  have p:=Nat.pow_succ (n:=2) (m:=l);rcases hBh x with q|q
  ·have:¬(2^(l+1)^^^x) % 2=1:=λz=>by have:=b'.mp z;omega
   omega
  ·have:=b'.mpr q;omega
theorem qIb:∀(L:List Nat),L.Nodup->∀j,((L.map λl=>2^l).sum).testBit j=decide (j∈L)
 |[],_,j=>by simp
 |l :: L,nd,j=>by
  obtain⟨n1,n2⟩:=hBq.mp nd;have ih:=qIb L n2;rw[hAv,List.sum_cons,qHa l _ (by rw[ih l,hDr n1]),hAp,ih j,hB5];by_cases e:l=j
  ·subst e;simp[n1]
  ·have e':¬j=l:=λz=>e z.symm
   simp[e,e']
def crM(S:List Nat)(p:Nat):Nat:=2^p+((S.filter λs:Nat=>s.testBit p).map λs:Nat=>2^s.log2).sum
def isLd(S:List Nat)(p:Nat):Prop:=∃s∈S,s.log2=p
instance (S:List Nat):DecidablePred (isLd S):=λp=>inferInstanceAs (Decidable (∃s∈S,s.log2=p))
theorem qYr:∀ {S:List Nat},RR S->(S.map Nat.log2).Nodup
 |[],_=>hDg
 |s :: S,h=>by
  rw[hAv];refine hBq.mpr ⟨λz=>?_,qYr h.tl⟩;obtain⟨t,ht,e⟩:=hAe.mp z;have a:=(h.hd t ht).1;rw[<-e,h.self (hA4 _ ht)]at a;cases a
theorem qEs{S:List Nat}(h:RR S)(p j:Nat):(((S.filter λs:Nat=>s.testBit p).map λs:Nat=>2^s.log2).sum).testBit j=decide (∃s∈S,s.testBit p=true/\s.log2=j):=by
 have e:((S.filter λs:Nat=>s.testBit p).map λs:Nat=>2^s.log2)=((S.filter λs:Nat=>s.testBit p).map Nat.log2).map λl=>2^l:=by rw[hB3];rfl
 rw[e,qIb _ ((qYr h).sublist (hDn.map _))];refine decide_eq_decide.mpr ?_;rw[hAe];constructor
 ·rintro⟨s,hs,rfl⟩;exact⟨s,(hBb.mp hs).1,(hBb.mp hs).2,rfl⟩
 ·rintro⟨s,hs,h1,rfl⟩;exact⟨s,hBb.mpr ⟨hs,h1⟩,rfl⟩
theorem qRw{S:List Nat}(h:RR S)(j:Nat):((S.map λs:Nat=>2^s.log2).sum).testBit j=decide (isLd S j):=by
 have e:(S.map λs:Nat=>2^s.log2)=(S.map Nat.log2).map λl=>2^l:=by rw[hB3];rfl
 rw[e,qIb _ (qYr h)];refine decide_eq_decide.mpr ?_;rw[hAe];exact Iff.rfl
theorem qSp{S:List Nat}(h:RR S){p:Nat}(np:¬isLd S p)(j:Nat):(crM S p).testBit j=(decide (p=j) ^^ decide (∃s∈S,s.testBit p=true/\s.log2=j)):=by
 unfold crM;rw[qHa _ _ (by rw[qEs h];exact hDr λ⟨s,hs,_,e⟩=>np ⟨s,hs,e⟩),hAp,hB5,qEs h]
theorem qWf{S:List Nat}{m:Nat}(h:RR S)(hm:∀s∈S,s<2^m){p:Nat}(hp:p<m)(np:¬isLd S p):crM S p<2^m:=by
 refine hC1 _ λi hi=>?_
 rw[qSp h np,hDr (by omega:¬p=i),hDr]
 ·rfl
 ·rintro⟨s,hs,_,e⟩;have:=h.self hs;rw[e,qE5 (hm s hs) hi]at this;cases this
theorem qSo{S:List Nat}{m:Nat}(h:RR S)(hm:∀s∈S,s<2^m){p:Nat}(hp:p<m)(np:¬isLd S p):∀s∈S,dot m (crM S p) s=false:=λs hs=>by
 have e:crM S p=2^p^^^((S.filter λs:Nat=>s.testBit p).map λs:Nat=>2^s.log2).sum:=by
  unfold crM;exact qHa _ _ (by rw[qEs h];exact hDr λ⟨s,hs,_,e⟩=>np ⟨s,hs,e⟩)
 have ls:s.log2<m:=by
  have:=h.self hs;rcases hCx s.log2 m with z|z
  ·exact z
  ·rw[qE5 (hm s hs) z]at this;cases this
 rw[e,qI9,qY7 hp,qN2 (l:=s.log2) ls (h.self hs) λj hj ne=>?_,qEs h]
 ·have:decide (∃t∈S,t.testBit p=true/\t.log2=s.log2)=s.testBit p:=by
   cases q:s.testBit p with
   |true=>exact hDp ⟨s,hs,q,rfl⟩
   |false =>
    refine hDr ?_;rintro⟨t,ht,h1,h2⟩;by_cases z:t=s
    ·subst z;rw[q]at h1;cases h1
    ·have a:=h.ne hs ht (λw=>z w.symm);rw[h2,h.self hs]at a;cases a
  rw[this];cases s.testBit p <;> rfl
 ·rw[qEs h];by_cases q:∃t∈S,t.testBit p=true/\t.log2=j
  ·obtain⟨t,ht,h1,h2⟩:=q;have z:s≠t:=λw=>ne (by rw[w,h2])
   have a:=h.ne hs ht z;rw[h2]at a;rw[a];simp
  ·rw[hDr q];rfl
def qEf(S:List Nat)(m:Nat):List Nat:=((List.range m).filter λp=>!decide (isLd S p)).map (crM S)
def xl(L:List Nat):Nat:=L.foldr (·^^^·) 0
theorem qZq{l L:List Nat}(h:∀x∈L,x∈l):Spn l (xl L):=by
 induction L with
 |nil=>exact .zero
 |cons a L ih=>exact .add (h a hA6) (ih λx hx=>h x (hA4 _ hx))
theorem qZr{S:List Nat}(h:RR S):∀(L:List Nat),L.Nodup->(∀p∈L,¬isLd S p)->∀j,¬isLd S j->(xl (L.map (crM S))).testBit j=decide (j∈L)
 |[],_,_,j,_=>by simp[xl]
 |p :: L,nd,np,j,nj=>by
  obtain⟨n1,n2⟩:=hBq.mp nd;show(crM S p^^^xl (L.map (crM S))).testBit j=_;rw[hAp,qZr h L n2 (λq hq=>np q (hA4 _ hq)) j nj,qSp h (np p hA6),hDr (p:=∃s∈S,s.testBit p=true/\s.log2=j) λ⟨s,hs,_,e⟩=>nj ⟨s,hs,e⟩];by_cases e:p=j
  ·subst e;simp[n1]
  ·have e':¬j=p:=λz=>e z.symm
   simp[e,e']
theorem zCc{S:List Nat}{m:Nat}(h:RR S)(hm:∀s∈S,s<2^m)(y:Nat):Spn (qEf S m) y↔y<2^m/\∀s∈S,dot m y s=false:=by
 have mem:∀x,x∈qEf S m↔∃p,p<m/\¬isLd S p/\crM S p=x:=λx=>by
  unfold qEf;rw[hAe];constructor
  ·rintro⟨p,hp,rfl⟩;obtain⟨h1,h2⟩:=hBb.mp hp;exact⟨p,hB4.mp h1,by simpa using h2,rfl⟩
  ·rintro⟨p,h1,h2,rfl⟩;exact⟨p,hBb.mpr ⟨hB4.mpr h1,by simpa using h2⟩,rfl⟩
 constructor
 ·intro hy;refine⟨Spn.lt (λx hx=>?_) hy,λs hs=>qMu (λx hx=>?_) hy⟩
  ·obtain⟨p,h1,h2,rfl⟩:=(mem x).mp hx;exact qWf h hm h1 h2
  ·obtain⟨p,h1,h2,rfl⟩:=(mem x).mp hx;exact qSo h hm h1 h2 s hs
 ·rintro⟨hy,hd⟩;have hL:∀p∈(List.range m).filter (λp=>!decide (isLd S p) && y.testBit p),p<m/\¬isLd S p/\y.testBit p=true:=λp hp=>by
   obtain⟨h1,h2⟩:=hBb.mp hp;rw[hB9]at h2;exact⟨hB4.mp h1,by simpa using h2.1,h2.2⟩
  have nd:((List.range m).filter (λp=>!decide (isLd S p) && y.testBit p)).Nodup:=List.nodup_range.sublist hDn;have cov:∀j,j<m->¬isLd S j->(j∈(List.range m).filter (λp=>!decide (isLd S p) && y.testBit p)↔y.testBit j=true):=λj hj nj=>by
   rw[hBb,hB4];simp[hj,nj]
  generalize (List.range m).filter (λp=>!decide (isLd S p) && y.testBit p)=L at hL nd cov;have sp:Spn (qEf S m) (xl (L.map (crM S))):=qZq λx hx=>by
   obtain⟨p,hp,rfl⟩:=hAe.mp hx;exact(mem _).mpr ⟨p,(hL p hp).1,(hL p hp).2.1,rfl⟩
  have lt1:xl (L.map (crM S))<2^m:=Spn.lt (λx hx=>by
   obtain⟨p,h1,h2,rfl⟩:=(mem x).mp hx;exact qWf h hm h1 h2) sp
  have dz:∀s∈S,dot m (y^^^xl (L.map (crM S))) s=false:=λs hs=>by
   rw[qI9,hd s hs,qMu (λx hx=>?_) sp]
   ·rfl
   ·obtain⟨p,h1,h2,rfl⟩:=(mem x).mp hx;exact qSo h hm h1 h2 s hs
  have non:∀j,¬isLd S j->(y^^^xl (L.map (crM S))).testBit j=false:=λj nj=>by
   rw[hAp,qZr h L nd (λp hp=>(hL p hp).2.1) j nj];by_cases hj:j<m
   ·cases q:y.testBit j with
    |true=>rw[hDp ((cov j hj nj).mpr q)];rfl
    |false=>rw[hDr λz=>by rw[(cov j hj nj).mp z]at q;cases q];rfl
   ·rw[qE5 hy (by omega),hDr λz=>hj (hL j z).1];rfl
  have z0:y^^^xl (L.map (crM S))=0:=by
   refine hBa λj=>?_
   rw[Nat.zero_testBit];by_cases q:isLd S j
   ·obtain⟨s,hs,rfl⟩:=q;have ls:s.log2<m:=by
     have:=h.self hs;rcases hCx s.log2 m with z|z
     ·exact z
     ·rw[qE5 (hm s hs) z]at this;cases this
    rw[<-qN2 (m:=m) (s:=s) ls (h.self hs) λj hj ne=>?_]
    ·exact dz s hs
    ·by_cases q:isLd S j
     ·obtain⟨t,ht,rfl⟩:=q;rw[h.ne hs ht (λw=>ne (by rw[w]))];simp
     ·rw[non j q];rfl
   ·exact non j q
  have:y=xl (L.map (crM S)):=by
   have q:=qBn y (xl (L.map (crM S)));rw[z0,hCz]at q;exact q.symm
  rw[this];exact sp
end My
namespace My
open PySem
theorem qS0:∀(n a b:Nat),a<n->a+b=(a^^^b)+2*(a&&&b)
 |0,_,_,h=>absurd h (hC0 _)
 |n+1,a,b,h=>by
  by_cases a0:a=0
  ·subst a0;simp
  have ih:=qS0 n (a / 2) (b / 2) (by omega);have d1:(a^^^b) / 2=a / 2^^^b / 2:=Nat.xor_div_two;have d2:(a&&&b) / 2=a / 2&&&b / 2:=Nat.and_div_two;have b1:(a^^^b).testBit 0=(a.testBit 0 ^^ b.testBit 0):=hAp ..;have b2:(a&&&b).testBit 0=(a.testBit 0 && b.testBit 0):=hCe ..;rw[hAw,hAw,hAw]at b1 b2;rw[<-d1,<-d2]at ih;generalize a^^^b=X at b1 ih ⊢;generalize a&&&b=Y at b2 ih ⊢;rcases hBh a with p|p <;> rcases hBh b with q|q <;> rw[p,q]at b1 b2 <;> simp at b1 b2 <;> omega
theorem qCz(a b:Nat):Builtin.bitAnd (a:Int) (b:Int)=((a&&&b:Nat):Int):=by
 unfold Builtin.bitAnd;rw[hDp (hD6 a),hDp (hD6 b)];simp
theorem qD2(a b:Nat):Builtin.bitXor (a:Int) (b:Int)=((a^^^b:Nat):Int):=by
 have e:=qS0 (a+1) a b (hAt a);have h:Builtin.bitXor (a:Int) (b:Int)=(a:Int)+b-2*Builtin.bitAnd a b:=by
  have x:∀x y:Int,Builtin.bitNot (Builtin.bitNot x)=x:=λx y=>by unfold Builtin.bitNot;omega
  unfold Builtin.bitXor Builtin.bitOr;have na:¬(0:Int)<=Builtin.bitNot (a:Int):=by unfold Builtin.bitNot;omega
  have nb:¬(0:Int)<=Builtin.bitNot (b:Int):=by unfold Builtin.bitNot;omega
  have o:Builtin.bitAnd (Builtin.bitNot (a:Int)) (Builtin.bitNot (b:Int))=Builtin.bitNot ((a ||| b:Nat):Int):=by
   unfold Builtin.bitAnd;rw[hDr na,hDr nb];show Builtin.bitNot _=_;rw[x a 0,x b 0];simp
  rw[o,x _ 0,qCz];have e2:(a ||| b)+(a&&&b)=a+b:=by
   have:=add_or (a+1) a b (hAt a);omega
  omega
 rw[h,qCz];omega
where
 add_or:∀(n a b:Nat),a<n->(a ||| b)+(a&&&b)=a+b
 |0,_,_,h=>absurd h (hC0 _)
 |n+1,a,b,h=>by
  by_cases a0:a=0
  ·subst a0;simp
  have ih:=add_or n (a / 2) (b / 2) (by omega);have d1:(a ||| b) / 2=a / 2 ||| b / 2:=Nat.or_div_two
  have d2:(a&&&b) / 2=a / 2&&&b / 2:=Nat.and_div_two;have b1:(a ||| b).testBit 0=(a.testBit 0 || b.testBit 0):=Nat.testBit_or ..;have b2:(a&&&b).testBit 0=(a.testBit 0 && b.testBit 0):=hCe ..;rw[hAw,hAw,hAw]at b1 b2;rw[<-d1,<-d2]at ih;generalize a ||| b=X at b1 ih ⊢
  generalize a&&&b=Y at b2 ih ⊢;rcases hBh a with p|p <;> rcases hBh b with q|q <;> rw[p,q]at b1 b2 <;> simp at b1 b2 <;> omega
theorem qV1:∀(n f:Nat),f<n->f≠0->∃i,f.testBit i=true/\∀j,j<i->f.testBit j=false
 |0,_,h,_=>absurd h (hC0 _)
 |n+1,f,h,nz=>by
  rcases hBh f with p|p
  ·obtain⟨i,h1,h2⟩:=qV1 n (f / 2) (by omega) (by omega);refine⟨i+1,by rw[hC3];exact h1,λj hj=>?_⟩;cases j with
   |zero=>rw[hAw,p];rfl
   |succ j=>rw[hC3];exact h2 j (by omega)
  ·exact⟨0,by rw[hAw,p];rfl,λj hj=>absurd hj (hC0 _)⟩
noncomputable def lo(f:Nat):Nat:=Classical.epsilon λi=>f.testBit i=true/\∀j,j<i->f.testBit j=false
theorem qFd{f:Nat}(h:f≠0):f.testBit (lo f)=true/\∀j,j<lo f->f.testBit j=false :=
 Classical.epsilon_spec (qV1 (f+1) f (hAt _) h)
theorem qIq:∀(i f:Nat),f.testBit i=true->(∀j,j<i->f.testBit j=false)->∀j,(f-1).testBit j=(decide (j<i) || (decide (i<j) && f.testBit j))
 |0,f,h1,_,j=>by
  rw[hAw]at h1;have p:=hDs h1;cases j with
  |zero=>rw[hAw];simp;omega
  |succ j=>rw[hC3,hC3,show(f-1) / 2=f / 2 by omega];simp
 |i+1,f,h1,h2,j=>by
  have z:=h2 0 (by omega);rw[hAw]at z;have p:=hEp z;rw[hC3]at h1;have nz:f / 2≠0:=λw=>by rw[w]at h1;simp at h1
  cases j with
  |zero=>rw[hAw];simp;omega
  |succ j =>
   rw[hC3,hC3,show(f-1) / 2=f / 2-1 by omega,qIq i (f / 2) h1 (λk hk=>by have:=h2 (k+1) (by omega);rwa [hC3]at this) j];simp
theorem qNp(e:Nat){f:Nat}(nz:f≠0):Builtin.bitAnd (Builtin.bitAnd (e:Int) (f:Int)) (-(f:Int))≠0↔e.testBit (lo f)=true:=by
 obtain⟨h1,h2⟩:=qFd nz;rw[qCz];have ev:Builtin.bitAnd (((e&&&f:Nat)):Int) (-(f:Int))=((e&&&f:Nat):Int)-(((e&&&f)&&&(f-1):Nat):Int):=by
  unfold Builtin.bitAnd;rw[hDp (hD6 _),hDr (by omega:¬(0:Int)<=-(f:Int))];show((e&&&f:Nat):Int)-(((((e&&&f:Nat):Int).toNat)&&&(Builtin.bitNot (-(f:Int))).toNat:Nat):Int)=_;rw[show(Builtin.bitNot (-(f:Int))).toNat=f-1 by unfold Builtin.bitNot;omega,hBr]
 rw[ev];have pb:=qIq (lo f) f h1 h2;constructor
 ·intro ne;cases q:e.testBit (lo f) with
  |true=>rfl
  |false =>
   refine absurd ?_ ne;have:(e&&&f)&&&(f-1)=e&&&f:=by
    refine hBa λj=>?_
    rw[hCe,hCe,pb j];rcases Nat.lt_trichotomy j (lo f) with z|z|z
    ·rw[h2 j z];simp
    ·subst z;rw[q];simp
    ·simp[z];exact λ_ h=>.inr h
   rw[this];omega
 ·intro q ne;have this:(e&&&f)&&&(f-1)=e&&&f:=by omega
  have b:=congrArg (λx:Nat=>x.testBit (lo f)) this;simp only[hCe,pb,q,h1]at b;simp at b
theorem qYq{f:Nat}(nz:f≠0):Builtin.bitAnd (f:Int) (-(f:Int))=((2^lo f:Nat):Int):=by
 obtain⟨h1,h2⟩:=qFd nz;have ev:Builtin.bitAnd (f:Int) (-(f:Int))=(f:Int)-((f&&&(f-1):Nat):Int):=by
  unfold Builtin.bitAnd;rw[hDp (hD6 _),hDr (by omega:¬(0:Int)<=-(f:Int))];show(f:Int)-((((f:Int).toNat)&&&(Builtin.bitNot (-(f:Int))).toNat:Nat):Int)=_;rw[show(Builtin.bitNot (-(f:Int))).toNat=f-1 by unfold Builtin.bitNot;omega,hBr]
 rw[ev];have pb:=qIq (lo f) f h1 h2;have e:f=2^lo f+(f&&&(f-1)):=by
  rw[qHa _ _ (by rw[hCe,pb];simp)];refine hBa λj=>?_
  rw[hAp,hB5,hCe,pb j];rcases Nat.lt_trichotomy j (lo f) with z|z|z
  ·have:¬lo f=j:=by omega
   rw[h2 j z];simp[this]
  ·subst z;rw[h1];simp
  ·have n1:¬lo f=j:=by omega
   simp[z,n1];exact λh=>.inr h
 omega
theorem qJf(x p:Nat):x&&&2^p≠0↔x.testBit p=true:=by
 constructor
 ·intro ne;cases q:x.testBit p with
  |true=>rfl
  |false =>
   refine absurd (hBa λj=>?_) ne;rw[hCe,hB5,Nat.zero_testBit];by_cases e:p=j
   ·subst e;rw[q];rfl
   ·simp[e]
 ·intro q z;have:=congrArg (λx:Nat=>x.testBit p) z;simp[hCe,q]at this
def rv(m x:Nat):Nat:=((((List.range m).filter λi=>x.testBit i).map λi=>m-1-i).map λl=>2^l).sum
theorem qC5(m x j:Nat):(rv m x).testBit j=(decide (j<m) && x.testBit (m-1-j)):=by
 have nd:(((List.range m).filter λi=>x.testBit i).map λi=>m-1-i).Nodup:=by
  have h:((List.range m).filter λi=>x.testBit i).Pairwise λa b=>m-1-a≠m-1-b:=by
   have:(List.range m).Pairwise λa b=>a≠b:=List.nodup_range
   refine hCi (λ{a b} ha hb ne=>?_) (this.sublist hDn);have a1:=hB4.mp (hBb.mp ha).1;have b1:=hB4.mp (hBb.mp hb).1;omega
  rw[List.Nodup,hCa];exact h
 unfold rv;rw[qIb _ nd];by_cases hj:j<m
 ·rw[hDp hj,hCn];cases q:x.testBit (m-1-j) with
  |true=>exact hDp (hAe.mpr ⟨m-1-j,hBb.mpr ⟨hB4.mpr (by omega),q⟩,by omega⟩)
  |false =>
   refine hDr λz=>?_
   obtain⟨i,hi,e⟩:=hAe.mp z;obtain⟨h1,h2⟩:=hBb.mp hi;have:=hB4.mp h1;rw[show m-1-j=i by omega,h2]at q;cases q
 ·rw[hDr hj,Bool.false_and];refine hDr λz=>?_
  obtain⟨i,hi,e⟩:=hAe.mp z;have:=hB4.mp (hBb.mp hi).1;omega
theorem zAu(m x:Nat):rv m x<2^m:=hC1 _ λi hi=>by rw[qC5,hDr (by omega)];rfl
theorem qQw(m x y:Nat):rv m (x^^^y)=rv m x^^^rv m y:=hBa λj=>by
 rw[hAp,qC5,qC5,qC5,hAp];cases decide (j<m) <;> simp
theorem qW6{m x:Nat}(h:x<2^m):rv m (rv m x)=x:=hBa λj=>by
 rw[qC5,qC5];by_cases hj:j<m
 ·rw[hDp hj,hDp (by omega),show m-1-(m-1-j)=j by omega];rfl
 ·rw[hDr hj,qE5 h (Nat.le_of_not_lt hj)];rfl
theorem qGg(m:Nat):rv m 0=0:=hBa λj=>by rw[qC5];simp
theorem zAt{m x:Nat}(h:x<2^m)(nz:x≠0):rv m x≠0:=λz=>nz (by rw[<-qW6 h,z,qGg])
theorem zBm{m x:Nat}(h:x<2^m)(nz:x≠0):lo x<m:=by
 rcases hCx (lo x) m with z|z
 ·exact z
 ·have:=(qFd nz).1;rw[qE5 h z]at this;cases this
theorem qW7{m x:Nat}(h:x<2^m)(nz:x≠0):(rv m x).log2=m-1-lo x:=by
 obtain⟨h1,h2⟩:=qFd nz;have l:=zBm h nz;refine qRu ?_ (hC1 _ λi hi=>?_)
 ·rw[qC5,hDp (by omega),show m-1-(m-1-lo x)=lo x by omega,h1];rfl
 ·rw[qC5];by_cases q:i<m
  ·rw[h2 (m-1-i) (by omega)];simp
  ·rw[hDr q];rfl
noncomputable def rdL(x s:Nat):Nat:=if x.testBit (lo s)=true then x^^^s else x
theorem qQx{m x s:Nat}(hs:s<2^m)(nz:s≠0):rv m (rdL x s)=rd1 (rv m x) (rv m s):=by
 have l:=zBm hs nz;unfold rdL rd1;have b:(rv m x).testBit (rv m s).log2=x.testBit (lo s):=by
  rw[qW7 hs nz,qC5,hDp (by omega),show m-1-(m-1-lo s)=lo s by omega];rfl
 rw[b];split
 ·exact qQw m x s
 ·rfl
theorem qVn{m x s:Nat}(hx:x<2^m)(hs:s<2^m):rdL x s<2^m:=by
 unfold rdL;split
 ·exact hCj hx hs
 ·exact hx
noncomputable def redL1(k:List Nat)(x:Nat):Nat:=k.foldl rdL x
def Gm(m:Nat)(k:List Nat):Prop:=∀s∈k,s<2^m/\s≠0
theorem qM8{m:Nat}:∀ {k:List Nat} {x:Nat},Gm m k->x<2^m->redL1 k x<2^m/\rv m (redL1 k x)=red1 (k.map (rv m)) (rv m x)
 |[],x,_,hx=>⟨hx,rfl⟩
 |s :: k,x,h,hx=>by
  obtain⟨h1,h2⟩:=h s hA6;have ih:=qM8 (x:=rdL x s) (λt ht=>h t (hA4 _ ht)) (qVn hx h1);refine⟨ih.1,?_⟩;show rv m (redL1 k (rdL x s))=red1 (k.map (rv m)) (rd1 (rv m x) (rv m s));rw[ih.2,qQx h1 h2]
noncomputable def qLw(k:List Nat)(x:Nat):List Nat:=if redL1 k x=0 then k else k.map (λs=>rdL s (redL1 k x))++[redL1 k x]
noncomputable def redL(xs:List Nat):List Nat:=xs.foldl qLw []
theorem qGh(xs:List Nat)(x:Nat):redL (xs++[x])=qLw (redL xs) x:=by unfold redL;rw[hC5];rfl
theorem qLu{m:Nat}(xs:List Nat):(∀x∈xs,x<2^m)->Gm m (redL xs)/\(redL xs).map (rv m)=red (xs.map (rv m)):=by
 refine qOh (P:=λxs=>(∀x∈xs,x<2^m)->Gm m (redL xs)/\(redL xs).map (rv m)=red (xs.map (rv m))) (λ_=>⟨λs hs=>(by cases hs),rfl⟩) (λl t ih h=>?_) xs;obtain⟨g,e⟩:=ih λx hx=>h x (hAk _ hx)
 have ht:=h t (by simp);obtain⟨l1,l2⟩:=qM8 g ht;have sp:∀s∈redL l,rv m s≠0:=λs hs=>zAt (g s hs).1 (g s hs).2
 rw[hA7,hBc,qDx,qGh,<-e];unfold qLw qOx;rw[<-l2];by_cases z:redL1 (redL l) t=0
 ·rw[hDu z,z,qGg,hDu rfl];exact⟨g,rfl⟩
 ·have z':=zAt l1 z;rw[hDt z,hDt z'];have rr:=qD6 (l.map (rv m));rw[<-e]at rr;refine⟨λs hs=>?_,?_⟩
  ·rcases hAh.mp hs with w|w
   ·obtain⟨u,hu,rfl⟩:=hAe.mp w;refine⟨qVn (g u hu).1 l1,λq=>?_⟩;have q2:=qQx (x:=u) l1 z;rw[q,qGg]at q2;have ld:=qGj (x:=rv m t) rr (rv m u) (hBd hu);rw[<-l2]at ld;exact(qNb (sp u hu) z' ld).2 q2.symm
   ·rw[hAa]at w;rw[w];exact⟨l1,z⟩
  ·rw[hA7,hBc,hB3,hB3];congr 1;refine hBv λs hs=>?_
   exact qQx l1 z
def bd(V:Nat->Nat):Nat->Nat->Nat
 |0,_=>0
 |m+1,y=>bd V m y^^^(if y.testBit m=true then V m else 0)
theorem qC7(V:Nat->Nat):∀(m x y:Nat),bd V m (x^^^y)=bd V m x^^^bd V m y
 |0,_,_=>by simp[bd]
 |m+1,x,y=>by
  show bd V m (x^^^y)^^^_=(bd V m x^^^_)^^^(bd V m y^^^_);rw[qC7 V m x y,hAp];refine hBa λj=>?_
  simp only[hAp];cases x.testBit m <;> cases y.testBit m <;> simp[hAp] <;> cases(bd V m x).testBit j <;> cases(bd V m y).testBit j <;> cases(V m).testBit j <;> rfl
theorem qFg(V:Nat->Nat):∀m:Nat,bd V m 0=0
 |0=>rfl
 |m+1=>by show bd V m 0^^^_=0;rw[qFg V m];simp
theorem qN7(V:Nat->Nat)(q:Nat):∀m y:Nat,(bd V m y).testBit q=xsum m λi=>y.testBit i && (V i).testBit q
 |0,_=>by simp[bd,xsum]
 |m+1,y=>by
  show(bd V m y^^^_).testBit q=(xsum m _ ^^ (y.testBit m && (V m).testBit q));rw[hAp,qN7 V q m y];cases y.testBit m <;> simp
theorem qN6{V:Nat->Nat}{m p:Nat}(hp:p<m):bd V m (2^p)=V p:=by
 refine hBa λq=>?_
 rw[qN7,qEg (l:=p) λj _ ne=>by rw[hB5,hDr (λz=>ne z.symm)];rfl,hB5];simp[hp]
noncomputable def el1(v f:Nat×Nat):Nat×Nat:=if v.1.testBit (lo f.1)=true then (v.1^^^f.1,v.2^^^f.2) else v
noncomputable def el(k:List (Nat×Nat))(v:Nat×Nat):Nat×Nat:=k.foldl el1 v
abbrev Ech(k:List (Nat×Nat)):Prop:=k.Pairwise λa b=>b.1.testBit (lo a.1)=false
theorem qSd:∀ {k:List (Nat×Nat)} {v:Nat×Nat} {i:Nat},(∀f∈k,f.1.testBit i=false)->(el k v).1.testBit i=v.1.testBit i
 |[],_,_,_=>rfl
 |f :: k,v,i,h=>by
  show(el k (el1 v f)).1.testBit i=_;rw[qSd λg hg=>h g (hA4 _ hg)];unfold el1;split
  ·show(v.1^^^f.1).testBit i=_;rw[hAp,h f hA6];simp
  ·rfl
theorem qWa:∀ {k:List (Nat×Nat)} {v:Nat×Nat},Ech k->(∀f∈k,f.1≠0)->∀f∈k,(el k v).1.testBit (lo f.1)=false
 |[],_,_,_,_,h=>by cases h
 |g :: k,v,e,nz,f,hf=>by
  obtain⟨e1,e2⟩:=hBl.mp e;show(el k (el1 v g)).1.testBit (lo f.1)=false;rcases hA8.mp hf with rfl|z
  ·rw[qSd λh hh=>e1 h hh];unfold el1;cases q:v.1.testBit (lo f.1) with
   |true =>
    rw[hDu rfl];show(v.1^^^f.1).testBit _=false;rw[hAp,q,(qFd (nz f hA6)).1];rfl
   |false=>rw[hDt (by decide)];exact q
  ·exact qWa e2 (λh hh=>nz h (hA4 _ hh)) f z
theorem qV9(V:Nat->Nat)(m:Nat)(K:List (Nat×Nat)):∀ {k:List (Nat×Nat)} {v:Nat×Nat},(∀f∈k,f∈K/\f.1=bd V m f.2)->v.1=bd V m v.2->(el k v).1=bd V m (el k v).2/\Spn (K.map (·.2)) ((el k v).2^^^v.2)
 |[],v,_,hv=>⟨hv,by show Spn _ (v.2^^^v.2);rw[hCy];exact .zero⟩
 |f :: k,v,h,hv=>by
  have h1:(el1 v f).1=bd V m (el1 v f).2:=by
   unfold el1;split
   ·show v.1^^^f.1=bd V m (v.2^^^f.2);rw[qC7,<-hv,<-(h f hA6).2]
   ·exact hv
  have h2:Spn (K.map (·.2)) ((el1 v f).2^^^v.2):=by
   unfold el1;split
   ·show Spn _ ((v.2^^^f.2)^^^v.2);rw[Nat.xor_comm v.2 f.2,qBn];exact .mem (hBd (h f hA6).1)
   ·rw[hCy];exact .zero
  obtain⟨a,b⟩:=qV9 V m K (k:=k) (λg hg=>h g (hA4 _ hg)) h1;refine⟨a,?_⟩;have c:=b.xor h2;rw[<-hC2,qBn]at c;exact c
theorem qS6{a:Nat}{l:List Nat}{y:Nat}(h:Spn (a :: l) y):Spn l y\/Spn l (a^^^y):=by
 induction h with
 |zero=>exact .inl .zero
 |add m _ ih =>
  rename_i x y _;rcases hA8.mp m with rfl|z
  ·rcases ih with ih|ih
   ·refine .inr ?_;rw[<-hC2,hCy,hCz];exact ih
   ·exact .inl ih
  ·rcases ih with ih|ih
   ·exact .inl (.add z ih)
   ·refine .inr ?_;have:=Spn.add z ih;rw[<-hC2,Nat.xor_comm x a,hC2]at this;exact this
theorem qHl{l l':List Nat}{y:Nat}(h:Spn (l++l') y):∃a b,Spn l a/\Spn l' b/\y=a^^^b:=by
 induction h with
 |zero=>exact⟨0,0,.zero,.zero,rfl⟩
 |add m _ ih =>
  obtain⟨a,b,ha,hb,rfl⟩:=ih;rename_i x _;rcases hAh.mp m with z|z
  ·exact⟨x^^^a,b,.add z ha,hb,by rw[hC2]⟩
  ·exact⟨a,x^^^b,ha,.add z hb,by rw[<-hC2,<-hC2,Nat.xor_comm x a]⟩
theorem qZ6(V:Nat->Nat)(m:Nat){k:List (Nat×Nat)}(h:∀f∈k,f.1=bd V m f.2){y:Nat}(hy:Spn (k.map (·.2)) y):Spn (k.map (·.1)) (bd V m y):=by
 induction hy with
 |zero=>rw[qFg];exact .zero
 |add hm _ ih =>
  obtain⟨f,hf,rfl⟩:=hAe.mp hm;rw[qC7,<-h f hf];exact .add (hBd hf) ih
theorem qI7(V:Nat->Nat)(m:Nat):∀ {k:List (Nat×Nat)},Ech k->(∀f∈k,f.1≠0/\f.1=bd V m f.2)->∀ {y:Nat},Spn (k.map (·.2)) y->(∀f∈k,(bd V m y).testBit (lo f.1)=false)->y=0
 |[],_,_,y,hy,_=>by
  cases hy with
  |zero=>rfl
  |add m _=>cases m
 |f :: k,e,h,y,hy,hb=>by
  obtain⟨e1,e2⟩:=hBl.mp e;obtain⟨f1,f2⟩:=h f hA6;have hk:=λg hg=>h g (hA4 _ hg)
  rw[hAv]at hy;rcases qS6 hy with z|z
  ·exact qI7 V m e2 hk z λg hg=>hb g (hA4 _ hg)
  ·have b:=qP4 (j:=lo f.1) (λx hx=>by
    obtain⟨g,hg,rfl⟩:=hAe.mp hx;exact e1 g hg) (qZ6 V m (λg hg=>(hk g hg).2) z)
   rw[qC7,<-f2,hAp,(qFd f1).1,hb f hA6]at b;cases b
structure EIv(V:Nat->Nat)(m j:Nat)(K:List (Nat×Nat))(F:List Nat):Prop where
 k1:∀f∈K,f.1≠0/\f.1=bd V m f.2
 kl:∀f∈K,f.2<2^j
 k2:Ech K
 f1:∀y∈F,y<2^j/\bd V m y=0
 cov:∀y,y<2^j->Spn (F++K.map (·.2)) y
 len:F.length+K.length=j
 fsh:Fsh F
theorem EIv.start(V:Nat->Nat)(m:Nat):EIv V m 0 [] []:=⟨λf h=>(by cases h),λf h=>(by cases h),.nil,λy h=>(by cases h),λy hy=>by
 have:y=0:=by omega
 subst this;exact .zero,rfl,λi x h=>(by cases h)⟩
theorem EIv.run{V:Nat->Nat}{m j:Nat}{K:List (Nat×Nat)}{F:List Nat}(h:EIv V m j K F)(hj:j<m) :
  (el K (V j,2^j)).1=bd V m (el K (V j,2^j)).2/\Spn (K.map (·.2)) ((el K (V j,2^j)).2^^^2^j)/\(el K (V j,2^j)).2<2^(j+1)/\(el K (V j,2^j)).2.testBit j=true/\∀f∈K,(el K (V j,2^j)).1.testBit (lo f.1)=false:=by
 obtain⟨a,b⟩:=qV9 V m K (k:=K) (v:=(V j,2^j)) (λf hf=>⟨hf,(h.k1 f hf).2⟩) (by show V j=bd V m (2^j);rw[qN6 hj]);have c:(el K (V j,2^j)).2^^^2^j<2^j:=Spn.lt (λx hx=>by
  obtain⟨f,hf,rfl⟩:=hAe.mp hx;exact h.kl f hf) b
 have d:((el K (V j,2^j)).2^^^2^j)^^^2^j=(el K (V j,2^j)).2:=qBn _ _;have p:2^j<2^(j+1):=Nat.pow_lt_pow_right (by decide) (by omega);refine⟨a,b,?_,?_,qWa h.k2 (λf hf=>(h.k1 f hf).1)⟩
 ·rw[<-d];exact hCj (by omega) p
 ·rw[<-d,hAp,hD4 c,hB5];simp
theorem Fsh.snoc{F:List Nat}{x j:Nat}(h:Fsh F)(hx:x.testBit j=true)(hF:∀y∈F,y<2^j):Fsh (F++[x]):=λi z hz=>by
 by_cases hi:i<F.length
 ·rw[hCb hi]at hz;obtain⟨l,h1,h2⟩:=h i z hz;exact⟨l,h1,λy hy=>h2 y (by rwa [hCm (by omega)]at hy)⟩
 ·have hl:i<(F++[x]).length:=(hAc.mp hz).1;rw[hAd]at hl;have e:i=F.length:=by
   have:i<F.length+1:=hl;omega
  subst e;have ez:x=z:=by simpa using hz
  subst ez;refine⟨j,hx,λy hy=>?_⟩;rw[hCm (hA3 _),hA9 (hA3 _)]at hy;exact hD4 (hF y hy)
theorem EIv.next{V:Nat->Nat}{m j:Nat}{K:List (Nat×Nat)}{F:List Nat}(h:EIv V m j K F)(hj:j<m) :
  if (el K (V j,2^j)).1=0 then EIv V m (j+1) K (F++[(el K (V j,2^j)).2]) else EIv V m (j+1) (K++[el K (V j,2^j)]) F:=by
 obtain⟨a,b,c,d,e⟩:=h.run hj;have mono:∀ {x:Nat},x<2^j->x<2^(j+1):=λhx=>Nat.lt_trans hx (Nat.pow_lt_pow_right (by decide) (by omega))
 generalize el K (V j,2^j)=r at a b c d e;have big:∀ {l:List Nat},(∀x∈F++K.map (·.2),Spn l x)->Spn l r.2->∀y,y<2^(j+1)->Spn l y:=λ{l} hl hr y hy=>by
  by_cases q:y.testBit j=true
  ·have lt:y^^^r.2<2^j:=by
    refine hC1 _ λi hi=>?_
    rw[hAp];by_cases e2:i=j
    ·subst e2;rw[q,d];rfl
    ·rw[qE5 hy (by omega),qE5 c (by omega)];rfl
   have:=((h.cov _ lt).mono hl).xor hr
   rwa [qBn]at this
  ·have lt:y<2^j:=by
    refine hC1 _ λi hi=>?_
    by_cases e2:i=j
    ·subst e2;simpa using q
    ·exact qE5 hy (by omega)
   exact(h.cov _ lt).mono hl
 split
 ·rename_i z;refine⟨h.k1,λf hf=>mono (h.kl f hf),h.k2,λy hy=>?_,big (λx hx=>?_) ?_,?_,h.fsh.snoc d λy hy=>(h.f1 y hy).1⟩
  ·rcases hAh.mp hy with w|w
   ·exact⟨mono (h.f1 y w).1,(h.f1 y w).2⟩
   ·rw[hAa]at w;rw[w];exact⟨c,by rw[<-a,z]⟩
  ·refine .mem ?_;rcases hAh.mp hx with w|w
   ·exact hAk _ (hAk _ w)
   ·exact hAb _ w
  ·exact .mem (hAk _ (by simp))
  ·rw[hAd];have:=h.len;show F.length+1+K.length=j+1;omega
 ·rename_i z;refine⟨λf hf=>?_,λf hf=>?_,?_,λy hy=>⟨mono (h.f1 y hy).1,(h.f1 y hy).2⟩,big (λx hx=>?_) ?_,?_,h.fsh⟩
  ·rcases hAh.mp hf with w|w
   ·exact h.k1 f w
   ·rw[hAa]at w;rw[w];exact⟨z,a⟩
  ·rcases hAh.mp hf with w|w
   ·exact mono (h.kl f w)
   ·rw[hAa]at w;rw[w];exact c
  ·rw[Ech,List.pairwise_append];refine⟨h.k2,List.pairwise_singleton _ _,λx hx y hy=>?_⟩;rw[hAa]at hy;rw[hy];exact e x hx
  ·refine .mem ?_;rw[hA7];rcases hAh.mp hx with w|w
   ·exact hAk _ w
   ·exact hAb _ (hAk _ w)
  ·refine .mem (hAb _ ?_);rw[hA7];simp
  ·rw[hAd];have:=h.len;show F.length+(K.length+1)=j+1;omega
theorem EIv.done{V:Nat->Nat}{m:Nat}{K:List (Nat×Nat)}{F:List Nat}(h:EIv V m m K F)(y:Nat):Spn F y↔y<2^m/\bd V m y=0:=by
 have bF:∀ {a},Spn F a->bd V m a=0:=λ{a} ha=>by
  induction ha with
  |zero=>exact qFg V m
  |add hm _ ih=>rw[qC7,(h.f1 _ hm).2,ih];rfl
 constructor
 ·intro hy;exact⟨Spn.lt (λx hx=>(h.f1 x hx).1) hy,bF hy⟩
 ·rintro⟨h1,h2⟩;obtain⟨a,b,ha,hb,rfl⟩:=qHl (h.cov y h1);rw[qC7,bF ha,hCz]at h2;have:b=0:=qI7 V m h.k2 h.k1 hb λf hf=>by rw[h2];simp
  rw[this,Nat.xor_zero];exact ha
theorem EIv.none{V:Nat->Nat}{m j:Nat}{K:List (Nat×Nat)}{F:List Nat}(h:EIv V m j K F)(hj:j<m){y:Nat}(hy:y<2^j)(e:bd V m y=V j):(el K (V j,2^j)).1=0:=by
 obtain⟨a,b,_,_,d⟩:=h.run hj;have bF:∀ {a},Spn F a->bd V m a=0:=λ{a} ha=>by
  induction ha with
  |zero=>exact qFg V m
  |add hm _ ih=>rw[qC7,(h.f1 _ hm).2,ih];rfl
 have c:(el K (V j,2^j)).2^^^2^j<2^j:=Spn.lt (λx hx=>by
  obtain⟨f,hf,rfl⟩:=hAe.mp hx;exact h.kl f hf) b
 have z:bd V m (((el K (V j,2^j)).2^^^2^j)^^^y)=(el K (V j,2^j)).1:=by
  rw[qC7,qC7,qN6 hj,e,<-a,qBn]
 obtain⟨u,v,hu,hv,ez⟩:=qHl (h.cov _ (hCj c hy));rw[ez,qC7,bF hu,hCz]at z;have:v=0:=qI7 V m h.k2 h.k1 hv λf hf=>by rw[z];exact d f hf
 rw[<-z,this,qFg]
end My
namespace L2
open PySem PySem.Spec PyProof.Rows
section
variable{X:Cx}
theorem qYu:∀ {us:List Value},qBh (ns.map V.int) us->∃xs:List (Int×Tok),us=xs.map (λp=>Value.int p.1 p.2)/\xs.map (·.1)=ns:=by
 induction ns with
 |nil=>intro us r;cases r;exact⟨[],rfl,rfl⟩
 |cons a l ih =>
  intro us r;cases r with
  |cons r rr =>
   obtain⟨t,rfl⟩:=r;obtain⟨xs,rfl,rfl⟩:=ih rr;exact⟨(a,t) :: xs,rfl,rfl⟩
theorem qKo(hc:X.calm=true):qB2 X (.builtin "sum") (λxs H Q=>∃(p:Addr) (ns:List Int),xs=[.ref p]/\SqL X.K H p (ns.map V.int)/\Q (.int ns.sum) H):=by
 intro aB s σ H xs us Q I r h;obtain⟨p,ns,rfl,hq,q⟩:=h;obtain⟨u,rfl,rx⟩:=qCw r;cases rx;obtain⟨its,rv,pl,hz⟩:=I.list hq;obtain⟨ys,rfl,rfl⟩:=qYu rv;have e:(ys.map (λp=>Value.int p.1 p.2)).toArray=intItems ys.toArray:=by unfold intItems;simp
 have pl':=pl.isList;rw[e]at pl';refine sum_intListG (I.ok.hd hc) pl' λh' tk t' hk=>⟨.int _,H,I.kept (t':=tk) hk,⟨t',rfl⟩,?_⟩
 rw[preSum_eq,hA9 (by simp)];exact q
theorem qL9:∀ {us:List Value},qBh (ns.map V.int) us->IntsAre us ns:=by
 induction ns with
 |nil=>intro us r;cases r;exact .nil
 |cons a l ih =>
  intro us r;cases r with
  |cons r rr =>
   obtain⟨t,rfl⟩:=r;exact .cons a t (ih rr)
theorem qO4:∀ {us:List Value},IntsAre us ns->qBh (ns.map V.int) us:=by
 induction ns with
 |nil=>intro us r;cases r;exact .nil
 |cons a l ih =>
  intro us r;cases r with
  |cons _ _ r=>exact .cons ⟨_,rfl⟩ (ih r)
def qS4(K:PySem.W.Frag)(t:TA):TE:=λσ H Q=>t σ H λvs H1=>∃(p:Addr) (ns:List Int),vs=[.ref p]/\SqL K H1 p (ns.map V.int)/\ns.length<64/\∀(r:Addr) (ns':List Int),H1 r=none->ns'.Perm ns->Ordered true ns'->Q (.ref r) (upd H1 r (.lst (ns'.map V.int)))
theorem qO1(hg:Gl X "sorted")(hm:X.mg "sorted"=none)(ha:PA X [e] t)
  (he:backTo pos (starEach [e] X.env)=(false,eval e X.env) :: backTo pos (starEach [] X.env):=by rfl)
  (hplain:(backTo pos (starEach [e] X.env)).any (·.1)=false:=by rfl):PE X (.Call (.Name "sorted" p) [e] [⟨some "reverse",.Constant (.bool true) j cp,kp⟩] pos) (qS4 X.K t):=by
 intro aB s σ H Q I h;refine hEf (qFn I hg hm (by decide +kernel:bootBuiltins "sorted"=some (.builtin "sorted")) ?_ (by decide) (by decide));refine PyProof.Rows.callWith_kw (thn (ha pos aB s σ H _ I h) λus s1 ⟨vs,H1,I1,r1,q1⟩=>?_) he hplain;obtain⟨a,ns,rfl,hq,h64,q⟩:=q1;obtain⟨u,rfl,rx⟩:=qCw r1;cases rx;refine PyProof.Rows.kws_cons (Constant_bool (PyProof.Rows.kws_nil ?_));obtain⟨its,rv,pl,hz⟩:=I1.list hq;have hl:=rv.length;rw[hA1]at hl;refine sorted_ints_rev (b:=true) pl.isList (qL9 rv) (by omega) λout ns' h1 h2 h3=>?_
 obtain⟨e,he⟩:=sortedAll_at s1.heap its out;have nz:H1 (s1.heap.objs.size+1)=none:=I1.hok.fresh (hAy _);refine⟨.ref (s1.heap.objs.size+1),_,I1.laid (t':=s1.toks) (a:=s1.heap.objs.size+1) (o:=.lst (ns'.map V.int)) (λb o eb=>sortedAll_old eb) (hAy _) ?_,rfl,q _ ns' nz h2 h3⟩;refine⟨?_,out.toList,e,qO4 h1,by simpa using he⟩;rw[hA1,h2.length_eq];exact hAz (qAf (by omega))
def zDk:V->List V->Hp->VK->Prop:=λx vs H Q=>∃i:Int,x = .int i/\vs=[]/\Q (.int (Builtin.Int.intBits i:Nat)) H
theorem qYl:MtR X "int.bit_length" zDk:=by
 intro aB s σ H x vs v us Q I rx rv h;obtain⟨i,rfl,rfl,q⟩:=h;obtain⟨t,rfl⟩:=rx;have hus:=rv.zero;subst hus;exact call_int_bit_length ⟨.int _,H,I.tok _,⟨_,rfl⟩,q⟩
def zAy(K:PySem.W.Frag):V->List V->Hp->VK->Prop:=λx vs H Q=>∃(l:Addr) (ss:List Str) (z:Str) (j:Nat),x = .ref l/\vs=[.str z]/\H l=some (.lst (ss.map V.str))/\ss[j]?=some z/\(∀k,k<j->ss[k]?≠some z)/\j<1000/\Q (.int (j:Nat)) H
theorem qNl:MtR X "list.index" (zAy X.K):=by
 intro aB s σ H x vs v us Q I rx rv h;obtain⟨l,ss,z,j,rfl,rfl,hH,hj,hno,hsm,q⟩:=h;cases rx;obtain⟨u,rfl,ru⟩:=rv.one;obtain⟨t,rfl⟩:=ru;obtain⟨zz,its,n,r,hl,e⟩:=I.lstM hH;have at_:∀k (hk:k<its.length),∃y t',ss[k]?=some y/\its[k]=Value.str y t':=λk hk=>by
  have hk':k<ss.length:=by rw[hA1]at hl;omega
  obtain⟨w,hw,rw'⟩:=r.get (i:=k) (x:=V.str ss[k]) (by rw[hAj,hA2 hk'];rfl);obtain⟨t',rfl⟩:=rw';rw[hA2 hk]at hw;exact⟨ss[k],t',hA2 hk',hAr hw⟩
 have jl:j<its.length:=by
  have:=(hAc.mp hj).1;rw[hA1]at hl;omega
 refine call_meets F.slot_list_index ⟨_,e,rfl⟩ F.entry_list_index (F.args_list_index_2 _ _)
  (MeetsSeq.list_index l its.toArray n (.str z t) (λy=>match y with | .str y _=>y == z|_=>false) (λy hy=>?_) j (by rw[hAf];exact jl) (by omega) ?_ (λm hm hmj=>?_)) ⟨e,⟨.int _,H,I.tok _,⟨_,rfl⟩,q⟩⟩
 ·have hy':y∈its:=by simpa using hy
  obtain⟨k,hk,rfl⟩:=hDm hy';obtain⟨y,t',_,e2⟩:=at_ k hk;rw[e2];exact eqGives_str y z t' t
 ·obtain⟨y,t',h1,e2⟩:=at_ j jl;have:its.toArray[j]=Value.str y t':=by simpa using e2
  rw[this];rw[hj]at h1;cases h1;exact hEi _
 ·have hm':m<its.length:=by simpa using hm
  obtain⟨y,t',h1,e2⟩:=at_ m hm';have:its.toArray[m]=Value.str y t':=by simpa using e2
  rw[this];show(y == z)=false;rw[beq_eq_false_iff_ne];intro w;exact hno m hmj (by rw[h1,w])
end
section
variable{X:Cx}
def zDu(K:PySem.W.Frag)(ta:TA):TI:=λσ H R=>ta σ H λvs H1=>∃(a:Addr) (xs:List V),vs=[.ref a]/\SqL K H1 a xs/\R (Itp xs.length (λH=>SqL K H a xs) (λi=>[.int (i:Nat),xs.getD i .non])) H1
theorem qSx:bootBuiltins "enumerate"=some (.type "enumerate"):=by decide +kernel
theorem qLz(hg:Gl X "enumerate")(hm:X.mg "enumerate"=none)(ha:PA X [a] ta)(hs:starEach [a] X.env=[(false,eval a X.env)]:=by rfl) :
  PI X (.Tuple elts ct tpos) (.Call (.Name "enumerate" p) [a] [] pos) (zDu X.K ta):=by
 intro aB s σ H R I h;refine Call_ (qFn I hg hm qSx (hC7 (thn (ha pos aB s σ H _ I h) λus s1 ⟨vs,H1,I1,r1,q1⟩=>?_) (by rw[hs];rfl) (by rfl)));obtain⟨l,xs,e,hx,q⟩:=q1;subst e;obtain⟨u,rfl,rx⟩:=qCw r1;cases rx;obtain⟨it1,rv1,pl1,hz1⟩:=I1.list hx;have b1:l<s1.heap.objs.size:=by obtain⟨o,n,e,_⟩:=pl1;exact Heap.lt_size e
 refine call_enumerate_list pl1.isList λh1 z1 z2 z3 z7=>?_
 refine wpAny_pyIter_enum z1 ?_;have hfp:∀b∈[s1.heap.objs.size+1,s1.heap.objs.size],s1.heap.objs.size<=b:=λb hb=>by
  simp only[hA8,hAo,hE0]at hb;rcases hb with rfl|rfl
  ·exact hCl _ _
  ·exact hA3 _
 refine⟨s1.heap.objs.size+1,[s1.heap.objs.size+1,s1.heap.objs.size],
  λi h=>(∃old,IsEnum h (s1.heap.objs.size+1) s1.heap.objs.size i old)/\h.IsListIter s1.heap.objs.size l i,
  _,H1,rfl,I1.kept (t':=s1.toks) z7,
  qE4 (s1.heap.objs.size+1) _ [s1.heap.objs.size+1,s1.heap.objs.size,l] [s1.heap.objs.size+1,s1.heap.objs.size] _ _ _ _ (by simp) (λb hb=>hb) (λi h st b hb=>?_) (λi h h' st k=>?_) (λi=>by show 2<=sizeLine;decide) ?_ (λA i s' Q E st hQ=>by
   obtain⟨⟨old,he⟩,_⟩:=st;exact wpAny_pyIter_enum he hQ),
  ⟨⟨_,z1⟩,z2⟩,λb hb=>I1.fpOk (hfp b hb) (I1.hok.fresh (hfp b hb)),q⟩
 ·obtain⟨⟨old,a1⟩,⟨o4,a4,c4,d4⟩⟩:=st;simp only[hA8,hAo,hE0]at hb;rcases hb with rfl|rfl
  ·exact⟨_,a1,λv z=>by cases z⟩
  ·exact⟨_,a4,λv z=>by rw[d4]at z;cases z⟩
 ·obtain⟨⟨old,a1⟩,a4⟩:=st;exact⟨⟨old,k _ (by simp) _ a1⟩,a4.at λo e=>k _ (by simp) o e⟩
 ·intro X' hP hw hK hc pins' s' σ' H' I' hL;rw[<-hK]at hL;obtain⟨jt1,sv1,ql1,_⟩:=I'.list hL;have m1:=sv1.length;have ne1:l≠s1.heap.objs.size:=hAi b1;have Wz:=WalksT.enumerateD (A:=X'.A) (Draws.list (prog:=X.prog) (w:=X.w) (A:=X'.A.in1) (I'.ok.hd hc) s1.heap.objs.size l ne1 jt1.toArray) (s1.heap.objs.size+1) (Nat.succ_ne_self _) (λz=>by
   simp only[hA8,hAo,hE0]at z;rcases z with z|z
   ·exact Nat.succ_ne_self _ z
   ·exact absurd b1 (by rw[<-z];exact Nat.not_lt_of_le (hAy _))) (by simp)
  rw[show jt1.toArray.size=xs.length by show jt1.length=_;rw[m1]]at Wz;refine⟨_,_,_,Wz,λi st=>?_,λi h st=>?_,λi vals pv=>?_⟩
  ·exact⟨st.1,st.2,ql1.isList⟩
  ·exact⟨st.1,st.2.1⟩
  ·obtain⟨t,x,e1,rfl⟩:=pv;have e1:jt1[i]?=some x:=by simpa using e1
   have c1:i<xs.length:=by rw[m1];exact(hAc.mp e1).1
   obtain⟨u,d1,d2⟩:=sv1.get (hA2 c1);rw[e1]at d1;cases d1;show qBh [.int (i:Nat),xs.getD i .non] [.int i t,x];rw[hA5,hA2 c1];exact .cons ⟨t,rfl⟩ (.cons d2 .nil)
end
end L2
namespace My
open PySem L2
abbrev iV(n:Nat):V:=.int (n:Int)
def LsN(H:Hp)(a:Addr)(ms:List Nat):Prop:=H a=some (.lst (ms.map iV))
theorem qEz:bootBuiltins "min"=some (.builtin "min"):=by decide +kernel
theorem qKt:bootBuiltins "sum"=some (.builtin "sum"):=by decide +kernel
theorem qP2{as:List Str}{i:Nat}{x:V}(e:(as.map V.str)[i]?=some x):∃a,x = .str a/\as[i]?=some a:=by
 rw[hAj]at e;cases ha:as[i]? with
 |none=>rw[ha]at e;cases e
 |some a=>rw[ha]at e;exact⟨a,(hAr e).symm,rfl⟩
theorem qLt{as:List Addr}{i:Nat}{x:V}(e:(as.map V.ref)[i]?=some x):∃a,x = .ref a/\as[i]?=some a:=by
 rw[hAj]at e;cases ha:as[i]? with
 |none=>rw[ha]at e;cases e
 |some a=>rw[ha]at e;exact⟨a,(hAr e).symm,rfl⟩
theorem qD8{ms:List Nat}{i:Nat}{x:V}(e:(ms.map iV)[i]?=some x):∃n,x=iV n/\ms[i]?=some n:=by
 rw[hAj]at e;cases ha:ms[i]? with
 |none=>rw[ha]at e;cases e
 |some a=>rw[ha]at e;exact⟨a,(hAr e).symm,rfl⟩
theorem qIz(ms:List Nat):ms.map iV=(ms.map λn:Nat=>(n:Int)).map V.int:=by rw[hB3];rfl
def maskF(aA row:List Str):Nat:=aA.foldl (λm n=>2*m+(if n∈row then 1 else 0)) 0
theorem qFc(aA row:List Str)(n:Str):maskF (aA++[n]) row=2*maskF aA row+(if n∈row then 1 else 0):=by unfold maskF;rw[hC5];rfl
theorem qGt(row:List Str)(aA:List Str):∀j,(maskF aA row).testBit j=(decide (j<aA.length) && decide (∃n,aA[aA.length-1-j]?=some n/\n∈row)):=by
 refine qC8 (P:=λaA=>∀j,(maskF aA row).testBit j=(decide (j<aA.length) && decide (∃n,aA[aA.length-1-j]?=some n/\n∈row))) (λj=>by simp[maskF]) (λl n ih j=>?_) aA;rw[qFc,hAd];show _=(decide (j<l.length+1) && decide (∃m,(l++[n])[l.length+1-1-j]?=some m/\m∈row));cases j with
 |zero =>
  rw[hAw,hDp (by omega:0<l.length+1),hCn];refine decide_eq_decide.mpr ?_;rw[show l.length+1-1-0=l.length by omega,List.getElem?_append_right (hA3 _)];simp;by_cases h:n∈row
  ·simp[h]
  ·simp[h]
 |succ j =>
  rw[hC3,show(2*maskF l row+(if n∈row then 1 else 0)) / 2=maskF l row by split <;> omega,ih j];by_cases hj:j<l.length
  ·rw[hDp hj,hDp (by omega:j+1<l.length+1),show l.length+1-1-(j+1)=l.length-1-j by omega,hCb (by omega)]
  ·rw[hDr hj,hDr (by omega:¬j+1<l.length+1)];rfl
theorem qNn(aA row:List Str):maskF aA row<2^aA.length:=hC1 _ λi hi=>by rw[qGt,hDr (by omega)];rfl
def qU2:Sp:=λvs H Q _=>∃(pn pr:Addr) (aA row:List Str),vs=[.ref pn,.ref pr]/\LsS H pn aA/\LsS H pr row/\Q (iV (maskF aA row)) H
def rowM(aA:List Str)(x:Nat):List Str:=(List.range aA.length).filterMap λi=>if x.testBit (aA.length-1-i)=true then aA[i]? else none
def qP5:Sp:=λvs H Q _=>∃(pn:Addr) (aA:List Str) (x:Nat),vs=[.ref pn,iV x]/\LsS H pn aA/\aA.length<=12/\∀r H',Ext H H'->H r=none->LsS H' r (rowM aA x)->Q (.ref r) H'
theorem qQh(x k:Nat):Builtin.bitAnd ((x:Int) / 2^k) 1=if x.testBit k=true then 1 else 0:=by
 have e:(x:Int) / 2^k=((x / 2^k:Nat):Int):=by rw[Int.natCast_ediv,Int.natCast_pow];rfl
 have e1:(1:Int)=((1:Nat):Int):=rfl;rw[e];show Builtin.bitAnd _ ((1:Nat):Int)=_;rw[qCz,Nat.and_one_is_mod,Nat.testBit_eq_decide_div_mod_eq];rcases hBh (x / 2^k) with h|h <;> rw[h] <;> rfl
def qU3:Sp:=λvs H Q _=>∃(x:Nat) (p:Addr) (k:List Nat),vs=[iV x,.ref p]/\LsN H p k/\(∀s∈k,s≠0)/\Q (iV (red1 k x)) H
theorem qRp(x:Nat){s:Nat}(hs:s≠0):(if Builtin.bitXor (x:Int) (s:Int)<(x:Int) then Builtin.bitXor (x:Int) (s:Int) else (x:Int))=((rd1 x s:Nat):Int):=by
 rw[qD2,<-qYn x hs];by_cases h:x^^^s<x
 ·rw[hDu h,hDu (by omega)]
 ·rw[hDt h,hDt (by omega)]
def qP6:Sp:=λvs H Q _=>∃(p:Addr) (ms:List Nat),vs=[.ref p]/\LsN H p ms/\ms.length<=24/\∀(r:Addr) (M:List Nat) (H':Hp),Ext H H'->H r=none->LsN H' r M->M.Perm (red ms)->M.Pairwise (λa b=>b<=a)->Q (.ref r) H'
def qU4:Sp:=λvs H Q _=>∃x:Nat,vs=[iV x]/\x≠0/\x<2^24/\Q (iV (2^x.log2)) H
theorem qTk(k:List Nat)(x:Nat):(qOx k x).length<=k.length+1:=by
 unfold qOx;split
 ·omega
 ·rw[hAd,hA1];exact hA3 _
theorem qM7(xs:List Nat):(red xs).length<=xs.length:=by
 refine qOh (P:=λxs=>(red xs).length<=xs.length) (hA3 _) (λl t ih=>?_) xs;rw[qDx,hAd];have:=qTk (red l) t;show _<=l.length+1;omega
section
variable{P:Program}{w:World}{K:PySem.W.Frag}{mg:Str->Option Value}{base:Heap}{f f1 f2:Addr}{fd fd1 fd2:FuncData}
abbrev maN:List Str:=["names","row","mask","name"]
theorem qM2:FnScope maN ["names","row"] (qAa qOm):=fsk
theorem qX1(F:Fun K "mask_of" "mask_of" qOm f fd):v7 1 f fd ["names","row"] qU2:=by
 refine F.okA qM2 λcdv A outer s H vs Q E hr h=>?_
 obtain⟨pn,pr,aA,row,rfl,hn,hw,q⟩:=h;refine⟨_,qAb (v0 2 qM2 qAc)
  (qAb (qCp PassesOwn.never rfl (qAx (pv 0)) (v4 3 qM2)
   (qAe (v0 2 qM2 (qAl qCf (qAl qEn qAc (pv 2)) (qDy (qAm qEo (pv 3) (pv 1) (by with_unfolding_all rfl)) qAc qAc)))))
  (qAe (qAo (pv 2)))),?_⟩
 refine⟨_,rfl,pn,rfl,⟨_,SqL.of hn⟩,?_⟩;refine qCx (xs:=aA.map V.str) (λi σ H'=>H'=H/\∃x3:Option V,σ=[some (.ref pn),some (.ref pr),some (iV (maskF (aA.take i) row)),x3]) ⟨rfl,none,rfl⟩ (λi σ H' _ h=>by rw[h.1];exact SqL.of hn) ?_ ?_
 ·rintro i x σ H' hx ⟨rfl,x3,rfl⟩;obtain⟨y,rfl,hy⟩:=qP2 hx;refine⟨_,rfl,_,_,rfl,rfl,.inl ⟨by decide,by decide⟩,_,rfl,_,rfl,pr,_,rfl,.inl (SqL.of hw),rfl,qDs _,_,rfl,?_⟩;rw[hDt (by decide),qFe];refine qB1 (λc=>?_) (λc=>?_)
  ·have c':y∈row:=by simpa using c
   refine⟨_,_,rfl,rfl,rfl,some (.str y),?_⟩;rw[show iV (maskF (aA.take (i+1)) row)=V.int (2*((maskF (aA.take i) row:Nat):Int)+1) by rw[qAr hy,qFc,hDu c'];rfl];rfl
  ·have c':¬y∈row:=by simpa using c
   refine⟨_,_,rfl,rfl,rfl,some (.str y),?_⟩;rw[show iV (maskF (aA.take (i+1)) row)=V.int (2*((maskF (aA.take i) row:Nat):Int)+0) by rw[qAr hy,qFc,hDt c'];rfl];rfl
 ·rintro σ H' ⟨rfl,x3,rfl⟩;rw[hA1,hA9 (hA3 _)];exact⟨_,rfl,q⟩
theorem qQq:FnScope ["names","mask","last"] ["names","mask"] (qAa qGb):=fsk
abbrev roN:List Str:=["at","name","mask","last"]
theorem qTz(F:Fun K "row_of" "row_of" qGb f fd)(ml:mg "len"=none)(me:mg "enumerate"=none):v7 1 f fd ["names","mask"] qP5:=by
 refine F.okA qQq λcdv A outer s H vs Q E hr h=>?_
 obtain⟨pn,aA,x,rfl,hn,ln,q⟩:=h;refine⟨_,qAb (v5 2 qQq (qAl qGq (qAg qAt rfl ml hB1 (pa1 (pv 0))) qAc))
  (qAe (qAo (qDn (N:=["names","mask","last"]) (sc:=qAa qGb) (N':=roN) (sub:=[none,none,some 1,some 2]) rfl rfl (CmpOk.of (by decide +kernel)) rfl (qLz rfl me (pa1 (pv 0)))
   (λC s H fp=>⟨(show PG _ _ (qUp K 2 _) from qCe rfl (qAi (qAh (i:=0) (by show roN.Nodup;decide) rfl (Or.inl rfl)) (qAi (qAh (i:=1) (by show roN.Nodup;decide) rfl (Or.inl rfl)) qBj))),
    qC2 (qAm qDb (qAl qD7 (qAl qVy (pv 2) (qAl qGq (pv 3) (pv 0))) qAc) qAc (qAu _)),pv 1⟩)))),?_⟩
 refine⟨_,rfl,pn,_,rfl,.inl (SqL.of hn),_,_,rfl,rfl,?_⟩;refine⟨_,rfl,pn,_,rfl,SqL.of hn,?_⟩;rw[hA1];refine qEi (λi ys H'=>Ext H H'/\ys=((List.range i).filterMap λi=>if x.testBit (aA.length-1-i)=true then aA[i]? else none).map V.str) ⟨Ext.refl _,rfl⟩ (λi ys H' _ p=>SqL.of (p.1 _ _ hn)) ?_ ?_
 ·rintro i ys H' T hi ⟨e,rfl⟩ hT;have gd:(aA.map V.str).getD i .non = .str aA[i]:=by rw[hA5,hAj,hA2 hi];rfl
  have e2:=e.trans (Ext.new hT (.tup [V.int (i:Nat),(aA.map V.str).getD i .non]));refine⟨T,_,rfl,SqT.of upd_same,rfl,_,_,rfl,_,_,rfl,rfl,?_⟩;refine⟨Sle.set _ (sls) (λu z=>by cases z),?_⟩;have k:(((aA.length:Nat):Int)-1-(i:Nat))=((aA.length-1-i:Nat):Int):=by omega
  refine⟨_,rfl,_,rfl,_,rfl,_,_,rfl,rfl,_,_,rfl,rfl,(by show(0:Int)<=_;omega),_,_,rfl,rfl,rfl,_,rfl,?_⟩;have fm:((List.range (i+1)).filterMap λi=>if x.testBit (aA.length-1-i)=true then aA[i]? else none)=((List.range i).filterMap λi=>if x.testBit (aA.length-1-i)=true then aA[i]? else none)++(if x.testBit (aA.length-1-i)=true then [aA[i]] else []):=by
   rw[hCd,hCc];congr 1;by_cases b:x.testBit (aA.length-1-i)=true
   ·simp[b,hA2 hi]
   ·simp[b]
  have sz:=hCh (λi=>if x.testBit (aA.length-1-i)=true then aA[i]? else none) (List.range i);rw[hBi]at sz;have key:(decide (V.int (Builtin.bitAnd ((x:Int) / 2^(((aA.length:Nat):Int)-1-(i:Nat)).toNat) 1)=V.int 1)=true)↔x.testBit (aA.length-1-i)=true:=by
   rw[decide_eq_true_iff,V.int.injEq,k,hBr,qQh];by_cases b:x.testBit (aA.length-1-i)=true
   ·simp[b]
   ·simp[b]
  refine qB1 (λc=>?_) (λc=>?_)
  ·have b:=key.mp c;refine⟨_,rfl,by rw[hA1];exact qAf (by omega),nxt hi ⟨e2,?_⟩⟩;rw[fm,hDu b,hA7,gd];rfl
  ·have b:¬x.testBit (aA.length-1-i)=true:=λz=>c (key.mpr z)
   refine nxt hi ⟨e2,?_⟩;rw[fm,hDt b,hCo]
 ·rintro ys H' ⟨e,rfl⟩ r hr';exact q r _ (e.trans (Ext.new hr' _)) (e.none hr') upd_same
theorem qQr:FnScope ["mask","kept","step"] ["mask","kept"] (qAa qOn):=fsk
theorem qX4(F:Fun K "lessened" "lessened" qOn f fd)(mmi:mg "min"=none):v7 1 f fd ["mask","kept"] qU3:=by
 refine F.okA qQr λcdv A outer s H vs Q E hr h=>?_
 obtain⟨x,p,k,rfl,hk,nz,q⟩:=h;refine⟨_,qAb (qCp PassesOwn.never rfl (qAx (pv 1)) (v4 2 qQr)
   (qAe (v0 0 qQr (qAg (qKs rfl) rfl mmi qEz (qAd (pv 0) (pa1 (qAl qGp (pv 0) (pv 2))))))))
  (qAe (qAo (pv 0))),?_⟩
 refine⟨_,rfl,p,rfl,⟨_,SqL.of hk⟩,?_⟩;refine qCx (xs:=k.map iV) (λi σ H'=>H'=H/\∃x2:Option V,σ=[some (iV (red1 (k.take i) x)),some (.ref p),x2]) ⟨rfl,none,rfl⟩ (λi σ H' _ h=>by rw[h.1];exact SqL.of hk) ?_ ?_
 ·rintro i v σ H' hx ⟨rfl,x2,rfl⟩;obtain⟨s,rfl,hs⟩:=qD8 hx;refine⟨_,rfl,_,rfl,_,rfl,_,_,rfl,rfl,_,_,rfl,rfl,some (iV s),?_⟩;rw[qRp _ (nz s (hAs hs)),show red1 (k.take (i+1)) x=rd1 (red1 (k.take i) x) s by rw[qAr hs];unfold red1;rw[hC5];rfl];rfl
 ·rintro σ H' ⟨rfl,x2,rfl⟩;rw[hA1,hA9 (hA3 _)];exact⟨_,rfl,q⟩
theorem qJs:FnScope ["masks","kept","mask","fresh"] ["masks"] (qAa qLj):=fsk
theorem qXz(F:Fun K "reduced" "reduced" qLj f fd)(G:v8 1 f1 fd1 ["mask","kept"] qU3 "lessened")(mmi:mg "min"=none)(mso:mg "sorted"=none):v7 2 f fd ["masks"] qP6:=by
 refine F.okA qJs λcdv A outer s H vs Q E hr h=>?_
 obtain⟨p,ms,rfl,hp,lm,q⟩:=h;refine⟨_,qAb (v0 1 qJs (qB9 qAs))
  (qAb (qCp PassesOwn.never rfl (qAx (pv 0)) (v4 2 qJs)
   (qAb (v5 3 qJs (qA0 G hr rfl .nil qA2 (qAd (pv 2) (pa1 (pv 1)))))
   (qAe (qBl (qAm qEe (pv 3) qAc (qAu _))
    (qAe (v0 1 qJs (qAl qHu (qDn (N:=["masks","kept","mask","fresh"]) (sc:=qAa qLj) (N':=["step","fresh"]) (sub:=[none,some 3]) rfl rfl (CmpOk.of (by decide +kernel)) rfl (qAx (pv 1))
     (λC s H fp=>⟨qAh (i:=0) (by show(["step","fresh"]:List Str).Nodup;decide) rfl (Or.inl rfl),qA4,qAg (qKs rfl) rfl mmi qEz (qAd (pv 0) (pa1 (qAl qGp (pv 0) (pv 1))))⟩)) (qB9 (pa1 (pv 3))))))
    qAw))))
  (qAe (qAo (qO1 rfl mso (pa1 (pv 1)))))),?_⟩
 refine⟨hAq _,λke ke0=>?_⟩;have X0:=Ext.new ke0 (.lst []);refine⟨_,rfl,p,rfl,⟨_,SqL.of (X0 _ _ hp)⟩,?_⟩;refine qCx (xs:=ms.map iV) (λi σ H'=>∃(ke:Addr) (x2 x3:Option V),σ=[some (.ref p),some (.ref ke),x2,x3]/\Ext H H'/\LsN H' ke (red (ms.take i))) ⟨ke,none,none,rfl,X0,upd_same⟩ (λi σ H' _ h=>by obtain⟨_,_,_,_,e,_⟩:=h;exact SqL.of (e _ _ hp)) ?_ ?_
 ·rintro i v σ H' hx ⟨ke,x2,x3,rfl,e,hk⟩;obtain⟨m,rfl,hm⟩:=qD8 hx;have hi:i<ms.length:=qBq hm;have rr:=qD6 (ms.take i);have lr:=qM7 (ms.take i);rw[hAn]at lr;refine⟨_,rfl,_,rfl,m,ke,_,rfl,hk,rr.nz,?_⟩;have sn:red (ms.take (i+1))=qOx (red (ms.take i)) m:=by rw[qAr hm,qDx]
  refine⟨_,rfl,rfl,_,rfl,?_⟩;refine qB1 (λc=>?_) (λc=>?_)
  ·have c':red1 (red (ms.take i)) m≠0:=λz=>by rw[z]at c;simp at c
   refine⟨_,rfl,ke,rfl,⟨_,SqL.of hk⟩,?_⟩;refine qA1 (xs:=(red (ms.take i)).map iV) (λj ys H2=>H2=H'/\ys=(((red (ms.take i)).take j).map λs=>rd1 s (red1 (red (ms.take i)) m)).map iV) ⟨rfl,rfl⟩ (λj ys H2 _ h=>by rw[h.1];exact SqL.of hk) ?_ ?_
   ·rintro j x ys H2 hx2 ⟨rfl,rfl⟩;obtain⟨s,rfl,hs⟩:=qD8 hx2;have hj:=qBq hs;refine⟨sls,iteT (B:=False) ⟨_,rfl,_,rfl,_,rfl,_,_,rfl,rfl,_,_,rfl,?_,nxt (qBq hx2) ⟨rfl,?_⟩⟩⟩
    ·rw[hA1,hA1,hAn];exact qAf (by omega)
    ·rw[qRp _ c',qAr hs,hA7,hA7];rfl
   ·rintro ys H2 ⟨rfl,rfl⟩ l hl;rw[hA1,hA9 (hA3 _)];have n1:=Ext.new hl (.lst (((red (ms.take i)).map λs=>rd1 s (red1 (red (ms.take i)) m)).map iV));refine⟨_,rfl,(by show 1<=sizeLine;decide),λl2 hl2=>?_⟩;have n2:=Ext.new hl2 (.lst [iV (red1 (red (ms.take i)) m)]);refine⟨l,l2,_,_,rfl,rfl,n2 _ _ upd_same,upd_same,?_,λl3 hl3=>?_⟩
    ·rw[hA1,hA1];show _+1<=sizeLine;exact hAz (qAf (by omega))
    ·refine⟨l3,_,_,rfl,((e.trans n1).trans n2).trans (Ext.new hl3 _),?_⟩;rw[sn];unfold qOx LsN;rw[hDt c',upd_same,hA7];rfl
  ·have c':red1 (red (ms.take i)) m=0:=by
    have:(red1 (red (ms.take i)) m:Int)=0:=by simpa using c
    omega
   refine⟨ke,_,_,rfl,e,?_⟩;rw[sn];unfold qOx;rw[hDu c'];exact hk
 ·rintro σ H' ⟨ke,x2,x3,rfl,e,hk⟩;rw[hA1,hA9 (hA3 _)]at hk;have lr:=qM7 ms;refine⟨_,rfl,ke,(red ms).map (λn:Nat=>(n:Int)),rfl,by rw[<-qIz];exact SqL.of hk,by rw[hA1];omega,λr ns hr' pm od=>?_⟩;have od':ns.Pairwise λa b=>a >= b:=od
  obtain⟨M,rfl⟩:∃M:List Nat,ns=M.map (λn:Nat=>(n:Int)):=by
   refine⟨ns.map Int.toNat,?_⟩;rw[hB3];refine(List.map_id _).symm.trans (hBv λa ha=>?_);obtain⟨n,_,rfl⟩:=hAe.mp (pm.mem_iff.mp ha);simp
  have pm':M.Perm (red ms):=by
   have:=pm.map Int.toNat;rw[hB3,hB3]at this;have idn:(Int.toNat∘λn:Nat=>(n:Int))=id:=by funext n;simp
   rw[idn,List.map_id,List.map_id]at this;exact this
  refine q r M _ (e.trans (Ext.new hr' _)) (e.none hr') (by unfold LsN;rw[upd_same,qIz]) pm' ?_;rw[hCa]at od';exact List.Pairwise.imp (λ{a b} h=>by omega) od'
theorem zAk:FnScope ["mask"] ["mask"] (qAa qOo):=fsk
theorem qX5(F:Fun K "lead_of" "lead_of" qOo f fd):v7 1 f fd ["mask"] qU4:=by
 refine F.okA zAk λcdv A outer s H vs Q E hr h=>?_
 obtain⟨x,rfl,nz,lt,q⟩:=h;refine⟨_,qAe (qAo (qAl qJ0 qAc (qAl qGq (qRd PySem.F.plainAttrs_int PySem.F.slot_int_bit_length PySem.F.type_int_bit_length qYl (pv 0)) qAc))),?_⟩;have l24:x.log2<24:=(Nat.log2_lt nz).mpr lt;have ib:Builtin.Int.intBits (x:Int)=x.log2+1:=by
  unfold Builtin.Int.intBits;rw[hDt (by simpa using nz)];simp
 refine⟨_,rfl,rfl,x,rfl,rfl,_,_,rfl,rfl,_,_,rfl,rfl,?_⟩;rw[ib];have e:((x.log2+1:Nat):Int)-1=(x.log2:Nat):=by omega
 rw[e];refine⟨⟨by omega,by omega,by decide⟩,?_⟩;dsimp only;rw[hBr,Int.one_mul];have p2:((2:Int)^x.log2)=((2^x.log2:Nat):Int):=by rw[Int.natCast_pow];rfl
 rw[p2];exact q
end
theorem RR.perm{a b:List Nat}(h:RR a)(p:b.Perm a):RR b:=⟨λs hs=>h.nz s (p.mem_iff.mp hs),(p.pairwise_iff (λ{x y} z=>⟨z.2,z.1⟩)).mpr h.ap⟩
theorem qIc:∀l:List Nat,(l.map λn:Nat=>(n:Int)).sum=((l.sum:Nat):Int)
 |[]=>rfl
 |a :: l=>by rw[hAv,List.sum_cons,List.sum_cons,qIc l];omega
theorem qIi(p:Nat):(1:Int)*2^((p:Int)).toNat=((2^p:Nat):Int):=by
 rw[hBr,Int.one_mul,Int.natCast_pow];rfl
def zAa:Sp:=λvs H Q _=>∃(p:Addr) (S:List Nat) (m:Nat),vs=[.ref p,iV m]/\LsN H p S/\RR S/\(∀s∈S,s<2^m)/\m<=12/\S.length<=24/\∀r H',Ext H H'->H r=none->LsN H' r (qEf S m)->Q (.ref r) H'
def qHb(H:Hp)(T:Addr)(aA:List Str)(rows:List (List Str)):Prop:=∃a b,H T=some (.tup [.ref a,.ref b])/\LsS H a aA/\qH3 H b rows
def qPm(H0 H:Hp)(T:Addr)(aA:List Str)(rows:List (List Str)):Prop:=∃a b,H T=some (.tup [.ref a,.ref b])/\LsS H a aA/\H0 a=none/\qPh H0 H b rows/\H0 b=none
theorem qHb.ext{H H':Hp}{T:Addr}{aA:List Str}{rows:List (List Str)}(h:qHb H T aA rows)(e:Ext H H'):qHb H' T aA rows:=by
 obtain⟨a,b,h1,h2,h3⟩:=h;exact⟨a,b,e _ _ h1,e _ _ h2,h3.ext e⟩
theorem qPm.ext{H0 H H':Hp}{T:Addr}{aA:List Str}{rows:List (List Str)}(h:qPm H0 H T aA rows)(e:Ext H H'):qPm H0 H' T aA rows:=by
 obtain⟨a,b,h1,h2,h3,h4,h5⟩:=h;exact⟨a,b,e _ _ h1,e _ _ h2,h3,h4.ext e,h5⟩
theorem qPm.tin{H0 H:Hp}{T:Addr}{aA:List Str}{rows:List (List Str)}(h:qPm H0 H T aA rows):qHb H T aA rows:=by
 obtain⟨a,b,h1,h2,h3,h4,h5⟩:=h;exact⟨a,b,h1,h2,h4.rows⟩
theorem qPm.down{H0 H1 H:Hp}{T:Addr}{aA:List Str}{rows:List (List Str)}(h:qPm H1 H T aA rows)(e:Ext H0 H1):qPm H0 H T aA rows:=by
 obtain⟨a,b,h1,h2,h3,⟨as,h4,h6⟩,h5⟩:=h;exact⟨a,b,h1,h2,e.none h3,⟨as,h4,Paired.mapP h6 λa r z=>⟨z.1,e.none z.2.1,z.2.2⟩⟩,e.none h5⟩
def qU1:Sp:=λvs H Q _=>∃(pn pm:Addr) (aA:List Str) (ms:List Nat),vs=[.ref pn,.ref pm]/\LsS H pn aA/\aA.length<=12/\LsN H pm ms/\ms.length<=24/\∀(T:Addr) (M:List Nat) (H':Hp),Ext H H'->H T=none->qPm H H' T aA (M.map (rowM aA))->M.Perm (red ms)->M.Pairwise (λa b=>b<=a)->Q (.ref T) H'
def qLa:Sp:=λvs H Q _=>∃(T:Addr) (aA:List Str) (rows:List (List Str)),vs=[.ref T]/\qHb H T aA rows/\rows.length<=24/\∀(r:Addr) (M:List Nat) (H':Hp),Ext H H'->H r=none->LsN H' r M->M.Perm (red (rows.map (maskF aA)))->M.Pairwise (λa b=>b<=a)->Q (.ref r) H'
def qQe:Sp:=λvs H Q _=>∃(T:Addr) (aA:List Str) (rows:List (List Str)),vs=[.ref T]/\qHb H T aA rows/\aA.length<=12/\rows.length<=24/\∀(T':Addr) (S M:List Nat) (H':Hp),Ext H H'->H T'=none->qPm H H' T' aA (M.map (rowM aA))->S.Perm (red (rows.map (maskF aA)))->M.Perm (red (qEf S aA.length))->M.Pairwise (λa b=>b<=a)->Q (.ref T') H'
def qHm:Sp:=λvs H Q _=>∃(p:Addr) (net:List Tr),vs=[.ref p]/\qA5 H p net/\net.length<=20/\∀r H',Ext H H'->H r=none->LsS H' r (net.map (·.1))->Q (.ref r) H'
def metF(net:List Tr)(x:Str):List Str:=(net.filter λt=>decide (t.2.1=x) != decide (t.2.2=x)).map (·.1)
def qZ8:Sp:=λvs H Q _=>∃(p:Addr) (net:List Tr) (x:Str),vs=[.ref p,.str x]/\qA5 H p net/\net.length<=12/\∀r H',Ext H H'->H r=none->LsS H' r (metF net x)->Q (.ref r) H'
def qK9:Sp:=λvs H Q _=>∃(p:Addr) (net:List Tr),vs=[.ref p]/\qA5 H p net/\net.length<=12/\∀(T:Addr) (ps:List Str) (S M:List Nat) (H':Hp),Ext H H'->H T=none->qPm H H' T (net.map (·.1)) (M.map (rowM (net.map (·.1))))->qHd net ps->qD5 ps->S.Perm (red (ps.map λx=>maskF (net.map (·.1)) (metF net x)))->M.Perm (red (qEf S net.length))->M.Pairwise (λa b=>b<=a)->Q (.ref T) H'
section
variable{P:Program}{w:World}{K:PySem.W.Frag}{mg:Str->Option Value}{base:Heap}{f f1 f2 f3 f4:Addr}{fd fd1 fd2 fd3 fd4:FuncData}
abbrev crN:List Str:=["steps","width","leads","told","place","bit"]
theorem qQu:FnScope crN ["steps","width"] (qAa qVk):=fsk
theorem zBd(F:Fun K "crossed_masks" "crossed_masks" qVk f fd)(G:v8 1 f1 fd1 ["mask"] qU4 "lead_of")(msu:mg "sum"=none)(mr:mg "range"=none):v7 2 f fd ["steps","width"] zAa:=by
 refine F.okA qQu λcdv A outer s H vs Q E hr h=>?_
 obtain⟨p,S,m,rfl,hp,rr,lt,m12,lS,q⟩:=h;refine⟨_,qAb (v0 2 qQu (qAg (qKo rfl) rfl msu qKt (pa1 (qCr (N:=crN) (sc:=qAa qVk) (N':=["step"]) (sub:=[none]) (qAx (pv 0)) (λC s H fp=>⟨qA4,qA0 G hr rfl .nil qA2 (pa1 (pv 0))⟩)))))
  (qAb (v0 3 qQu (qB9 qAs))
  (qAb (qCp PassesOwn.never rfl (qCq rfl mr (pa1 (pv 1))) (v4 4 qQu)
   (qAb (v5 5 qQu (qAl qJ0 qAc (pv 4)))
   (qAe (qBl (qAm qDb (qAl qD7 (pv 2) (pv 5)) qAc (qAu _))
    (qAe (qCa (qEm hAu hB6 hB7 qBt (pv 3) (qAd
     (qAl qCf (pv 5) (qAg (qKo rfl) rfl msu qKt (pa1 (qCr (N:=crN) (sc:=qAa qVk) (N':=["step","bit"]) (sub:=[none,some 5]) (qAx (pv 0)) (λC s H fp=>⟨qC2 (qAm qEe (qAl qD7 (pv 0) (pv 1)) qAc (qAu _)),qA0 G hr rfl .nil qA2 (pa1 (pv 0))⟩))))) qAs))))
    qAw))))
  (qAe (qAo (pv 3))))),?_⟩
 have l24:∀s∈S,s<2^24:=λs hs=>hAl (lt s hs) (hDd (by decide) (by omega))
 refine⟨_,rfl,p,rfl,⟨_,SqL.of hp⟩,?_⟩;refine qA1 (xs:=S.map iV) (λj ys H2=>H2=H/\ys=((S.take j).map λs:Nat=>2^s.log2).map iV) ⟨rfl,rfl⟩ (λj ys H2 _ h=>by rw[h.1];exact SqL.of hp) ?_ ?_
 ·rintro j v ys H2 hx ⟨rfl,rfl⟩;obtain⟨s,rfl,hs⟩:=qD8 hx;have hj:=qBq hs;have sm:=hAs hs;refine⟨sls,iteT (B:=False) ⟨_,rfl,s,rfl,rr.nz s sm,l24 s sm,?_,nxt (qBq hx) ⟨rfl,?_⟩⟩⟩
  ·rw[hA1,hA1,hAn];exact qAf (by omega)
  ·rw[qAr hs,hA7,hA7];rfl
 rintro ys H2 ⟨rfl,rfl⟩ l1 hl1;rw[hA1,hA9 (hA3 _)];have n1:=Ext.new hl1 (.lst ((S.map λs:Nat=>2^s.log2).map iV));refine⟨l1,(S.map λs:Nat=>2^s.log2).map (λn:Nat=>(n:Int)),rfl,SqL.of (by rw[upd_same,qIz]),?_⟩;rw[qIc];refine⟨hAq _,λto to1=>?_⟩;have to0:=n1.none to1;have n2:=n1.trans (Ext.new to1 (.lst []));refine⟨_,rfl,(m:Int),rfl,by omega,by omega,?_⟩;refine qDr (lo:=0) (n:=((m:Int)).toNat) (λi σ H'=>∃(x4 x5:Option V),σ=[some (.ref p),some (iV m),some (iV (S.map λs:Nat=>2^s.log2).sum),some (.ref to),x4,x5]/\Ext H2 H'/\LsN H' to (((List.range i).filter λp=>!decide (isLd S p)).map (crM S))) ⟨none,none,rfl,n2,upd_same⟩ ?_ ?_
 ·rintro i σ H' hi ⟨x4,x5,rfl,e,ht⟩;have hi':i<m:=by omega
  refine⟨_,rfl,_,_,rfl,rfl,⟨by omega,by omega,by decide⟩,?_⟩;have bv:(λi j:Int=>V.int (i*2^j.toNat)) 1 (0+(i:Int))=iV (2^i):=by
   show V.int (1*2^(0+(i:Int)).toNat)=_;rw[show(0+(i:Int))=(i:Nat) by omega,qIi]
  rw[bv];have sn:((List.range (i+1)).filter λp=>!decide (isLd S p)).map (crM S)=((List.range i).filter λp=>!decide (isLd S p)).map (crM S)++(if isLd S i then [] else [crM S i]):=by
   rw[hCd,hCk,hA7];congr 1;by_cases b:isLd S i
   ·simp[b]
   ·simp[b]
  have lb:=qRw rr i;refine⟨_,rfl,_,rfl,_,_,rfl,rfl,rfl,_,rfl,?_⟩;refine qB1 (λc=>?_) (λc=>?_)
  ·have nl:¬isLd S i:=λz=>by
    rw[hDp z]at lb;have ne:=(qJf _ i).mpr lb;have:Builtin.bitAnd (((S.map λs:Nat=>2^s.log2).sum:Nat):Int) ((2^i:Nat):Int)=0:=by simpa using c
    rw[qCz]at this;omega
   refine⟨_,rfl,.inl ⟨rfl,_,SqL.of ht⟩,_,rfl,?_⟩;refine⟨_,rfl,p,rfl,⟨_,SqL.of (e _ _ hp)⟩,?_⟩;refine qA1 (xs:=S.map iV) (λj ys H3=>H3=H'/\ys=(((S.take j).filter λs:Nat=>s.testBit i).map λs:Nat=>2^s.log2).map iV) ⟨rfl,rfl⟩ (λj ys H3 _ h=>by rw[h.1];exact SqL.of (e _ _ hp)) ?_ ?_
   ·rintro j v ys H3 hx ⟨rfl,rfl⟩;obtain⟨s,rfl,hs⟩:=qD8 hx;have hj:=qBq hs;have sm:=hAs hs;refine⟨sls,_,rfl,_,rfl,_,_,rfl,rfl,rfl,_,rfl,?_⟩;have key:((!decide (V.int (Builtin.bitAnd (s:Int) ((2^i:Nat):Int))=V.int 0))=true)↔s.testBit i=true:=by
     rw[<-qJf s i,qCz];simp
    refine qB1 (λc3=>?_) (λc3=>?_)
    ·have b:=key.mp c3;refine⟨_,rfl,s,rfl,rr.nz s sm,l24 s sm,?_,nxt (qBq hx) ⟨rfl,?_⟩⟩
     ·have:=hC6 (λs:Nat=>s.testBit i) (S.take j);rw[hAn]at this;rw[hA1,hA1];exact qAf (by omega)
     ·rw[qAr hs,hCk,hA7,hA7];simp[b]
    ·have b:¬s.testBit i=true:=λz=>c3 (key.mpr z)
     refine nxt (qBq hx) ⟨rfl,?_⟩;rw[qAr hs,hCk];simp[b]
   ·rintro ys H3 ⟨rfl,rfl⟩ l2 hl2;rw[hA1,hA9 (hA3 _)];have n3:=Ext.new hl2 (.lst (((S.filter λs:Nat=>s.testBit i).map λs:Nat=>2^s.log2).map iV));refine⟨l2,((S.filter λs:Nat=>s.testBit i).map λs:Nat=>2^s.log2).map (λn:Nat=>(n:Int)),rfl,SqL.of (by rw[upd_same,qIz]),?_⟩;rw[qIc];refine⟨_,_,rfl,rfl,to,_,_,rfl,rfl,n3 _ _ ht,?_,?_⟩
    ·have:=hC6 (λp=>!decide (isLd S p)) (List.range i);rw[hBi]at this;rw[hA1,hA1];exact qAf (by omega)
    ·refine⟨_,_,rfl,(e.trans n3).over to0 _,?_⟩;rw[sn,hDt nl];unfold LsN;rw[upd_same,hA7];rfl
  ·have il:isLd S i:=hCt λz=>by
    rw[hDr z]at lb;refine c ?_;have:(S.map λs:Nat=>2^s.log2).sum&&&2^i=0:=hCt λy=>by
     have:=(qJf _ i).mp y;rw[lb]at this;cases this
    show decide (V.int (Builtin.bitAnd (((S.map λs:Nat=>2^s.log2).sum:Nat):Int) ((2^i:Nat):Int))=V.int 0)=true;rw[qCz,this];rfl
   refine⟨_,_,rfl,e,?_⟩;rw[sn,hDu il,hCo];exact ht
 ·rintro σ H' ⟨x4,x5,rfl,e,ht⟩;rw[hBr]at ht;exact⟨_,rfl,q to _ e to0 ht⟩
theorem zAi:FnScope ["names","masks"] ["names","masks"] (qAa qLi):=fsk
theorem qXy(F:Fun K "table_from" "table_from" qLi f fd)(G1:v8 1 f1 fd1 ["names","mask"] qP5 "row_of")
  (G2:v8 2 f2 fd2 ["masks"] qP6 "reduced") (mL:mg "list"=none):v7 3 f fd ["names","masks"] qU1:=by
 refine F.okA zAi λcdv A outer s H vs Q E hr h=>?_
 obtain⟨pn,pm,aA,ms,rfl,hn,ln,hm,lm,q⟩:=h;have hr1:=hr.mono (j:=1) (by decide);refine⟨_,qAe (qAo (qBk (qAd (qBf qCg rfl mL qBe (pa1 (pv 0))) (qAd
  (qDn (N:=["names","masks"]) (sc:=qAa qLi) (N':=["mask","names"]) (sub:=[none,some 0]) rfl rfl (CmpOk.of (by decide +kernel)) rfl (qAx (qA0 G2 hr rfl .nil qA2 (pa1 (pv 1))))
   (λC s H fp=>⟨qAh (i:=0) (by show(["mask","names"]:List Str).Nodup;decide) rfl (Or.inl rfl),qA4,qA0 G1 hr1 rfl .nil qA2 (qAd (pv 1) (pa1 (pv 0)))⟩)) qAs)))),?_⟩
 refine⟨_,rfl,pn,_,rfl,.inl (SqL.of hn),λl1 hl1=>?_⟩;have n1:=Ext.new hl1 (.lst (aA.map V.str));refine⟨_,rfl,pm,ms,rfl,n1 _ _ hm,lm,λr M H1 e1 r0 hM pM dM=>?_⟩;have E1:=n1.trans e1;have lM:M.length<=24:=by rw[pM.length_eq];exact hAx (qM7 ms) lm
 refine⟨r,rfl,⟨_,SqL.of hM⟩,?_⟩;refine qA1 (xs:=M.map iV) (λj ys H2=>Ext H1 H2/\∃as,ys=as.map V.ref/\Paired (λa r=>LsS H2 a r/\H a=none) as ((M.take j).map (rowM aA))) ⟨Ext.refl _,[],rfl,.nil⟩ (λj ys H2 _ h=>SqL.of (h.1 _ _ hM)) ?_ ?_
 ·rintro j v ys H2 hx ⟨e2,as,rfl,pr⟩;obtain⟨x,rfl,hx'⟩:=qD8 hx;have hj:=qBq hx';have la:as.length=_:=pr.length;rw[hA1,hAn]at la;refine⟨sls,iteT (B:=False) ⟨_,rfl,_,rfl,pn,aA,x,rfl,(E1.trans e2) _ _ hn,ln,λr3 H3 e3 r30 h3=>⟨?_,nxt (qBq hx) ⟨e2.trans e3,as++[r3],by rw[hA7];rfl,?_⟩⟩⟩⟩
  ·rw[hA1];exact qAf (by omega)
  ·rw[qAr hx',hA7];exact Paired.snoc (Paired.mapP pr λa t z=>⟨e3 _ _ z.1,z.2⟩) ⟨h3,(E1.trans e2).none r30⟩
 ·rintro ys H2 ⟨e2,as,rfl,pr⟩ b hb;rw[hA1,hA9 (hA3 _)]at pr;have E2:=E1.trans e2;have Xb:=Ext.new hb (.lst (as.map V.ref));refine⟨(by show 2<=sizeLine;decide),λT hT=>?_⟩;have XT:=Xb.trans (Ext.new hT (.tup [V.ref l1,V.ref b]));refine q T M _ (E2.trans XT) ((E2.trans Xb).none hT) ⟨l1,b,upd_same,XT _ _ (e2 _ _ (e1 _ _ upd_same)),hl1,⟨as,(Ext.new hT _) _ _ upd_same,Paired.mapP pr λa t z=>⟨XT _ _ z.1,z.2,qAq z.1 hb⟩⟩,E2.none hb⟩ pM dM
theorem qLd:FnScope ["table","names","rows"] ["table"] (qAa qGa):=fsk
theorem qTy(F:Fun K "step_masks" "step_masks" qGa f fd)(G1:v8 1 f1 fd1 ["names","row"] qU2 "mask_of")
  (G2:v8 2 f2 fd2 ["masks"] qP6 "reduced"):v7 3 f fd ["table"] qLa:=by
 refine F.okA qLd λcdv A outer s H vs Q E hr h=>?_
 obtain⟨T,aA,rows,rfl,⟨a,b,hT,ha,⟨as,hb,pr⟩⟩,lr,q⟩:=h;have hr1:=hr.mono (j:=1) (by decide);refine⟨_,qAb (qGl (pv 0) (qCe rfl (qAi (v6 1 qLd) (qAi (v4 2 qLd) qBj))))
  (qAe (qAo (qA0 G2 hr rfl .nil qA2 (pa1 (qDn (N:=["table","names","rows"]) (sc:=qAa qGa) (N':=["row","names"]) (sub:=[none,some 1]) rfl rfl (CmpOk.of (by decide +kernel)) rfl (qAx (pv 2))
   (λC s H fp=>⟨qAh (i:=0) (by show(["row","names"]:List Str).Nodup;decide) rfl (Or.inl rfl),qA4,qA0 G1 hr1 rfl .nil qA2 (qAd (pv 1) (pa1 (pv 0)))⟩)))))),?_⟩
 have la:as.length=rows.length:=pr.length;refine⟨_,rfl,T,_,rfl,SqT.of hT,rfl,_,_,rfl,_,_,rfl,rfl,?_⟩;refine⟨_,rfl,b,rfl,⟨_,SqL.of hb⟩,?_⟩;refine qA1 (xs:=as.map V.ref) (λj ys H2=>H2=H/\ys=((rows.take j).map (maskF aA)).map iV) ⟨rfl,rfl⟩ (λj ys H2 _ h=>by rw[h.1];exact SqL.of hb) ?_ ?_
 ·rintro j v ys H2 hx ⟨rfl,rfl⟩;obtain⟨c,rfl,hc⟩:=qLt hx;obtain⟨rw1,hrw,hc1⟩:=qBw pr hc;have hj:=qBq hrw;refine⟨sls,iteT (B:=False) ⟨_,rfl,_,rfl,a,c,aA,rw1,rfl,ha,hc1,?_,nxt (qBq hx) ⟨rfl,?_⟩⟩⟩
  ·rw[hA1,hA1,hAn];exact qAf (by omega)
  ·rw[qAr hrw,hA7,hA7];rfl
 ·rintro ys H2 ⟨rfl,rfl⟩ l hl;rw[hA1,la,hA9 (hA3 _)];have n1:=Ext.new hl (.lst ((rows.map (maskF aA)).map iV));refine⟨l,_,rfl,upd_same,by rw[hA1];exact lr,λr M H1 e1 r0 hM pM dM=>?_⟩;exact q r M H1 (n1.trans e1) (n1.none r0) hM pM dM
theorem qQt:FnScope ["table","names"] ["table"] (qAa qHr):=fsk
theorem qT6(F:Fun K "crossed" "crossed" qHr f fd)(G1:v8 3 f1 fd1 ["names","masks"] qU1 "table_from")
  (G2:v8 2 f2 fd2 ["steps","width"] zAa "crossed_masks")
  (G3:v8 3 f3 fd3 ["table"] qLa "step_masks") (ml:mg "len"=none):v7 4 f fd ["table"] qQe:=by
 refine F.okA qQt λcdv A outer s H vs Q E hr h=>?_
 obtain⟨T,aA,rows,rfl,ht,ln,lr,q⟩:=h;have hr2:=hr.mono (j:=2) (by decide);refine⟨_,qAb (v0 1 qQt (qA6 qA7 (pv 0) qAc (λ_ _=>rfl)))
  (qAe (qAo (qA0 G1 hr rfl .nil qA2 (qAd (pv 1) (pa1 (qA0 G2 hr2 rfl .nil qA2 (qAd (qA0 G3 hr rfl .nil qA2 (pa1 (pv 0))) (pa1 (qAg qAt rfl ml hB1 (pa1 (pv 1))))))))))),?_⟩
 obtain⟨a,b,hT,ha,hb⟩:=id ht;refine⟨_,rfl,T,_,_,_,rfl,rfl,SqT.of hT,(by exact qAv (j:=0) rfl),?_⟩;refine⟨_,rfl,_,rfl,T,aA,rows,rfl,ht,lr,λr S H1 e1 r0 hS pS dS=>?_⟩;have rrS:RR S:=(qD6 _).perm pS;have ltS:∀s∈S,s<2^aA.length:=λs hs=>qVm (λx hx=>by
  obtain⟨rw1,_,rfl⟩:=hAe.mp hx;exact qNn aA rw1) s (pS.mem_iff.mp hs)
 have lS:S.length<=24:=by
  have:=qM7 (rows.map (maskF aA));rw[hA1]at this;rw[pS.length_eq];omega
 refine⟨_,rfl,a,_,rfl,.inl (SqL.of (e1 _ _ ha)),r,S,aA.length,(by rw[hA1];rfl),hS,rrS,ltS,ln,lS,λr2 H2 e2 r20 h2=>?_⟩;have lc:(qEf S aA.length).length<=24:=by
  unfold qEf;rw[hA1];have:=hC6 (λp=>!decide (isLd S p)) (List.range aA.length);rw[hBi]at this;omega
 have E2:=e1.trans e2;refine⟨a,r2,aA,_,rfl,E2 _ _ ha,ln,h2,lc,λT' M H3 e3 t0 tf pM dM=>?_⟩;exact q T' S M H3 (E2.trans e3) (E2.none t0) (tf.down E2) pS pM dM
end
theorem qJ6(net:List Tr)(t:Tr)(x:Str):metF (net++[t]) x=metF net x++(if (decide (t.2.1=x) != decide (t.2.2=x))=true then [t.1] else []):=by
 unfold metF;rw[hCk,hA7];congr 1;by_cases b:(decide (t.2.1=x) != decide (t.2.2=x))=true
 ·rw[hDu b,List.filter_cons,hDu b];rfl
 ·rw[hDt b,List.filter_cons,hDt b];rfl
theorem qUa(net:List Tr)(x:Str):(metF net x).length<=net.length:=by
 unfold metF;rw[hA1];exact hC6 _ _
section
variable{P:Program}{w:World}{K:PySem.W.Frag}{mg:Str->Option Value}{base:Heap}{f f1 f2 f3 f4:Addr}{fd fd1 fd2 fd3 fd4:FuncData}
theorem zAh:FnScope ["net"] ["net"] (qAa qLh):=fsk
abbrev tiN:List Str:=["tie","one","other"]
theorem qXx(F:Fun K "ties_of" "ties_of" qLh f fd):v7 1 f fd ["net"] qHm:=by
 refine F.okA zAh λcdv A outer s H vs Q E hr h=>?_
 obtain⟨p,net,rfl,⟨as,hp,pr⟩,hl,q⟩:=h;refine⟨_,qAe (qAo (qDn (N:=["net"]) (sc:=qAa qLh) (N':=tiN) (sub:=[none,none,none]) rfl rfl (CmpOk.of (by decide +kernel)) rfl (qAx (pv 0))
  (λC s H fp=>⟨(show PG _ _ (qUp K 3 _) from qCe rfl (qAi (qAh (i:=0) (by show tiN.Nodup;decide) rfl (Or.inl rfl)) (qAi (qAh (i:=1) (by show tiN.Nodup;decide) rfl (Or.inl rfl)) (qAi (qAh (i:=2) (by show tiN.Nodup;decide) rfl (Or.inl rfl)) qBj)))),qA4,pv 0⟩))),?_⟩
 refine⟨_,rfl,p,rfl,⟨_,SqL.of hp⟩,?_⟩;refine qCd (λt=>t.1) hp pr hl (λa t ha C B c=>?_) (λr hr'=>q r _ (Ext.new hr' _) hr' upd_same);refine⟨a,_,rfl,SqT.of ha,rfl,_,_,rfl,_,_,rfl,_,_,rfl,rfl,?_⟩;exact⟨Sle.set _ (Sle.set _ (sls) (λu z=>by cases z)) (λu z=>by cases z),iteT (B:=B H) ⟨_,rfl,c⟩⟩
theorem zDd:FnScope ["net","point"] ["net","point"] (qAa qW4):=fsk
abbrev meN:List Str:=["tie","one","other","point"]
theorem zA8(F:Fun K "met_once" "met_once" qW4 f fd):v7 1 f fd ["net","point"] qZ8:=by
 refine F.okA zDd λcdv A outer s H vs Q E hr h=>?_
 obtain⟨p,net,x,rfl,⟨as,hp,pr⟩,hl,q⟩:=h;refine⟨_,qAe (qAo (qDn (N:=["net","point"]) (sc:=qAa qW4) (N':=meN) (sub:=[none,none,none,some 1]) rfl rfl (CmpOk.of (by decide +kernel)) rfl (qAx (pv 0))
  (λC s H fp=>⟨(show PG _ _ (qUp K 3 _) from qCe rfl (qAi (qAh (i:=0) (by show meN.Nodup;decide) rfl (Or.inl rfl)) (qAi (qAh (i:=1) (by show meN.Nodup;decide) rfl (Or.inl rfl)) (qAi (qAh (i:=2) (by show meN.Nodup;decide) rfl (Or.inl rfl)) qBj)))),
   qC2 (qAm qEe (qCk qDb (pv 1) (pv 3) (qAu _)) (qCk qDb (pv 2) (pv 3) (qAu _)) (qAu _)),pv 0⟩))),?_⟩
 have lA:as.length=net.length:=pr.length;refine⟨_,rfl,p,rfl,⟨_,SqL.of hp⟩,?_⟩;refine qA1 (xs:=as.map V.ref) (λj ys H2=>H2=H/\ys=(metF (net.take j) x).map V.str) ⟨rfl,rfl⟩ (λj ys H2 _ h=>by rw[h.1];exact SqL.of hp) ?_ ?_
 ·rintro j v ys H2 hx ⟨rfl,rfl⟩;obtain⟨a,t,rfl,ht,ha⟩:=qDc pr hx;have hj:=qBq ht;refine⟨a,_,rfl,SqT.of ha,rfl,_,_,rfl,_,_,rfl,_,_,rfl,rfl,?_⟩;refine⟨Sle.set _ (Sle.set _ (sls) (λu z=>by cases z)) (λu z=>by cases z),?_⟩;refine⟨_,rfl,_,rfl,rfl,_,rfl,_,rfl,rfl,rfl,_,rfl,?_⟩;have key:((!decide (V.bl (decide (V.str t.2.1=V.str x))=V.bl (decide (V.str t.2.2=V.str x))))=true)↔(decide (t.2.1=x) != decide (t.2.2=x))=true:=by
   by_cases a:t.2.1=x <;> by_cases b:t.2.2=x <;> simp[a,b]
  have sz:=qUa (net.take j) x;rw[hAn]at sz;refine qB1 (λc=>?_) (λc=>?_)
  ·have b:=key.mp c;refine⟨_,rfl,by rw[hA1];exact qAf (by omega),nxt (qBq hx) ⟨rfl,?_⟩⟩;rw[qAr ht,qJ6,hDu b,hA7];rfl
  ·have b:¬(decide (t.2.1=x) != decide (t.2.2=x))=true:=λz=>c (key.mpr z)
   refine nxt (qBq hx) ⟨rfl,?_⟩;rw[qAr ht,qJ6,hDt b,hCo]
 ·rintro ys H2 ⟨rfl,rfl⟩ r hr';rw[hA1,lA,hA9 (hA3 _)];exact q r _ (Ext.new hr' _) hr' upd_same
theorem qW0:FnScope ["net"] ["net"] (qAa qF9):=fsk
theorem qTx(F:Fun K "table_of" "table_of" qF9 f fd)(G1:v8 4 f1 fd1 ["table"] qQe "crossed")
  (G2:v8 1 f2 fd2 ["net"] qHm "ties_of")
  (G3:v8 1 f3 fd3 ["net","point"] qZ8 "met_once")
  (G4:v8 1 f4 fd4 ["net"] qMw "points"):v7 5 f fd ["net"] qK9:=by
 refine F.okA qW0 λcdv A outer s H vs Q E hr h=>?_
 obtain⟨p,net,rfl,nt,hl,q⟩:=h;have hr1:=hr.mono (j:=1) (by decide);refine⟨_,qAe (qAo (qA0 G1 hr rfl .nil qA2 (pa1 (qBk (qAd (qA0 G2 hr1 rfl .nil qA2 (pa1 (pv 0))) (qAd
  (qDn (N:=["net"]) (sc:=qAa qF9) (N':=["point","net"]) (sub:=[none,some 0]) rfl rfl (CmpOk.of (by decide +kernel)) rfl (qAx (qA0 G4 hr1 rfl .nil qA2 (pa1 (pv 0))))
   (λC s H fp=>⟨qAh (i:=0) (by show(["point","net"]:List Str).Nodup;decide) rfl (Or.inl rfl),qA4,qA0 G3 hr1 rfl .nil qA2 (qAd (pv 1) (pa1 (pv 0)))⟩)) qAs)))))),?_⟩
 refine⟨_,rfl,p,net,rfl,nt,by omega,λtl H1 e1 tl0 htl=>?_⟩;refine⟨_,rfl,p,net,rfl,nt.ext e1,hl,λpl ps H2 e2 pl0 hpl pok psr lps=>⟨pl,rfl,⟨_,SqL.of hpl⟩,?_⟩⟩;have E2:=e1.trans e2;refine qA1 (xs:=ps.map V.str) (λj ys H3=>Ext H2 H3/\∃as,ys=as.map V.ref/\Paired (LsS H3) as ((ps.take j).map (metF net))) ⟨Ext.refl _,[],rfl,.nil⟩ (λj ys H3 _ h=>SqL.of (h.1 _ _ hpl)) ?_ ?_
 ·rintro j x ys H3 hx ⟨e3,as,rfl,pr⟩;obtain⟨y,rfl,hy⟩:=qP2 hx;have hj:=qBq hy;have la:as.length=_:=pr.length;rw[hA1,hAn]at la;refine⟨sls,iteT (B:=False) ⟨_,rfl,_,rfl,p,net,y,rfl,nt.ext (E2.trans e3),hl,λr4 H4 e4 r40 hr4=>⟨?_,nxt (qBq hx) ⟨e3.trans e4,as++[r4],by rw[hA7];rfl,?_⟩⟩⟩⟩
  ·rw[hA1];exact qAf (by omega)
  ·rw[qAr hy,hA7];exact Paired.snoc (Paired.mapP pr λa t z=>e4 _ _ z) hr4
 ·rintro ys H3 ⟨e3,as,rfl,pr⟩ b hb;rw[hA1,hA9 (hA3 _)]at pr;have Xb:=Ext.new hb (.lst (as.map V.ref));refine⟨(by show 2<=sizeLine;decide),λT hT=>?_⟩;have XT:=Xb.trans (Ext.new hT (.tup [V.ref tl,V.ref b]));have E3:=(E2.trans e3).trans XT;refine⟨T,net.map (λt:Tr=>t.1),ps.map (metF net),rfl,⟨tl,b,upd_same,(e2.trans (e3.trans XT)) _ _ htl,⟨as,(Ext.new hT _) _ _ upd_same,Paired.mapP pr λa t z=>XT _ _ z⟩⟩,by rw[hA1];exact hl,by rw[hA1];exact lps,λT' S M H4 e4 t0 tf pS pM dM=>?_⟩;rw[hB3]at pS;rw[hA1]at pM;exact q T' ps S M H4 (E3.trans e4) (E3.none t0) (tf.down E3) pok psr pS pM dM
end
def ixF(ps:List Str)(x:Str):Nat:=ps.findIdx λy=>decide (y=x)
theorem qKa{ps:List Str}{x:Str}(h:x∈ps):ps[ixF ps x]?=some x/\(∀k,k<ixF ps x->ps[k]?≠some x)/\ixF ps x<ps.length:=by
 have lt:ixF ps x<ps.length:=List.findIdx_lt_length_of_exists ⟨x,h,by simp⟩;have at_:ps[ixF ps x]=x:=by
  have:=List.findIdx_getElem (w:=lt);exact hDs this
 refine⟨by rw[hA2 lt,at_],λk hk e=>?_,lt⟩;have:=List.not_of_lt_findIdx hk;have kl:k<ps.length:=Nat.lt_trans hk lt;rw[hA2 kl]at e;have e':=hAr e;simp[e']at this
def vT(ps:List Str)(t:Tr):Nat:=2^ixF ps t.2.1^^^2^ixF ps t.2.2
def vF(net:List Tr)(ps:List Str)(i:Nat):Nat:=match net[i]? with|some t=>vT ps t|none=>0
theorem qK6{net:List Tr}{ps:List Str}{i:Nat}{t:Tr}(h:net[i]?=some t):vF net ps i=vT ps t:=by unfold vF;rw[h]
def phi(M:Nat)(Z:Nat->Bool)(z:Nat):Bool:=xsum M λq=>z.testBit q && Z q
theorem qIv(M:Nat)(Z:Nat->Bool)(x y:Nat):phi M Z (x^^^y)=(phi M Z x ^^ phi M Z y):=by
 unfold phi;rw[<-qFv];refine qBb λj _=>?_
 rw[hAp];cases x.testBit j <;> cases y.testBit j <;> cases Z j <;> rfl
theorem qIu(M:Nat)(Z:Nat->Bool):phi M Z 0=false:=by
 unfold phi;rw[qBb (g:=λ_=>false) λj _=>by simp,qCn]
theorem qXj{M p:Nat}{Z:Nat->Bool}(h:p<M):phi M Z (2^p)=Z p:=by
 unfold phi;rw[qEg (l:=p) λj _ ne=>by rw[hB5,hDr (λz=>ne z.symm)];rfl,hB5];simp[h]
theorem qVw(M:Nat)(Z:Nat->Bool)(V:Nat->Nat):∀m y:Nat,phi M Z (bd V m y)=xsum m λj=>y.testBit j && phi M Z (V j)
 |0,y=>by show phi M Z 0=false;exact qIu M Z
 |m+1,y=>by
  show phi M Z (bd V m y^^^_)=(xsum m _ ^^ (y.testBit m && phi M Z (V m)));rw[qIv,qVw M Z V m y];cases y.testBit m
  ·simp[qIu]
  ·simp
theorem qUs{net:List Tr}{ps:List Str}(hp:∀x,qI0 net x->x∈ps){i m:Nat}{K:List (Nat×Nat)}{F:List Nat}(h:EIv (vF net ps) m i K F)(hi:i<m){t:Tr}(ht:net[i]?=some t) :
  (el K (vF net ps i,2^i)).1=0↔qA3 (net.take i) t.2.1=qA3 (net.take i) t.2.2:=by
 have tm:=hAs ht;have pa:t.2.1∈ps:=hp _ ⟨t,tm,.inl rfl⟩;have pb:t.2.2∈ps:=hp _ ⟨t,tm,.inr rfl⟩;have il:i<net.length:=qBq ht;have got:∀j,j<i->∃u,net[j]?=some u/\u∈net.take i/\u∈net:=λj hj=>by
  have jl:j<net.length:=by omega
  refine⟨net[j],hA2 jl,?_,hBf jl⟩;refine hAs (i:=j) ?_;rw[List.getElem?_take,hDu hj,hA2 jl]
 constructor
 ·intro r0;refine hCt λne=>?_
  obtain⟨a,b,c,d,_⟩:=h.run hi;have c':(el K (vF net ps i,2^i)).2^^^2^i<2^i:=Spn.lt (λx hx=>by
   obtain⟨f,hf,rfl⟩:=hAe.mp hx;exact h.kl f hf) b
  have e:(el K (vF net ps i,2^i)).1=bd (vF net ps) m ((el K (vF net ps i,2^i)).2^^^2^i)^^^vF net ps i:=by
   rw[qC7,qN6 hi,<-a,qBn]
  have Zix:∀ {x:Str},x∈ps->phi ps.length (λq=>decide (qA3 (net.take i) (ps.getD q "")=qA3 (net.take i) t.2.1)) (2^ixF ps x)=decide (qA3 (net.take i) x=qA3 (net.take i) t.2.1):=λ{x} hx=>by
   obtain⟨h1,_,h3⟩:=qKa hx;rw[qXj h3];show decide (qA3 (net.take i) (ps.getD (ixF ps x) "")=_)=_;rw[hA5,h1];rfl
  have p0:=congrArg (phi ps.length (λq=>decide (qA3 (net.take i) (ps.getD q "")=qA3 (net.take i) t.2.1))) e;rw[r0,qIu,qIv,qVw]at p0;have z1:(xsum m λj=>((el K (vF net ps i,2^i)).2^^^2^i).testBit j && phi ps.length (λq=>decide (qA3 (net.take i) (ps.getD q "")=qA3 (net.take i) t.2.1)) (vF net ps j))=false:=by
   rw[qBb (g:=λ_=>false) λj _=>?_,qCn];by_cases hj:j<i
   ·obtain⟨u,hu,hu2,hu3⟩:=got j hj;rw[qK6 hu];unfold vT;rw[qIv,Zix (hp _ ⟨u,hu3,.inl rfl⟩),Zix (hp _ ⟨u,hu3,.inr rfl⟩),qNx (net.take i) u hu2];simp
   ·rw[qE5 c' (by omega)];rfl
  rw[z1,qK6 ht]at p0;unfold vT at p0;rw[qIv,Zix pa,Zix pb,hDp rfl,hDr (λz=>ne z.symm)]at p0;cases p0
 ·intro e;have S:=qH1 (net.take i) (λz=>∃y,y<2^i/\bd (vF net ps) m y=2^ixF ps t.2.1^^^2^ixF ps z) (λu hu=>by
   obtain⟨j,hj,ej⟩:=hDm hu;have ji:j<i:=by rw[hAn]at hj;omega
   have uj:net[j]?=some u:=by
    have:(net.take i)[j]?=some u:=by rw[hA2 hj,ej]
    rw[List.getElem?_take,hDu ji]at this;exact this
   have jm:j<m:=by omega
   have b:bd (vF net ps) m (2^j)=2^ixF ps u.2.1^^^2^ixF ps u.2.2:=by rw[qN6 jm,qK6 uj];rfl
   have pj:2^j<2^i:=Nat.pow_lt_pow_right (by decide) ji;constructor
   ·rintro⟨y,hy,ey⟩;refine⟨y^^^2^j,hCj hy pj,?_⟩;rw[qC7,ey,b,<-hC2,qBn]
   ·rintro⟨y,hy,ey⟩;refine⟨y^^^2^j,hCj hy pj,?_⟩;rw[qC7,ey,b,Nat.xor_comm (2^ixF ps u.2.1),<-hC2,qBn]) t.2.1 t.2.2 e
  obtain⟨y,hy,ey⟩:=S.mp ⟨0,Nat.pow_pos (by decide),by rw[qFg,hCy]⟩;exact h.none hi hy (by rw[ey,qK6 ht];rfl)
theorem qKi{net:List Tr}{ps:List Str}(hp:∀x,qI0 net x->x∈ps){i m:Nat}{K:List (Nat×Nat)}{F:List Nat}(h:EIv (vF net ps) m i K F)(hi:i<m){t:Tr}(ht:net[i]?=some t)(hk:K.length=(qCc (net.take i)).length) :
  if (el K (vF net ps i,2^i)).1=0 then K.length=(qCc (net.take (i+1))).length else (K++[el K (vF net ps i,2^i)]).length=(qCc (net.take (i+1))).length:=by
 have e:=qUs hp h hi ht;rw[qAr ht,qDu];unfold qOb;rw[qG1];split
 ·rename_i z;rw[hDu (e.mp z)];exact hk
 ·rename_i z;rw[hDt (λw=>z (e.mpr w)),hAd,hAd,hk];rfl
def qU6:Sp:=λvs H Q _=>∃(p:Addr) (ms:List Nat) (m:Nat),vs=[.ref p]/\LsN H p ms/\ms.length<=24/\(∀x∈ms,x<2^m)/\∀r H',Ext H H'->H r=none->LsN H' r (redL ms)->Q (.ref r) H'
theorem qOy(k:List Nat)(s x:Nat):redL1 (k++[s]) x=rdL (redL1 k x) s:=by unfold redL1;rw[hC5];rfl
theorem qLv(xs:List Nat):(redL xs).length<=xs.length:=by
 refine qOh (P:=λxs=>(redL xs).length<=xs.length) (hA3 _) (λl t ih=>?_) xs;rw[qGh,hAd];unfold qLw;split
 ·exact hAx ih (hCl _ _)
 ·rw[hAd,hA1];exact hDe ih _
def qOa(H:Hp)(p:Addr)(K:List (Nat×Nat)):Prop:=∃as:List Addr,H p=some (.lst (as.map V.ref))/\Paired (λa f=>H a=some (.tup [iV f.1,iV f.2])) as K
def qF5:Sp:=λvs H Q _=>∃(p:Addr) (net:List Tr),vs=[.ref p]/\qA5 H p net/\net.length<=13/\∀(r:Addr) (F:List Nat) (K:List (Nat×Nat)) (ps:List Str) (H':Hp),Ext H H'->H r=none->LsN H' r F->qHd net ps->EIv (vF net ps) net.length net.length K F->K.length=(qCc net).length->Q (.ref r) H'
def qS1(aA:List Str)(x:Nat):List Str:=(List.range aA.length).filterMap λi=>if x.testBit i=true then aA[i]? else none
def qU5:Sp:=λvs H Q _=>∃(pn:Addr) (aA:List Str) (x:Nat),vs=[.ref pn,iV x]/\LsS H pn aA/\aA.length<=12/\∀r H',Ext H H'->H r=none->LsS H' r (qS1 aA x)->Q (.ref r) H'
theorem qY5(k:List (Nat×Nat))(f v:Nat×Nat):el (k++[f]) v=el1 (el k v) f:=by unfold el;rw[hC5];rfl
section
variable{P:Program}{w:World}{K:PySem.W.Frag}{mg:Str->Option Value}{base:Heap}{f f1 f2 f3 f4:Addr}{fd fd1 fd2 fd3 fd4:FuncData}
abbrev lrN:List Str:=["_law_numbers","_law_rows","_law_number","_law_row_here","_law_lead"]
abbrev lrC:List Str:=["_law_row_here","_law_number","_law_lead"]
theorem qF8:FnScope lrN ["_law_numbers"] (qAa qLn):=fsk
theorem qX3(F:Fun K "_law_reduced" "_law_reduced" qLn f fd):v7 1 f fd ["_law_numbers"] qU6:=by
 refine F.okA qF8 λcdv A outer s H vs Q E hr h=>?_
 obtain⟨p,ms,m,rfl,hp,lm,lt,q⟩:=h;refine⟨_,qAb (v0 1 qF8 (qB9 qAs))
  (qAb (qCp PassesOwn.never rfl (qAx (pv 0)) (v6 2 qF8)
   (qAb (qCp PassesOwn.never rfl (qAx (pv 1)) (v4 3 qF8)
    (qAe (qBl (qAm qEe (qAl qD7 (qAl qD7 (pv 2) (pv 3)) (qXn qPr (pv 3))) qAc (qAu _)) (qAe (v5 2 qF8 (qAl qGp (pv 2) (pv 3)))) qAw)))
   (qAe (qBl (qAm qEe (pv 2) qAc (qAu _))
    (qAb (v5 4 qF8 (qAl qD7 (pv 2) (qXn qPr (pv 2))))
    (qAe (v0 1 qF8 (qAl qHu (qDn (N:=lrN) (sc:=qAa qLn) (N':=lrC) (sub:=[none,some 2,some 4]) rfl rfl (CmpOk.of (by decide +kernel)) rfl (qAx (pv 1))
     (λC s H fp=>⟨qAh (i:=0) (by show lrC.Nodup;decide) rfl (Or.inl rfl),qA4,qDy (qAm qEe (qAl qD7 (pv 0) (pv 2)) qAc (qAu _)) (qAl qGp (pv 0) (pv 1)) (pv 0)⟩)) (qB9 (pa1 (pv 2)))))))
    qAw))))
  (qAe (qAo (pv 1)))),?_⟩
 refine⟨hAq _,λro ro0=>?_⟩;have X0:=Ext.new ro0 (.lst []);refine⟨_,rfl,p,rfl,⟨_,SqL.of (X0 _ _ hp)⟩,?_⟩;refine qCx (xs:=ms.map iV) (λi σ H'=>∃(ro:Addr) (x2 x3 x4:Option V),σ=[some (.ref p),some (.ref ro),x2,x3,x4]/\Ext H H'/\H ro=none/\LsN H' ro (redL (ms.take i))) ⟨ro,none,none,none,rfl,X0,ro0,upd_same⟩ (λi σ H' _ h=>by obtain⟨_,_,_,_,_,e,_⟩:=h;exact SqL.of (e _ _ hp)) ?_ ?_
 ·rintro i v σ H' hx ⟨ro,x2,x3,x4,rfl,e,ro0,hk⟩;obtain⟨n,rfl,hn⟩:=qD8 hx;have hi:i<ms.length:=qBq hn;have nl:=lt n (hAs hn);obtain⟨gm,_⟩:=qLu (m:=m) (ms.take i) λx hx=>lt x (List.mem_of_mem_take hx)
  have lr:=qLv (ms.take i);rw[hAn]at lr;have sn:redL (ms.take (i+1))=qLw (redL (ms.take i)) n:=by rw[qAr hn,qGh]
  refine⟨_,rfl,ro,rfl,⟨_,SqL.of hk⟩,?_⟩;refine qCx (xs:=(redL (ms.take i)).map iV) (λj σ H2=>H2=H'/\∃x3:Option V,σ=[some (.ref p),some (.ref ro),some (iV (redL1 ((redL (ms.take i)).take j) n)),x3,x4]) ⟨rfl,x3,rfl⟩ (λj σ H2 _ h=>by rw[h.1];exact SqL.of hk) ?_ ?_
  ·rintro j v σ H2 hx2 ⟨rfl,x3,rfl⟩;obtain⟨s,rfl,hs⟩:=qD8 hx2;have snz:=(gm s (hAs hs)).2;have st:redL1 ((redL (ms.take i)).take (j+1)) n=rdL (redL1 ((redL (ms.take i)).take j) n) s:=by rw[qAr hs,qOy]
   refine⟨_,rfl,_,rfl,_,_,rfl,rfl,_,rfl,_,rfl,_,_,rfl,rfl,rfl,_,rfl,?_⟩;have lt2:=qNp (redL1 ((redL (ms.take i)).take j) n) snz;have key:((!decide (V.int (Builtin.bitAnd (Builtin.bitAnd ((redL1 ((redL (ms.take i)).take j) n:Nat):Int) (s:Int)) (-(s:Int)))=V.int 0))=true)↔(redL1 ((redL (ms.take i)).take j) n).testBit (lo s)=true:=by
    rw[<-lt2];simp
   refine qB1 (λc=>?_) (λc=>?_)
   ·refine⟨_,rfl,_,rfl,_,_,rfl,rfl,rfl,some (iV s),?_⟩;rw[st,show rdL (redL1 ((redL (ms.take i)).take j) n) s=redL1 ((redL (ms.take i)).take j) n^^^s from hDu (key.mp c),show iV (redL1 ((redL (ms.take i)).take j) n^^^s)=V.int (Builtin.bitXor ((redL1 ((redL (ms.take i)).take j) n:Nat):Int) (s:Int)) by rw[qD2]];rfl
   ·refine⟨rfl,some (iV s),?_⟩;rw[st,show rdL (redL1 ((redL (ms.take i)).take j) n) s=redL1 ((redL (ms.take i)).take j) n from hDt λz=>c (key.mpr z)];rfl
  ·rintro σ H2 ⟨rfl,x3,rfl⟩;rw[hA1,hA9 (hA3 _)];refine⟨_,rfl,rfl,_,rfl,?_⟩;refine qB1 (λc=>?_) (λc=>?_)
   ·have nz:redL1 (redL (ms.take i)) n≠0:=λz=>by rw[z]at c;simp at c
    have lb:=qYq nz;refine⟨_,rfl,_,rfl,_,rfl,_,_,rfl,rfl,?_⟩;refine⟨_,rfl,ro,rfl,⟨_,SqL.of hk⟩,?_⟩;refine qA1 (xs:=(redL (ms.take i)).map iV) (λj ys H3=>H3=H2/\ys=(((redL (ms.take i)).take j).map λs=>rdL s (redL1 (redL (ms.take i)) n)).map iV) ⟨rfl,rfl⟩ (λj ys H3 _ h=>by rw[h.1];exact SqL.of hk) ?_ ?_
    ·rintro j v ys H3 hx3 ⟨rfl,rfl⟩;obtain⟨s,rfl,hs⟩:=qD8 hx3;have hj:=qBq hs;have sz:((((redL (ms.take i)).take j).map λs=>rdL s (redL1 (redL (ms.take i)) n)).map iV).length<sizeLine:=by
      rw[hA1,hA1,hAn];exact qAf (by omega)
     have ap:=qJf s (lo (redL1 (redL (ms.take i)) n));have key:((!decide (V.int (Builtin.bitAnd (s:Int) (Builtin.bitAnd ((redL1 (redL (ms.take i)) n:Nat):Int) (-((redL1 (redL (ms.take i)) n:Nat):Int))))=V.int 0))=true)↔s.testBit (lo (redL1 (redL (ms.take i)) n))=true:=by
      rw[lb,qCz,<-ap];simp
     refine⟨sls,iteT (B:=False) ?_⟩;refine⟨_,rfl,_,rfl,_,_,rfl,rfl,rfl,_,rfl,?_⟩;refine qB1 (λc3=>?_) (λc3=>?_)
     ·refine⟨_,rfl,_,rfl,_,_,rfl,rfl,sz,nxt (qBq hx3) ⟨rfl,?_⟩⟩;rw[qAr hs,hA7,hA7,hBc,hBc,show rdL s (redL1 (redL (ms.take i)) n)=s^^^redL1 (redL (ms.take i)) n from hDu (key.mp c3),show iV (s^^^redL1 (redL (ms.take i)) n)=V.int (Builtin.bitXor (s:Int) ((redL1 (redL (ms.take i)) n:Nat):Int)) by rw[qD2]]
     ·refine⟨_,rfl,sz,nxt (qBq hx3) ⟨rfl,?_⟩⟩;rw[qAr hs,hA7,hA7,hBc,hBc,show rdL s (redL1 (redL (ms.take i)) n)=s from hDt λz=>c3 (key.mpr z)]
    ·rintro ys H3 ⟨rfl,rfl⟩ l1 hl1;rw[hA1,hA9 (hA3 _)];have n1:=Ext.new hl1 (.lst (((redL (ms.take i)).map λs=>rdL s (redL1 (redL (ms.take i)) n)).map iV));refine⟨_,rfl,(by show 1<=sizeLine;decide),λl2 hl2=>?_⟩;have n2:=Ext.new hl2 (.lst [iV (redL1 (redL (ms.take i)) n)]);refine⟨l1,l2,_,_,rfl,rfl,n2 _ _ upd_same,upd_same,?_,λl3 hl3=>?_⟩
     ·rw[hA1,hA1];show _+1<=sizeLine;exact hAz (qAf (by omega))
     ·refine⟨l3,_,_,_,rfl,((e.trans n1).trans n2).trans (Ext.new hl3 _),((e.trans n1).trans n2).none hl3,?_⟩;rw[sn];unfold qLw LsN;rw[hDt nz,upd_same,hA7];rfl
   ·have z:redL1 (redL (ms.take i)) n=0:=by
     have:(redL1 (redL (ms.take i)) n:Int)=0:=by simpa using c
     omega
    refine⟨ro,_,_,_,rfl,e,ro0,?_⟩;rw[sn];unfold qLw;rw[hDu z];exact hk
 ·rintro σ H' ⟨ro,x2,x3,x4,rfl,e,ro0,hk⟩;rw[hA1,hA9 (hA3 _)]at hk;exact⟨_,rfl,q ro _ e ro0 hk⟩
theorem zAl:FnScope ["_law_names_here","_law_number"] ["_law_names_here","_law_number"] (qAa qLm):=fsk
abbrev lwN:List Str:=["_law_k","_law_name","_law_number"]
theorem qX2(F:Fun K "_law_row" "_law_row" qLm f fd)(me:mg "enumerate"=none):v7 1 f fd ["_law_names_here","_law_number"] qU5:=by
 refine F.okA zAl λcdv A outer s H vs Q E hr h=>?_
 obtain⟨pn,aA,x,rfl,hn,ln,q⟩:=h;refine⟨_,qAe (qAo (qDn (N:=["_law_names_here","_law_number"]) (sc:=qAa qLm) (N':=lwN) (sub:=[none,none,some 1]) rfl rfl (CmpOk.of (by decide +kernel)) rfl (qLz rfl me (pa1 (pv 0)))
   (λC s H fp=>⟨(show PG _ _ (qUp K 2 _) from qCe rfl (qAi (qAh (i:=0) (by show lwN.Nodup;decide) rfl (Or.inl rfl)) (qAi (qAh (i:=1) (by show lwN.Nodup;decide) rfl (Or.inl rfl)) qBj))),
    qC2 (qAm qDb (qAl qD7 (qAl qVy (pv 2) (pv 0)) qAc) qAc (qAu _)),pv 1⟩))),?_⟩
 refine⟨_,rfl,pn,_,rfl,SqL.of hn,?_⟩;rw[hA1];refine qEi (λi ys H'=>Ext H H'/\ys=((List.range i).filterMap λi=>if x.testBit i=true then aA[i]? else none).map V.str) ⟨Ext.refl _,rfl⟩ (λi ys H' _ p=>SqL.of (p.1 _ _ hn)) ?_ ?_
 ·rintro i ys H' T hi ⟨e,rfl⟩ hT;have gd:(aA.map V.str).getD i .non = .str aA[i]:=by rw[hA5,hAj,hA2 hi];rfl
  have e2:=e.trans (Ext.new hT (.tup [V.int (i:Nat),(aA.map V.str).getD i .non]));refine⟨T,_,rfl,SqT.of upd_same,rfl,_,_,rfl,_,_,rfl,rfl,?_⟩;refine⟨Sle.set _ (sls) (λu z=>by cases z),?_⟩;refine⟨_,rfl,_,rfl,_,_,rfl,rfl,(by show(0:Int)<=_;omega),_,_,rfl,rfl,rfl,_,rfl,?_⟩;have fm:((List.range (i+1)).filterMap λi=>if x.testBit i=true then aA[i]? else none)=((List.range i).filterMap λi=>if x.testBit i=true then aA[i]? else none)++(if x.testBit i=true then [aA[i]] else []):=by
   rw[hCd,hCc];congr 1;by_cases b:x.testBit i=true
   ·simp[b,hA2 hi]
   ·simp[b]
  have sz:=hCh (λi=>if x.testBit i=true then aA[i]? else none) (List.range i);rw[hBi]at sz;have key:(decide (V.int (Builtin.bitAnd ((x:Int) / 2^(((i:Nat):Int)).toNat) 1)=V.int 1)=true)↔x.testBit i=true:=by
   rw[decide_eq_true_iff,V.int.injEq,hBr,qQh];by_cases b:x.testBit i=true
   ·simp[b]
   ·simp[b]
  refine qB1 (λc=>?_) (λc=>?_)
  ·have b:=key.mp c;refine⟨_,rfl,by rw[hA1];exact qAf (by omega),nxt hi ⟨e2,?_⟩⟩;rw[fm,hDu b,hA7,gd];rfl
  ·have b:¬x.testBit i=true:=λz=>c (key.mpr z)
   refine nxt hi ⟨e2,?_⟩;rw[fm,hDt b,hCo]
 ·rintro ys H' ⟨e,rfl⟩ r hr';exact q r _ (e.trans (Ext.new hr' _)) (e.none hr') upd_same
end
theorem qOa.ext{H H':Hp}{p:Addr}{K:List (Nat×Nat)}(h:qOa H p K)(e:Ext H H'):qOa H' p K:=by
 obtain⟨as,h1,h2⟩:=h;exact⟨as,e _ _ h1,Paired.mapP h2 λa t z=>e _ _ z⟩
section
variable{P:Program}{w:World}{K:PySem.W.Frag}{mg:Str->Option Value}{base:Heap}{f f1 f2 f3 f4:Addr}{fd fd1 fd2 fd3 fd4:FuncData}
abbrev leN:List Str:=["_law_net_here","_law_knots","_law_kept","_law_found","_law_place","_law_tie","_law_ends_here","_law_mine","_law_far","_law_more"]
theorem qCj:FnScope leN ["_law_net_here"] (qAa qFl):=fsk
theorem qT3(F:Fun K "_law_even" "_law_even" qFl f fd)(mso:mg "sorted"=none)(mst:mg "set"=none)(me:mg "enumerate"=none):v7 1 f fd ["_law_net_here"] qF5:=by
 refine F.okA qCj λcdv A outer s H vs Q E hr h=>?_
 obtain⟨p,net,rfl,⟨as,hp,pr⟩,hl,q⟩:=h;refine⟨_,qAb (qVs (λσ H1=>∃(kn:Addr) (ps:List Str),σ=[some (.ref p),some (.ref kn),none,none,none,none,none,none,none,none]/\Ext H H1/\LsS H1 kn ps/\qHd net ps/\ps.length<=26) (v0 1 qCj (qAg (qC3 rfl) rfl mso qBa (pa1 (qBf (qKq rfl) rfl mst qKu (pa1 (qAl qHu
  (qCr (N:=leN) (sc:=qAa qFl) (N':=["_law_tie"]) (sub:=[none]) (qAx (pv 0)) (λC s H fp=>⟨qA4,qA6 (show IxR _ (qLx K) from qA7) (pv 0) qAc (λ_ _=>rfl)⟩))
  (qCr (N:=leN) (sc:=qAa qFl) (N':=["_law_tie"]) (sub:=[none]) (qAx (pv 0)) (λC s H fp=>⟨qA4,qA6 (show IxR _ (qLx K) from qA7) (pv 0) qAc (λ_ _=>rfl)⟩)))))))))
  (qAb (v0 2 qCj (qB9 qAs))
  (qAb (v0 3 qCj (qB9 qAs))
  (qAb (qCp PassesOwn.never rfl (qLz rfl me (pa1 (pv 0))) (qCe rfl (qAi (v4 4 qCj) (qAi (v4 5 qCj) qBj)))
   (qAb (v0 6 qCj (qAl qGp (qAl qJ0 qAc (qEm hAu PySem.F.slot_list_index PySem.F.type_list_index qNl (pv 1) (pa1 (qA6 qA7 (pv 5) qAc (λ_ _=>rfl))))) (qAl qJ0 qAc (qEm hAu PySem.F.slot_list_index PySem.F.type_list_index qNl (pv 1) (pa1 (qA6 qA7 (pv 5) qAc (λ_ _=>rfl)))))))
   (qAb (v0 7 qCj (qAl qJ0 qAc (pv 4)))
   (qAb (qCp PassesOwn.never rfl (qAx (pv 2)) (qCe rfl (qAi (v4 8 qCj) (qAi (v4 9 qCj) qBj)))
    (qAe (qBl (qAm qEe (qAl qD7 (qAl qD7 (pv 6) (pv 8)) (qXn qPr (pv 8))) qAc (qAu _))
     (qAb (v0 6 qCj (qAl qGp (pv 6) (pv 8)))
     (qAe (v0 7 qCj (qAl qGp (pv 7) (pv 9))))) qAw)))
   (qAe (qBl (qAm qDb (pv 6) qAc (qAu _))
    (qAe (qCa (qEm hAu hB6 hB7 qBt (pv 3) (pa1 (pv 7)))))
    (qAe (qCa (qEm hAu hB6 hB7 qBt (pv 2) (pa1 (qBk (qAd (pv 6) (pa1 (pv 7))))))))))))))
  (qAe (qAo (pv 3)))))),?_⟩
 refine⟨?_,?_⟩
 ·refine⟨_,rfl,p,rfl,⟨_,SqL.of hp⟩,?_⟩;refine qCd (λt=>t.2.1) hp pr (by omega) (λa t ha C B c=>⟨sls,?_⟩) ?_
  ·exact iteT (B:=B H) ⟨_,rfl,a,_,_,_,rfl,rfl,SqT.of ha,(by exact qAv (j:=1) rfl),c⟩
  intro l1 hl1;have n1:=Ext.new hl1 (.lst ((net.map λt=>t.2.1).map V.str));refine⟨_,rfl,p,rfl,⟨_,SqL.of (n1 _ _ hp)⟩,?_⟩;refine qCd (λt=>t.2.2) (n1 _ _ hp) (Paired.mapP pr λa t z=>n1 _ _ z) (by omega) (λa t ha C B c=>⟨sls,?_⟩) ?_
  ·exact iteT (B:=B (upd H l1 (.lst ((net.map λt=>t.2.1).map V.str)))) ⟨_,rfl,a,_,_,_,rfl,rfl,SqT.of ha,(by exact qAv (j:=2) rfl),c⟩
  intro l2 hl2;have n2:=n1.trans (Ext.new hl2 (.lst ((net.map λt=>t.2.2).map V.str)));refine⟨l1,l2,_,_,rfl,rfl,(Ext.new hl2 _) _ _ upd_same,upd_same,?_,λl3 hl3=>?_⟩
  ·simp only[hA1];exact hAz (qAf (by omega))
  have n3:=n2.trans (Ext.new hl3 (.lst ((net.map λt=>t.2.1).map V.str++(net.map λt=>t.2.2).map V.str)));refine⟨l3,(net.map λt=>t.2.1)++(net.map λt=>t.2.2),rfl,SqL.of (by rw[upd_same,hA7]),?_,λr1 ss hr1 nd ln mem=>?_⟩
  ·simp only[hAd,hA1];omega
  simp only[hAd,hA1]at ln;refine⟨r1,ss,rfl,upd_same,by omega,λkn ps hkn pm srt=>?_⟩;have E1:=(n3.trans (Ext.new hr1 _)).trans (Ext.new hkn (.lst (ps.map V.str)));have pok:qHd net ps:=⟨pm.nodup_iff.mpr nd,λx=>by
   rw[pm.mem_iff,mem,hAh,hAe,hAe];unfold qI0;constructor
   ·rintro(⟨t,ht,rfl⟩|⟨t,ht,rfl⟩)
    ·exact⟨t,ht,.inl rfl⟩
    ·exact⟨t,ht,.inr rfl⟩
   ·rintro⟨t,ht,rfl|rfl⟩
    ·exact .inl ⟨t,ht,rfl⟩
    ·exact .inr ⟨t,ht,rfl⟩⟩
  have lps:ps.length<=26:=by rw[pm.length_eq];omega
  exact⟨kn,ps,rfl,E1,upd_same,pok,lps⟩
 rintro σ H1 ⟨kn,ps,rfl,E1,hk1,pok,lps⟩;refine⟨hAq _,λke ke1=>?_⟩;have Xk:=Ext.new ke1 (.lst []);refine⟨hAq _,λfo fo1=>?_⟩;have Xf:=Xk.trans (Ext.new fo1 (.lst []));have ke0:=E1.none ke1;have fo0:=E1.none (Xk.none fo1);have kefo:ke≠fo:=qAq (upd_same:upd H1 ke (.lst []) ke=_) fo1;have lA:as.length=net.length:=pr.length;have hpx:∀x,qI0 net x->x∈ps:=λx hx=>(pok.2 x).mpr hx
 refine⟨_,rfl,p,_,rfl,SqL.of (Xf _ _ (E1 _ _ hp)),?_⟩;rw[hA1,lA];refine qKf (λi σ H2=>∃(Kp:List (Nat×Nat)) (Fd:List Nat) (x4 x5 x6 x7 x8 x9:Option V),σ=[some (.ref p),some (.ref kn),some (.ref ke),some (.ref fo),x4,x5,x6,x7,x8,x9]/\Ext H1 H2/\qOa H2 ke Kp/\LsN H2 fo Fd/\EIv (vF net ps) net.length i Kp Fd/\Kp.length=(qCc (net.take i)).length)
  ⟨[],[],none,none,none,none,none,none,rfl,Xf,⟨[],(Ext.new fo1 _) _ _ upd_same,.nil⟩,upd_same,EIv.start _ _,rfl⟩ ?_ ?_ ?_
 ·rintro i σ H2 _ ⟨Kp,Fd,x4,x5,x6,x7,x8,x9,_,e2,_⟩;exact SqL.of ((E1.trans e2) _ _ hp)
 ·rintro i σ H2 T hi ⟨Kp,Fd,x4,x5,x6,x7,x8,x9,rfl,e2,kp,fd,ei,kw⟩ hT;have hia:i<as.length:=by omega
  have g2:(as.map V.ref).getD i .non = .ref as[i]:=by rw[hA5,hAj,hA2 hia];rfl
  obtain⟨t,ht,hta⟩:=qBw pr (hA2 hia);dsimp only;rw[g2];have Y1:=Ext.new hT (.tup [V.int (i:Nat),V.ref as[i]]);have E2:=(E1.trans e2).trans Y1;obtain⟨a1,a2,a3⟩:=qKa (hpx t.2.1 ⟨t,hAs ht,.inl rfl⟩);obtain⟨b1,b2,b3⟩:=qKa (hpx t.2.2 ⟨t,hAs ht,.inr rfl⟩);have hk2:=(e2.trans Y1) _ _ hk1;refine⟨T,_,rfl,SqT.of upd_same,rfl,_,_,rfl,_,_,rfl,rfl,?_⟩;refine⟨_,rfl,.inl ⟨rfl,_,SqL.of hk2⟩,_,rfl,as[i],_,_,_,rfl,rfl,SqT.of (E2 _ _ hta),(by exact qAv (j:=1) rfl),kn,ps,t.2.1,ixF ps t.2.1,rfl,rfl,hk2,a1,a2,by omega,_,_,rfl,rfl,⟨by omega,by omega,by decide⟩,?_⟩;refine⟨_,rfl,.inl ⟨rfl,_,SqL.of hk2⟩,_,rfl,as[i],_,_,_,rfl,rfl,SqT.of (E2 _ _ hta),(by exact qAv (j:=2) rfl),kn,ps,t.2.2,ixF ps t.2.2,rfl,rfl,hk2,b1,b2,by omega,_,_,rfl,rfl,⟨by omega,by omega,by decide⟩,_,_,rfl,rfl,?_⟩;have vv:(λi j:Int=>V.int (Builtin.bitXor i j)) (1*2^(((ixF ps t.2.1:Nat):Int)).toNat) (1*2^(((ixF ps t.2.2:Nat):Int)).toNat)=iV (vF net ps i):=by
   show V.int (Builtin.bitXor _ _)=_;rw[qIi,qIi,qD2,qK6 ht];rfl
  rw[vv];refine⟨_,rfl,_,_,rfl,rfl,⟨by omega,by omega,by decide⟩,?_⟩;have wv:(λi j:Int=>V.int (i*2^j.toNat)) 1 ((i:Nat):Int)=iV (2^i):=by
   show V.int (1*2^_)=_;rw[qIi]
  rw[wv];obtain⟨ks,hks,pks⟩:=kp.ext Y1;have lk:ks.length=Kp.length:=pks.length;have lKp:Kp.length<=13:=by have:=ei.len;omega
  refine⟨_,rfl,ke,rfl,⟨_,SqL.of hks⟩,?_⟩;refine qCx (xs:=ks.map V.ref) (λj σ H3=>H3=upd H2 T (.tup [V.int (i:Nat),V.ref as[i]])/\∃(x8 x9:Option V),σ=[some (.ref p),some (.ref kn),some (.ref ke),some (.ref fo),some (.int (i:Nat)),some (.ref as[i]),some (iV (el (Kp.take j) (vF net ps i,2^i)).1),some (iV (el (Kp.take j) (vF net ps i,2^i)).2),x8,x9])
   ⟨rfl,x8,x9,rfl⟩ (λj σ H3 _ h=>by rw[h.1];exact SqL.of hks) ?_ ?_
  ·rintro j v σ H3 hx3 ⟨rfl,x8,x9,rfl⟩;obtain⟨c,rfl,hc⟩:=qLt hx3;obtain⟨g,hg,hcg⟩:=qBw pks hc;have gnz:=(ei.k1 g (hAs hg)).1;have st:el (Kp.take (j+1)) (vF net ps i,2^i)=el1 (el (Kp.take j) (vF net ps i,2^i)) g:=by rw[qAr hg,qY5]
   refine⟨c,_,rfl,SqT.of hcg,rfl,_,_,rfl,_,_,rfl,rfl,?_⟩;refine⟨_,rfl,_,rfl,_,_,rfl,rfl,_,rfl,_,rfl,_,_,rfl,rfl,rfl,_,rfl,?_⟩;rw[st];generalize el (Kp.take j) (vF net ps i,2^i)=ev;have lt2:=qNp ev.1 gnz;have key:((!decide (V.int (Builtin.bitAnd (Builtin.bitAnd ((ev.1:Nat):Int) ((g.1:Nat):Int)) (-((g.1:Nat):Int)))=V.int 0))=true)↔ev.1.testBit (lo g.1)=true:=by
    rw[<-lt2];simp
   refine qB1 (λc2=>?_) (λc2=>?_)
   ·refine⟨_,rfl,_,rfl,_,_,rfl,rfl,_,rfl,_,rfl,_,_,rfl,rfl,rfl,some (iV g.1),some (iV g.2),?_⟩;rw[show el1 ev g=(ev.1^^^g.1,ev.2^^^g.2) from hDu (key.mp c2),show iV (ev.1^^^g.1,ev.2^^^g.2).1=V.int (Builtin.bitXor ((ev.1:Nat):Int) ((g.1:Nat):Int)) by rw[qD2],show iV (ev.1^^^g.1,ev.2^^^g.2).2=V.int (Builtin.bitXor ((ev.2:Nat):Int) ((g.2:Nat):Int)) by rw[qD2]];rfl
   ·refine⟨rfl,some (iV g.1),some (iV g.2),?_⟩;rw[show el1 ev g=ev from hDt λz=>c2 (key.mpr z)];rfl
  ·rintro σ H3 ⟨rfl,x8,x9,rfl⟩;rw[hA1,lk,hA9 (hA3 _)];have nx:=ei.next hi;have wd:=qKi hpx ei hi ht kw;have fd3:=Y1 _ _ fd;have lF:Fd.length<=13:=by have:=ei.len;omega
   revert nx wd;generalize el Kp (vF net ps i,2^i)=ev;intro nx wd;refine⟨_,rfl,rfl,_,rfl,?_⟩;refine qB1 (λc2=>?_) (λc2=>?_)
   ·have z:ev.1=0:=by
     have:((ev.1:Nat):Int)=0:=by simpa using c2
     omega
    rw[hDu z]at nx wd;refine⟨_,rfl,.inl ⟨rfl,_,SqL.of fd3⟩,_,rfl,fo,_,_,rfl,rfl,fd3,by rw[hA1];exact qAf (by omega),?_⟩;refine⟨Kp,Fd++[ev.2],_,_,_,_,_,_,rfl,(e2.trans Y1).over (Xk.none fo1) _,⟨ks,by rw[qAj kefo];exact hks,Paired.mapP pks λa u z=>?_⟩,?_,nx,wd⟩
    ·have ne:a≠fo:=λw=>by
      rw[w]at z;have f3:upd H2 T (.tup [V.int (i:Nat),V.ref as[i]]) fo=some (.lst (Fd.map iV)):=fd3;rw[f3]at z;cases z
     rw[qAj ne];exact z
    ·unfold LsN;rw[upd_same,hA7];rfl
   ·have z:¬ev.1=0:=λw=>c2 (by rw[w];rfl)
    rw[hDt z]at nx wd;refine⟨_,rfl,.inl ⟨rfl,_,SqL.of hks⟩,_,rfl,_,rfl,(by show 2<=sizeLine;decide),λT2 hT2=>?_⟩;have Y2:=Ext.new hT2 (.tup [iV ev.1,iV ev.2]);refine⟨ke,_,_,rfl,rfl,Y2 _ _ hks,by rw[hA1];exact qAf (by omega),?_⟩;refine⟨Kp++[ev],Fd,_,_,_,_,_,_,rfl,((e2.trans Y1).trans Y2).over ke1 _,⟨ks++[T2],by rw[upd_same,hA7];rfl,Paired.snoc (Paired.mapP pks λa u z=>?_) ?_⟩,?_,nx,wd⟩
    ·have z':=Y2 _ _ z;have ne:a≠ke:=λw=>by rw[w,Y2 _ _ hks]at z';cases z'
     rw[qAj ne];exact z'
    ·have ne:T2≠ke:=λw=>by rw[w,hks]at hT2;cases hT2
     rw[qAj ne,upd_same]
    ·unfold LsN;rw[qAj (Ne.symm kefo)];exact Y2 _ _ fd3
 ·rintro σ H2 ⟨Kp,Fd,x4,x5,x6,x7,x8,x9,rfl,e2,kp,fd,ei,kw⟩;rw[hA9 (hA3 _)]at kw;exact⟨_,rfl,q fo Fd Kp ps _ (E1.trans e2) fo0 fd pok ei kw⟩
end
abbrev nmS(net:List Tr):List Str:=net.map λt=>t.1
theorem zDo{net:List Tr}{i:Nat}{t:Tr}(h:net[i]?=some t):(nmS net)[i]?=some t.1:=by rw[hAj,h];rfl
theorem zBj{net:List Tr}(nd:(nmS net).Nodup){t u:Tr}(ht:t∈net)(hu:u∈net)(e:t.1=u.1):t=u:=by
 induction net with
 |nil=>cases ht
 |cons v r ih =>
  have nd':(v.1 :: nmS r).Nodup:=nd;obtain⟨n1,n2⟩:=hBq.mp nd';rcases hA8.mp ht with a|a <;> rcases hA8.mp hu with b|b
  ·rw[a,b]
  ·subst a;exact absurd (hAe.mpr ⟨u,b,e.symm⟩) n1
  ·subst b;exact absurd (hAe.mpr ⟨t,a,e⟩) n1
  ·exact ih n2 a b
theorem qYo{net:List Tr}(nd:(nmS net).Nodup){t:Tr}(ht:t∈net)(x:Str):t.1∈metF net x↔(decide (t.2.1=x) != decide (t.2.2=x))=true:=by
 unfold metF;rw[hAe];constructor
 ·rintro⟨u,hu,e⟩;obtain⟨h1,h2⟩:=hBb.mp hu;rw[<-zBj nd h1 ht e];exact h2
 ·intro h;exact⟨t,hBb.mpr ⟨ht,h⟩,rfl⟩
theorem bx:∀a b:Bool,decide ((a != b)=true)=(a ^^ b):=λa b=>by cases a <;> cases b <;> rfl
theorem qNz{α β:Type}{f g:α->Option β}:∀ {l:List α},(∀i∈l,f i=g i)->l.filterMap f=l.filterMap g
 |[],_=>rfl
 |a :: l,h=>by rw[hC4,hC4,h a hA6,qNz λi hi=>h i (hA4 _ hi)]
def gT(net:List Tr)(g:Tr->Bool)(i:Nat):Bool:=match net[i]? with|some t=>g t|none=>false
def atX(x:Str)(t:Tr):Bool:=decide (t.2.1=x) ^^ decide (t.2.2=x)
theorem zAc{net:List Tr}(nd:(nmS net).Nodup)(x:Str){j:Nat}(hj:j<net.length):(maskF (nmS net) (metF net x)).testBit j=gT net (atX x) (net.length-1-j):=by
 rw[qGt,hA1,hDp hj,hCn];have hi:net.length-1-j<net.length:=by omega
 have ht:=hA2 hi;unfold gT;rw[zDo ht,ht];have e:(∃n,some net[net.length-1-j].1=some n/\n∈metF net x)↔net[net.length-1-j].1∈metF net x:=⟨λ⟨n,h1,h2⟩=>by cases h1;exact h2,λh=>⟨_,rfl,h⟩⟩;exact(decide_eq_decide.mpr (e.trans (qYo nd (hBf hi) x))).trans (bx _ _)
theorem zB8{net:List Tr}(nd:(nmS net).Nodup)(x:Str)(z:Nat):dot net.length z (maskF (nmS net) (metF net x))=xsum net.length λi=>z.testBit (net.length-1-i) && gT net (atX x) i:=by
 unfold dot;rw[<-qMo (λi=>z.testBit (net.length-1-i) && gT net (atX x) i)];refine qBb λj hj=>?_
 rw[zAc nd x hj,show net.length-1-(net.length-1-j)=j by omega]
theorem qVt{ps:List Str}{x y:Str}(hx:x∈ps)(hy:y∈ps):(2^ixF ps x).testBit (ixF ps y)=decide (x=y):=by
 rw[hB5];refine decide_eq_decide.mpr ⟨λe=>?_,λe=>by rw[e]⟩;have h1:=(qKa hx).1;have h2:=(qKa hy).1;rw[e,h2]at h1;exact(hAr h1).symm
theorem zD0{net:List Tr}{ps:List Str}(hp:∀x,qI0 net x->x∈ps){x:Str}(hx:x∈ps)(y:Nat):(bd (vF net ps) net.length y).testBit (ixF ps x)=xsum net.length λi=>y.testBit i && gT net (atX x) i:=by
 rw[qN7];refine qBb λi hi=>?_
 have ht:=hA2 hi;rw[qK6 ht];unfold gT vT atX;rw[ht,hAp,qVt (hp _ ⟨_,hBf hi,.inl rfl⟩) hx,qVt (hp _ ⟨_,hBf hi,.inr rfl⟩) hx]
theorem qMi{net:List Tr}{ps:List Str}(hp:∀x,qI0 net x->x∈ps)(y:Nat):bd (vF net ps) net.length y=0↔∀x∈ps,(bd (vF net ps) net.length y).testBit (ixF ps x)=false:=by
 constructor
 ·intro e x _;rw[e];simp
 ·intro h;refine hBa λq=>?_
  rw[Nat.zero_testBit];by_cases c:∃x∈ps,ixF ps x=q
  ·obtain⟨x,hx,rfl⟩:=c;exact h x hx
  ·rw[qN7,qBb (g:=λ_=>false) λi hi=>?_,qCn];have ht:=hA2 hi;rw[qK6 ht];unfold vT;rw[hAp,hB5,hB5,hDr λz=>c ⟨_,hp _ ⟨_,hBf hi,.inl rfl⟩,z⟩,hDr λz=>c ⟨_,hp _ ⟨_,hBf hi,.inr rfl⟩,z⟩];simp
theorem zE7{net:List Tr}{ps ps':List Str}(nd:(nmS net).Nodup)(pk:qHd net ps)(pk':qHd net ps'){z:Nat}(hz:z<2^net.length):(∀x∈ps,dot net.length z (maskF (nmS net) (metF net x))=false)↔bd (vF net ps') net.length (rv net.length z)=0:=by
 have hp:∀x,qI0 net x->x∈ps':=λx hx=>(pk'.2 x).mpr hx
 rw[qMi hp];have e:∀x∈ps',dot net.length z (maskF (nmS net) (metF net x))=(bd (vF net ps') net.length (rv net.length z)).testBit (ixF ps' x):=λx hx=>by
  rw[zB8 nd,zD0 hp hx];refine qBb λi hi=>?_
  rw[qC5,hDp hi,hCn]
 constructor
 ·intro h x hx;rw[<-e x hx];exact h x ((pk.2 x).mpr ((pk'.2 x).mp hx))
 ·intro h x hx;have hx':=(pk'.2 x).mpr ((pk.2 x).mp hx);rw[e x hx'];exact h x hx'
theorem qZ5{m:Nat}{F:List Nat}(hF:∀x∈F,x<2^m)(z:Nat):Spn (F.map (rv m)) z↔z<2^m/\Spn F (rv m z):=by
 constructor
 ·intro h;refine⟨Spn.lt (λx hx=>?_) h,?_⟩
  ·obtain⟨y,_,rfl⟩:=hAe.mp hx;exact zAu m y
  ·induction h with
   |zero=>rw[qGg];exact .zero
   |add hm _ ih =>
    obtain⟨y,hy,rfl⟩:=hAe.mp hm;rw[qQw,qW6 (hF y hy)];exact .add hy ih
 ·rintro⟨hz,h⟩;rw[<-qW6 hz];generalize rv m z=y at h
  induction h with
  |zero=>rw[qGg];exact .zero
  |add hm _ ih=>rw[qQw];exact .add (hBd hm) ih
theorem qW8{aA:List Str}(x:Nat):rowM aA (rv aA.length x)=qS1 aA x:=by
 unfold rowM qS1;have:∀i∈List.range aA.length,(if (rv aA.length x).testBit (aA.length-1-i)=true then aA[i]? else none)=(if x.testBit i=true then aA[i]? else none):=λi hi=>by
  have hi':=hB4.mp hi;rw[qC5,hDp (by omega),hCn,show aA.length-1-(aA.length-1-i)=i by omega]
 exact qNz this
theorem qJu{aA:List Str}{z:Nat}(nz:z≠0)(lt:z<2^aA.length):∃n rest,rowM aA z=n :: rest/\aA[aA.length-1-z.log2]?=some n:=by
 have l:z.log2<aA.length:=(Nat.log2_lt nz).mpr lt;have hi:aA.length-1-z.log2<aA.length:=by omega
 have sp:List.range aA.length=List.range (aA.length-1-z.log2)++((aA.length-1-z.log2) :: (List.range z.log2).map λk=>aA.length-1-z.log2+1+k):=by
  have e:aA.length=(aA.length-1-z.log2)+(1+z.log2):=by omega
  conv=>lhs;rw[e]
  rw[List.range_add];congr 1;rw[Nat.add_comm 1 z.log2,List.range_succ_eq_map,hAv,hB3];congr 1;refine hBv λk _=>?_
  show _+(k+1)=_;omega
 refine⟨aA[aA.length-1-z.log2],((List.range z.log2).map λk=>aA.length-1-z.log2+1+k).filterMap λi=>if z.testBit (aA.length-1-i)=true then aA[i]? else none,?_,hA2 hi⟩;unfold rowM;rw[sp,hCc,hC4];have z1:(List.range (aA.length-1-z.log2)).filterMap (λi=>if z.testBit (aA.length-1-i)=true then aA[i]? else none)=[]:=by
  rw[List.filterMap_eq_nil_iff];intro i hi';have:=hB4.mp hi';rw[qMq (by omega)];rfl
 rw[z1,show aA.length-1-(aA.length-1-z.log2)=z.log2 by omega,hDj nz,hDu rfl,hA2 hi];rfl
theorem qM6{l:List Str}(h:qD5 l){i j:Nat}{a b:Str}(hij:i<j)(ha:l[i]?=some a)(hb:l[j]?=some b):qLl a b=true:=by
 obtain⟨hi,rfl⟩:=hAc.mp ha;obtain⟨hj,rfl⟩:=hAc.mp hb;exact(List.pairwise_iff_getElem.mp h) i j hi hj hij
theorem qTg{aA:List Str}(rn:qD5 aA){M:List Nat}(rr:RR M)(lt:∀z∈M,z<2^aA.length)(d:M.Pairwise λa b=>b<=a):Srt (M.map (rowM aA)):=by
 rw[Srt,hCa];have nd:=rr.nd;refine hCi (λ{a b} ha hb r=>?_) (List.Pairwise.and d nd);obtain⟨le,ne⟩:=r;obtain⟨n1,r1,e1,g1⟩:=qJu (rr.nz a ha) (lt a ha);obtain⟨n2,r2,e2,g2⟩:=qJu (rr.nz b hb) (lt b hb);have ll:b.log2<a.log2:=by
  have l1:b.log2<=a.log2:=by
   rcases hCx a.log2 b.log2 with q|q
   ·have h1:a<2^b.log2:=hAl hD1 (hDd (by decide) q);have h2:=Nat.log2_self_le (rr.nz b hb);omega
   ·exact q
  rcases hCx b.log2 a.log2 with q|q
  ·exact q
  ·have e:a.log2=b.log2:=by omega
   have h1:=rr.ne ha hb ne;rw[<-e,rr.self ha]at h1;cases h1
 have la:a.log2<aA.length:=(Nat.log2_lt (rr.nz a ha)).mpr (lt a ha);have s:=qM6 rn (by omega) g1 g2;rw[e1,e2];unfold ltL;have n12:¬n2=n1:=λz=>by rw[z,qDv]at s;cases s
 rw[hDt n12];cases q:qLl n2 n1 with
 |false=>rfl
 |true=>have:=qC4 s q;rw[qDv]at this;cases this
structure Made(net:List Tr)(ps ps':List Str)(S M:List Nat)(K:List (Nat×Nat))(F:List Nat):Prop where
 rs:qD5 (nmS net)
 pk:qHd net ps
 pk':qHd net ps'
 pS:S.Perm (red (ps.map λx=>maskF (nmS net) (metF net x)))
 pM:M.Perm (red (qEf S net.length))
 dM:M.Pairwise λa b=>b<=a
 ei:EIv (vF net ps') net.length net.length K F
 kw:K.length=(qCc net).length
theorem qVl{l:List Str}(h:qD5 l):l.Nodup:=List.Pairwise.imp (λ{a b} z e=>by rw[e,qDv]at z;cases z) h
section
variable{net:List Tr}{ps ps':List Str}{S M:List Nat}{K:List (Nat×Nat)}{F:List Nat}
theorem Made.rrS(h:Made net ps ps' S M K F):RR S:=(qD6 _).perm h.pS
theorem Made.ltS(h:Made net ps ps' S M K F):∀s∈S,s<2^net.length:=λs hs=>by
 have:=qVm (xs:=ps.map λx=>maskF (nmS net) (metF net x)) (m:=net.length) (λy hy=>by
  obtain⟨x,_,rfl⟩:=hAe.mp hy;have:=qNn (nmS net) (metF net x);rw[hA1]at this;exact this) s (h.pS.mem_iff.mp hs)
 exact this
theorem Made.spM(h:Made net ps ps' S M K F)(z:Nat):Spn (red (qEf S net.length)) z↔z<2^net.length/\∀x∈ps,dot net.length z (maskF (nmS net) (metF net x))=false:=by
 rw[qDm,zCc h.rrS h.ltS];refine and_congr_right λ_=>⟨λa x hx=>?_,λa s hs=>?_⟩
 ·have:Spn (red (ps.map λx=>maskF (nmS net) (metF net x))) (maskF (nmS net) (metF net x)):=(qDm _ _).mpr (.mem (hBd (f:=λx=>maskF (nmS net) (metF net x)) hx));exact qP3 (λs hs=>a s (h.pS.mem_iff.mpr hs)) this
 ·have:=(qDm _ _).mp (Spn.mem (h.pS.mem_iff.mp hs));exact qP3 (λy hy=>by
   obtain⟨x,hx,rfl⟩:=hAe.mp hy;exact a x hx) this
theorem Made.fl(h:Made net ps ps' S M K F):∀x∈F,x<2^net.length:=λx hx=>(h.ei.f1 x hx).1
theorem Made.perm(h:Made net ps ps' S M K F):M.Perm ((redL F).map (rv net.length)):=by
 obtain⟨_,e⟩:=qLu (m:=net.length) F h.fl;rw[e];refine h.pM.trans ?_;have sp:∀z,Spn (red (qEf S net.length)) z↔Spn (red (F.map (rv net.length))) z:=λz=>by
  rw[h.spM,qDm,qZ5 h.fl];refine and_congr_right λhz=>?_
  rw[zE7 (qVl h.rs) h.pk h.pk' hz,h.ei.done];exact⟨λa=>⟨zAu _ _,a⟩,λa=>a.2⟩
 have r1:=qD6 (qEf S net.length);have r2:=qD6 (F.map (rv net.length));exact(List.perm_ext_iff_of_nodup r1.nd r2.nd).mpr λz=>⟨qIm r1 r2 sp z,qIm r2 r1 (λy=>(sp y).symm) z⟩
theorem Made.rrM(h:Made net ps ps' S M K F):RR M:=(qD6 _).perm h.pM
theorem Made.ltM(h:Made net ps ps' S M K F):∀z∈M,z<2^(nmS net).length:=λz hz=>by
 rw[hA1];exact((h.spM z).mp (.mem (h.pM.mem_iff.mp hz))).1
theorem Made.rows(h:Made net ps ps' S M K F){rows:List (List Str)}(s:Srt rows)(p:rows.Perm ((redL F).map (qS1 (nmS net)))):rows=M.map (rowM (nmS net)):=by
 refine qMr s (qTg h.rs h.rrM h.ltM h.dM) (p.trans ?_);have q:=(h.perm.map (rowM (nmS net))).symm;rw[hB3]at q;have e:(redL F).map (rowM (nmS net)∘rv net.length)=(redL F).map (qS1 (nmS net)):=hBv λx _=>by
  have:=qW8 (aA:=nmS net) x;rw[hA1]at this;exact this
 rw[e]at q;exact q
theorem Made.len(h:Made net ps ps' S M K F):M.length+(qCc net).length=net.length:=by
 have f:Fsh (F.map (rv net.length)):=λi x hx=>by
  rw[hAj]at hx;cases e:F[i]? with
  |none=>rw[e]at hx;cases hx
  |some y =>
   rw[e]at hx;obtain rfl:rv net.length y=x:=hAr hx;obtain⟨j,h1,h2⟩:=h.ei.fsh i y e;have yl:=h.fl y (hAs e);have jl:j<net.length:=by
    rcases hCx j net.length with z|z
    ·exact z
    ·rw[qE5 yl z]at h1;cases h1
   have sw:∀v,(rv net.length v).testBit (net.length-1-j)=v.testBit j:=λv=>by rw[qC5,hDp (by omega),hCn,show net.length-1-(net.length-1-j)=j by omega]
   refine⟨net.length-1-j,by rw[sw];exact h1,λv hv=>?_⟩;rw[<-List.map_take]at hv;obtain⟨u,hu,rfl⟩:=hAe.mp hv;rw[sw];exact h2 u hu
 have e1:=h.perm.length_eq;rw[hA1]at e1;obtain⟨_,e⟩:=qLu (m:=net.length) F h.fl;have e2:=congrArg List.length e;rw[hA1,qXa _ f,hA1]at e2;have e3:=h.ei.len;have e4:=h.kw;omega
end
end My
namespace L2
open PySem PySem.Spec PyProof.Rows
end L2
namespace L2
open PySem PySem.Spec PyProof.Rows PySem.SeqAt PySem.MeetsSeq
end L2
namespace L2
open PySem PySem.Spec PyProof.Rows
end L2
namespace L2
open PySem PySem.Spec PyProof.Rows PySem.SeqAt
section
variable{X:Cx}
theorem qRi:OpR X (compareOp .LtE) (λx y H Q=>∃i j,x = .str i/\y = .str j/\Q (.bl (!decide (j.cps.toList<i.cps.toList))) H):=by
 intro aB s σ H x y v u Q I rx ry h;obtain⟨i,j,rfl,rfl,q⟩:=h;obtain⟨t,rfl⟩:=rx;obtain⟨t',rfl⟩:=ry;exact PySem.P.le_str (qA8 I q rfl)
def zEg(D:PyData):Prop:=D.showable=true/\D.hasDict=false/\D.shown.length<=sizeLine/\D.depth<=16
end
def Rb(n:Nat)(D:PyData):Prop:=D.showable=true/\D.hasDict=false/\D.leavesShort 8=true/\D.bulk<=n
def RbA(n:Nat)(Ds:List PyData):Prop:=PyData.showableAll Ds=true/\PyData.hasDictAll Ds=false/\PyData.leavesShortAll 8 Ds=true/\PyData.bulkAll Ds<=n
theorem RbA.nil:RbA n []:=⟨rfl,rfl,rfl,hAq _⟩
theorem RbA.cons{m n:Nat}{d:PyData}{ds:List PyData}(h:Rb m d)(t:RbA n ds):RbA (m+1+n) (d :: ds):=by
 obtain⟨a1,a2,a3,a4⟩:=h;obtain⟨b1,b2,b3,b4⟩:=t;refine⟨?_,?_,?_,?_⟩
 ·show(d.showable && _)=true;rw[a1,b1];rfl
 ·show(d.hasDict || _)=false;rw[a2,b2];rfl
 ·show(d.leavesShort 8 && _)=true;rw[a3,b3];rfl
 ·show d.bulk+1+_<=_;omega
theorem RbA.lst{n:Nat}{ds:List PyData}(h:RbA n ds):Rb n (.list ds):=h
theorem RbA.tup{n:Nat}{ds:List PyData}(h:RbA n ds):Rb n (.tuple ds):=h
theorem RbA.all:∀ {ds:List PyData},(∀d∈ds,Rb m d)->RbA ((m+1)*ds.length) ds
 |[],_=>RbA.nil
 |d :: ds,h=>by
  have:=RbA.cons (h d hA6) (RbA.all λx hx=>h x (hA4 _ hx));rw[hB8,Nat.mul_succ,Nat.add_comm ((m+1)*ds.length)];exact this
theorem Rb.mono(h:Rb m d)(le:m<=n):Rb n d:=⟨h.1,h.2.1,h.2.2.1,hAx h.2.2.2 le⟩
end L2
namespace My
open PySem L2
theorem nk(K:PySem.W.Frag):PySem.W.kitOne K (.type "NoneType") (.type "str")=some false/\PySem.W.kitOne K (.type "NoneType") (.type "list")=some false:=⟨by kernel_rfl,by kernel_rfl⟩
theorem bk(K:PySem.W.Frag):PySem.W.kitOne K (.type "bool") (.type "str")=some false/\PySem.W.kitOne K (.type "bool") (.type "list")=some false:=⟨by kernel_rfl,by kernel_rfl⟩
theorem ik(K:PySem.W.Frag):PySem.W.kitOne K (.type "int") (.type "str")=some false/\PySem.W.kitOne K (.type "int") (.type "list")=some false:=⟨by kernel_rfl,by kernel_rfl⟩
theorem sk(K:PySem.W.Frag):PySem.W.kitOne K (.type "str") (.type "list")=some false:=by kernel_rfl
theorem lk(K:PySem.W.Frag):PySem.W.kitOne K (.type "list") (.type "str")=some false:=by kernel_rfl
theorem tk(K:PySem.W.Frag):PySem.W.kitOne K (.type "tuple") (.type "str")=some false/\PySem.W.kitOne K (.type "tuple") (.type "list")=some false:=⟨by kernel_rfl,by kernel_rfl⟩
def inB(c:Str):Bool:=!(Builtin.Str.occurrences sg c 0 sg.length 1).isEmpty
def sgn(x:Str)(i:Nat):Str:=⟨#[x.cps.toList.getD i 0]⟩
def qZi(s:Str):List Bool:=(List.range s.cps.size).map λi=>inB (sgn s i)
def qBg(s:Str):Bool:=decide (1<=s.length) && (decide (s.length<=6) && (qZi s).all id)
def nmV:V->Bool
 |.str s=>qBg s
 |_=>false
def Item(H:Hp)(x:V)(D:PyData):Prop:=(x = .non/\D = .none)\/(∃b,x = .bl b/\D = .bool b)\/(∃i,x = .int i/\D = .int i)\/(∃s:Str,x = .str s/\D = .str s/\s.length<=100/\Sm s) \/
 (∃(a:Addr) (ss:List Str),x = .ref a/\D = .list (ss.map .str)/\LsS H a ss/\SOk ss/\ss.length<=20/\∀s∈ss,s.length<=100/\Sm s)\/(∃(a:Addr) (ss:List Str),x = .ref a/\D = .tuple (ss.map .str)/\H a=some (.tup (ss.map V.str))/\SOk ss/\ss.length<=20)
theorem Item.ext{H H':Hp}{x:V}{D:PyData}(h:Item H x D)(e:Ext H H'):Item H' x D:=by
 rcases h with h|h|h|h|⟨a,ss,h1,h2,h3,h4⟩|⟨a,ss,h1,h2,h3,h4⟩
 ·exact .inl h
 ·exact .inr (.inl h)
 ·exact .inr (.inr (.inl h))
 ·exact .inr (.inr (.inr (.inl h)))
 ·exact .inr (.inr (.inr (.inr (.inl ⟨a,ss,h1,h2,e _ _ h3,h4⟩))))
 ·exact .inr (.inr (.inr (.inr (.inr ⟨a,ss,h1,h2,e _ _ h3,h4⟩))))
theorem Item.ty{K:PySem.W.Frag}{H:Hp}{x:V}{D:PyData}(h:Item H x D):(∃s:Str,x = .str s/\s.length<=100/\Sm s)\/(nmV x=false/\∃t,TyOf K H x t/\PySem.W.kitOne K t (.type "str")=some false):=by
 rcases h with ⟨rfl,_⟩|⟨b,rfl,_⟩|⟨i,rfl,_⟩|⟨s,rfl,_,h,hm⟩|⟨a,ss,rfl,_,h3,h4⟩|⟨a,ss,rfl,_,h3,h4⟩
 ·exact .inr ⟨rfl,_,.non,(nk K).1⟩
 ·exact .inr ⟨rfl,_,.bl b,(bk K).1⟩
 ·exact .inr ⟨rfl,_,.int i,(ik K).1⟩
 ·exact .inl ⟨s,rfl,h,hm⟩
 ·exact .inr ⟨rfl,_,.lst h3,lk K⟩
 ·exact .inr ⟨rfl,_,.tup h3,(tk K).1⟩
def qMx:Sp:=λvs H Q _=>∃(x:V) (D:PyData),vs=[x]/\Item H x D/\∀H',Ext H H'->Q (.bl (nmV x)) H'
section
variable{P:Program}{w:World}{K:PySem.W.Frag}{mg:Str->Option Value}{base:Heap}{f f1:Addr}{fd fd1:FuncData}
theorem zAj:FnScope ["thing"] ["thing"] (qAa qLk):=fsk
theorem qX0{t1 t2:Tok}(F:Fun K "is_name" "is_name" qLk f fd)(ml:mg "len"=none)(mi:mg "isinstance"=none)(ms:mg "str"=none)(ma:mg "all"=none)(mS:mg "SIGNS"=some (.str sg t1))(mM:mg "MOST_SIGNS"=some (.int 6 t2)):v7 1 f fd ["thing"] qMx:=by
 refine F.okA zAj λcdv A outer s H vs Q E hr h=>?_
 obtain⟨x,D,rfl,hI,q⟩:=h;refine⟨_,qAb (qBl (PW.pt (qD3 (qB0 (qBr (qAg qBd rfl mi qAz (qAd (pv 0) (pa1 (qCl (v:=.ty "str") rfl ms qG8 rfl))))))
   (qD3 (qAm qJ2 (qAg qCy rfl ml hB1 (pa1 (pv 0))) qAc (qAu _)) (qDi (qAm qJ4 (qAg qCy rfl ml hB1 (pa1 (pv 0))) (qCs (v:=.int 6) rfl mM ⟨t2,rfl⟩) (qAu _))))))
   (qAe (qAo qFs)) qAw)
  (qAe (qAo (qAg (qCh rfl) rfl ma qCi (qAd
   (qDn (N:=["thing"]) (sc:=qAa qLk) (N':=["sign"]) (sub:=[none]) rfl rfl (CmpOk.of (by decide +kernel)) rfl (qVv (pv 0))
    (λC s H fp=>⟨qAh (i:=0) (by show(["sign"]:List Str).Nodup;decide) rfl (Or.inl rfl),qA4,qCk qJ3 (pv 0) (qCs (v:=.str sg) rfl mS ⟨t1,rfl⟩) (by with_unfolding_all rfl)⟩)) qAs)))),?_⟩
 rcases Item.ty (K:=K) hI with ⟨z,rfl,hz,sm⟩|⟨hn,t,ty,kt⟩
 ·have wl:z.length<=sizeLine:=hAz (qAf (by omega));have nf:∀b:Bool,qBg z=b->∀H',Ext H H'->Q (.bl b) H':=λb e H' he=>by subst e;exact q H' he
  refine⟨_,rfl,_,_,_,true,rfl,.str z,qB7 _ _,true,rfl,qGz ?_⟩;refine⟨_,rfl,z,rfl,wl,_,_,rfl,rfl,_,rfl,?_⟩;refine qB1 (λc=>?_) (λc=>?_)
  ·have c':(z.length:Int)<1:=hDs c;refine iteT (nf false ?_ H (Ext.refl _));unfold qBg;rw[hDr (by omega)];rfl
  have c':¬(z.length:Int)<1:=λy=>c (hDp y)
  refine⟨_,rfl,z,rfl,wl,_,_,rfl,rfl,_,rfl,?_⟩;refine qB1 (λd=>?_) (λd=>?_)
  ·have d':(6:Int)<z.length:=hDs d;refine nf false ?_ H (Ext.refl _);unfold qBg;rw[hDp (by omega),hDr (by omega)];rfl
  have d':¬(6:Int)<z.length:=λy=>d (hDp y)
  refine⟨_,rfl,z,rfl,?_⟩;refine qJl (λi ys H'=>H'=H/\ys=(List.range i).map λi=>V.bl (inB (sgn z i))) ⟨rfl,rfl⟩ ?_ ?_
  ·rintro i ys H' hi ⟨rfl,rfl⟩;refine⟨sls,?_⟩;refine iteT (B:=False) ?_;refine⟨_,rfl,_,_,rfl,rfl,?_,nxt hi ⟨rfl,?_⟩⟩
   ·rw[hA1,hBi];exact qAf (by have:z.cps.size=z.length:=rfl;omega)
   ·rw[hCd,hA7];rfl
  ·rintro ys H' ⟨rfl,rfl⟩ r hr';refine⟨r,qZi z,rfl,?_,nf _ ?_ _ (Ext.new hr' _)⟩
   ·refine SqL.of ?_;rw[upd_same];unfold qZi;rw[hB3];rfl
   ·unfold qBg;rw[hDp (by omega),hDp (by omega)];rfl
 ·refine⟨_,rfl,_,_,_,false,rfl,ty,kt,false,rfl,iteT (iteT ?_)⟩;have:=q H (Ext.refl _);rw[hn]at this;exact this
end
def ltV:V->V->Bool
 |.str a,.str b=>decide (a.cps.toList<b.cps.toList)
 |_,_=>false
def zAv(xs:List V):Prop:=(∀i,i<xs.length->nmV (xs.getD i .non)=true)/\∀i,i+1<xs.length->ltV (xs.getD i .non) (xs.getD (i+1) .non)=true
theorem qCt{x:V}(h:nmV x=true):∃s:Str,x = .str s:=by
 cases x with
 |str s=>exact⟨s,rfl⟩
 |_=>cases h
theorem qUn{xs:List V}{i:Nat}(hi:i<xs.length):xs.getD i .non∈xs:=by
 rw[hA5,hA2 hi];exact hBf hi
theorem qY8(xs:List V):qWe xs (some 1) none=xs.drop 1:=by
 unfold qWe;have e:HT.sIx xs.length 0 (some 1)=min 1 xs.length:=HT.sIx_nat xs.length 0 1;have e2:HT.sIx xs.length xs.length none=xs.length:=rfl;rw[e,e2];cases xs with
 |nil=>rfl
 |cons x r =>
  rw[show min 1 (x :: r).length=1 by simp];exact hA9 (by simp)
def qQc(K:PySem.W.Frag):Sp:=λvs H Q _=>∃x:V,vs=[x]/\((∃(a:Addr) (xs:List V),x = .ref a/\H a=some (.lst xs)/\xs.length<=100/\(∀y∈xs,∃D,Item H y D)/\∀(b:Bool) H',(b=true↔zAv xs)->Ext H H'->Q (.bl b) H') \/
 (∃t,TyOf K H x t/\PySem.W.kitOne K t (.type "list")=some false/\Q (.bl false) H))
section
variable{P:Program}{w:World}{K:PySem.W.Frag}{mg:Str->Option Value}{base:Heap}{f f1:Addr}{fd fd1:FuncData}
theorem qW3:FnScope ["thing"] ["thing"] (qAa qFm):=fsk
theorem qT5(F:Fun K "is_row" "is_row" qFm f fd)(G:v8 1 f1 fd1 ["thing"] qMx "is_name")(mi:mg "isinstance"=none)(mL:mg "list"=none)(ma:mg "all"=none)(mz:mg "zip"=none) :
  v7 2 f fd ["thing"] (qQc K):=by
 refine F.okA qW3 λcdv A outer s H vs Q E hr h=>?_
 obtain⟨x,rfl,h⟩:=h;refine⟨_,qAb (qBl (PW.pt (qD3 (qB0 (qBr (qAg qBd rfl mi qAz (qAd (pv 0) (pa1 (qCl (v:=.ty "list") rfl mL qBe rfl))))))
   (qDi (qB0 (qBr (qAg (qCh rfl) rfl ma qCi (qAd
    (qDn (N:=["thing"]) (sc:=qAa qFm) (N':=["one"]) (sub:=[none]) rfl rfl (CmpOk.of (by decide +kernel)) rfl (qAx (pv 0))
     (λC s H fp=>⟨qAh (i:=0) (by show(["one"]:List Str).Nodup;decide) rfl (Or.inl rfl),qA4,qA0 G hr rfl .nil qA2 (pa1 (pv 0))⟩)) qAs)))))))
   (qAe (qAo qFs)) qAw)
  (qAe (qAo (qAg (qCh rfl) rfl ma qCi (qAd
   (qDn (N:=["thing"]) (sc:=qAa qFm) (N':=["one","other"]) (sub:=[none,none]) rfl rfl (CmpOk.of (by decide +kernel)) rfl (qVu rfl mz (qAd (pv 0) (pa1 (qFx qWu (pv 0) (qIr qAc) qIs))))
    (λC s H fp=>⟨(show PG _ _ (qUp K 2 _) from qCe rfl (qAi (qAh (i:=0) (by show(["one","other"]:List Str).Nodup;decide) rfl (Or.inl rfl)) (qAi (qAh (i:=1) (by show(["one","other"]:List Str).Nodup;decide) rfl (Or.inl rfl)) qBj))),qA4,qCk qRh (pv 0) (pv 1) (qAu _)⟩)) qAs)))),?_⟩
 rcases h with ⟨a,xs,rfl,ha,hl,hI,q⟩|⟨t,ty,kt,q⟩
 ·refine⟨_,rfl,_,_,_,true,rfl,.lst ha,qB7 _ _,true,rfl,qGz ?_⟩;have hz:xs.length<=sizeLine:=hAz (qAf (by omega));refine⟨_,rfl,a,rfl,⟨_,SqL.of ha⟩,?_⟩;refine qPs (xs:=xs) (λv=>some (V.bl (nmV v))) (SqL.of ha) hz (λx hx H1 he C hC=>?_) λH1 he=>?_
  ·obtain⟨D,hD⟩:=hI x hx;refine⟨sls,iteT (B:=False) ⟨_,rfl,x,D,rfl,hD.ext he,λH' he'=>hC H' he'⟩⟩
  ·intro r hr1;have e1:xs.filterMap (λv=>some (V.bl (nmV v)))=(xs.map nmV).map V.bl:=by
    rw[hB3];exact congrFun (List.filterMap_eq_map (f:=V.bl∘nmV)) xs
   rw[e1];refine⟨r,xs.map nmV,rfl,SqL.of upd_same,(xs.map nmV).all id,rfl,?_⟩;have e2:=he.trans (Ext.new hr1 (.lst ((xs.map nmV).map V.bl)));refine qB1 (λc=>?_) (λc=>?_)
   ·refine q false _ ⟨λz=>(by cases z),λz=>?_⟩ e2;have z2:(xs.map nmV).all id=true:=by
     rw[List.all_map,hBx];intro y hy;obtain⟨i,hi,rfl⟩:=List.mem_iff_getElem.mp hy;have:=z.1 i hi;rw[hA5,hA2 hi]at this;exact this
    rw[z2]at c;cases c
   ·have z2:(xs.map nmV).all id=true:=by
     cases h3:(xs.map nmV).all id with
     |true=>rfl
     |false=>rw[h3]at c;exact absurd rfl c
    have hnm:∀i,i<xs.length->nmV (xs.getD i .non)=true:=λi hi=>by
     rw[List.all_map,hBx]at z2;exact z2 _ (qUn hi)
    refine⟨_,rfl,_,rfl,_,rfl,a,xs,rfl,SqL.of (e2 _ _ ha),λr2 hr2=>?_⟩;rw[qY8];have e3:=e2.trans (Ext.new hr2 (.lst (xs.drop 1)));refine⟨a,r2,xs,xs.drop 1,rfl,SqL.of (e3 _ _ ha),SqL.of upd_same,?_⟩;have hm:min xs.length (xs.drop 1).length=xs.length-1:=by rw[hDh];omega
    rw[hm];refine qEi (λi ys H'=>Ext (upd (upd H1 r (.lst ((xs.map nmV).map V.bl))) r2 (.lst (xs.drop 1))) H'/\ys=(List.range i).map λi=>V.bl (ltV (xs.getD i .non) (xs.getD (i+1) .non))) ⟨Ext.refl _,rfl⟩ (λi ys H' _ p=>⟨SqL.of (p.1 _ _ (e3 _ _ ha)),SqL.of (p.1 _ _ upd_same)⟩) ?_ ?_
    ·rintro i ys H' T hi ⟨p,rfl⟩ hT;have d1:(xs.drop 1).getD i .non=xs.getD (i+1) .non:=by
      rw[hA5,List.getElem?_drop,hA5,Nat.add_comm]
     obtain⟨s1,h1⟩:=qCt (hnm i (by omega));obtain⟨s2,h2⟩:=qCt (hnm (i+1) (by omega));refine⟨T,_,rfl,SqT.of upd_same,rfl,_,_,rfl,_,_,rfl,rfl,?_⟩;refine⟨Sle.set _ (sls) (λu z=>by cases z),iteT (B:=False) ⟨_,rfl,_,rfl,s1,s2,h1,d1.trans h2,?_,nxt hi ⟨p.trans (Ext.new hT _),?_⟩⟩⟩
     ·rw[hA1,hBi];exact qAf (by omega)
     ·rw[hCd,hA7,hBc,h1,h2];rfl
    ·rintro ys H' ⟨p,rfl⟩ r3 hr3;refine⟨r3,(List.range (xs.length-1)).map λi=>ltV (xs.getD i .non) (xs.getD (i+1) .non),rfl,?_,q _ _ ?_ (e3.trans (p.trans (Ext.new hr3 _)))⟩
     ·rw[hB3];exact SqL.of upd_same
     ·rw[List.all_map,hBx];constructor
      ·intro z;exact⟨hnm,λi hi=>z i (hB4.mpr (by omega))⟩
      ·intro z i hi;exact z.2 i (by have:=hB4.mp hi;omega)
 ·exact⟨_,rfl,_,_,_,false,rfl,ty,kt,false,rfl,iteT (iteT q)⟩
end
theorem tkN(K:PySem.W.Frag):PySem.W.kitOne K (.type "NoneType") (.type "tuple")=some false:=by kernel_rfl
theorem tkI(K:PySem.W.Frag):PySem.W.kitOne K (.type "int") (.type "tuple")=some false:=by kernel_rfl
theorem tkS(K:PySem.W.Frag):PySem.W.kitOne K (.type "str") (.type "tuple")=some false:=by kernel_rfl
theorem tkL(K:PySem.W.Frag):PySem.W.kitOne K (.type "list") (.type "tuple")=some false:=by kernel_rfl
def zD2(H:Hp)(x:V):Prop:=x = .non\/(∃b,x = .bl b)\/(∃i,x = .int i)\/(∃s:Str,x = .str s)\/∃(a:Addr) (xs:List V),x = .ref a/\H a=some (.tup xs)
theorem zD2.ty{H:Hp}{x:V}(K:PySem.W.Frag)(h:zD2 H x):∃t,TyOf K H x t/\PySem.W.kitOne K t (.type "list")=some false:=by
 rcases h with rfl|⟨b,rfl⟩|⟨i,rfl⟩|⟨s,rfl⟩|⟨a,xs,rfl,h2⟩
 ·exact⟨_,.non,(nk K).2⟩
 ·exact⟨_,.bl b,(bk K).2⟩
 ·exact⟨_,.int i,(ik K).2⟩
 ·exact⟨_,.str s,sk K⟩
 ·exact⟨_,.tup h2,(tk K).2⟩
def qZo(H:Hp)(x:V):Prop:=x = .non\/(∃i,x = .int i)\/(∃s:Str,x = .str s)\/∃(a:Addr) (xs:List V),x = .ref a/\H a=some (.lst xs)
theorem qZo.ext{H H':Hp}{x:V}(h:qZo H x)(e:Ext H H'):qZo H' x:=by
 rcases h with h|h|h|⟨a,xs,h1,h2⟩
 ·exact .inl h
 ·exact .inr (.inl h)
 ·exact .inr (.inr (.inl h))
 ·exact .inr (.inr (.inr ⟨a,xs,h1,e _ _ h2⟩))
theorem qZo.ty{H:Hp}{x:V}(K:PySem.W.Frag)(h:qZo H x):∃t,TyOf K H x t/\PySem.W.kitOne K t (.type "tuple")=some false:=by
 rcases h with rfl|⟨i,rfl⟩|⟨s,rfl⟩|⟨a,xs,rfl,h2⟩
 ·exact⟨_,.non,tkN K⟩
 ·exact⟨_,.int i,tkI K⟩
 ·exact⟨_,.str s,tkS K⟩
 ·exact⟨_,.lst h2,tkL K⟩
theorem qNm{aA:List Str}{z:Nat}{n:Str}:n∈rowM aA z↔∃i,i<aA.length/\aA[i]?=some n/\z.testBit (aA.length-1-i)=true:=by
 unfold rowM;rw[hD5];constructor
 ·rintro⟨i,hi,e⟩;split at e
  ·rename_i b;exact⟨i,hB4.mp hi,e,b⟩
  ·cases e
 ·rintro⟨i,hi,e,b⟩;exact⟨i,hB4.mpr hi,by rw[hDu b];exact e⟩
theorem qYw{aA:List Str}(nd:aA.Nodup){i j:Nat}{n:Str}(hi:aA[i]?=some n)(hj:aA[j]?=some n):i=j :=
 (List.getElem?_inj (hAc.mp hi).1 nd).mp (hi.trans hj.symm)
abbrev chi(aA:List Str)(z:Nat):Str->Bool:=λn=>decide (n∈rowM aA z)
theorem zCd{aA:List Str}(nd:aA.Nodup){z i:Nat}{n:Str}(hi:aA[i]?=some n):chi aA z n=z.testBit (aA.length-1-i):=by
 have il:=(hAc.mp hi).1;cases q:z.testBit (aA.length-1-i) with
 |true=>exact hDp (qNm.mpr ⟨i,il,hi,q⟩)
 |false =>
  refine hDr λm=>?_
  obtain⟨j,_,ej,bj⟩:=qNm.mp m;rw[qYw nd ej hi,q]at bj;cases bj
theorem qRq{aA:List Str}(nd:aA.Nodup){z:Nat}(hz:z<2^aA.length):maskF aA (rowM aA z)=z:=by
 refine hBa λj=>?_
 rw[qGt];by_cases hj:j<aA.length
 ·rw[hDp hj,hCn];have hi:aA.length-1-j<aA.length:=by omega
  have e:=hA2 hi;have c:=zCd nd (z:=z) e;rw[show aA.length-1-(aA.length-1-j)=j by omega]at c;rw[<-c];refine decide_eq_decide.mpr ⟨λ⟨n,h1,h2⟩=>?_,λh=>⟨_,e,h⟩⟩;rw[e]at h1;cases h1;exact h2
 ·rw[hDr hj,qE5 hz (by omega)];rfl
def Rk(aA:List Str)(rows:List (List Str)):Nat:=(red (rows.map (maskF aA))).length
def Bnd(aA:List Str)(rows:List (List Str)):Prop:=aA.length<=12/\rows.length<=16/\Rk aA rows<=8/\aA.length<=Rk aA rows+8
def qU7:Sp:=λvs H Q _=>∃(T:Addr) (aA:List Str) (rows:List (List Str)),vs=[.ref T]/\qHb H T aA rows/\∀(b:Bool) H',(b=true↔Bnd aA rows)->Ext H H'->Q (.bl b) H'
section
variable{P:Program}{w:World}{K:PySem.W.Frag}{mg:Str->Option Value}{base:Heap}{f f1 f2:Addr}{fd fd1 fd2:FuncData}
theorem qM4:FnScope ["table","names","rows","many"] ["table"] (qAa qOp):=fsk
theorem qX6{t1 t2 t3:Tok}(F:Fun K "keeps_bounds" "keeps_bounds" qOp f fd)(G:v8 3 f1 fd1 ["table"] qLa "step_masks")(ml:mg "len"=none)
  (mN:mg "MOST_NAMES"=some (.int 12 t1)) (mR:mg "MOST_ROWS"=some (.int 16 t2)) (mS:mg "MOST_STEPS"=some (.int 8 t3)):v7 4 f fd ["table"] qU7:=by
 refine F.okA qM4 λcdv A outer s H vs Q E hr h=>?_
 obtain⟨T,aA,rows,rfl,tI,q⟩:=h;refine⟨_,qAb (qGl (pv 0) (qCe rfl (qAi (v4 1 qM4) (qAi (v4 2 qM4) qBj))))
  (qAb (qBl (PW.pt (qD3 (qAm qJ4 (qAg qAt rfl ml hB1 (pa1 (pv 1))) (qCs (v:=.int 12) rfl mN ⟨t1,rfl⟩) (qAu _))
   (qDi (qAm qJ4 (qAg qAt rfl ml hB1 (pa1 (pv 2))) (qCs (v:=.int 16) rfl mR ⟨t2,rfl⟩) (qAu _))))) (qAe (qAo qFs)) qAw)
  (qAb (v0 3 qM4 (qAg qAt rfl ml hB1 (pa1 (qA0 G hr rfl .nil qA2 (pa1 (pv 0))))))
  (qAe (qAo (qJw (qCk qXu (pv 3) (qCs (v:=.int 8) rfl mS ⟨t3,rfl⟩) (qAu _)) (qNe (qCk qXu (qAl qGq (qAg qAt rfl ml hB1 (pa1 (pv 1))) (pv 3)) (qCs (v:=.int 8) rfl mS ⟨t3,rfl⟩) (qAu _)))))))),?_⟩
 obtain⟨a,b,hT,ha,as,hb,pr⟩:=id tI;have la:as.length=rows.length:=pr.length;refine⟨_,rfl,T,_,rfl,SqT.of hT,rfl,_,_,rfl,_,_,rfl,rfl,?_⟩;refine⟨_,rfl,a,_,rfl,.inl (SqL.of ha),_,_,rfl,rfl,_,rfl,?_⟩;refine qB1 (λc=>?_) (λc=>?_)
 ·have c':(12:Int)<((aA.map V.str).length:Nat):=hDs c;rw[hA1]at c';exact iteT (q false H ⟨λz=>(by cases z),λz=>absurd z.1 (by omega)⟩ (Ext.refl _))
 have c':¬(12:Int)<((aA.map V.str).length:Nat):=λy=>c (hDp y)
 rw[hA1]at c';refine⟨_,rfl,b,_,rfl,.inl (SqL.of hb),_,_,rfl,rfl,_,rfl,?_⟩;refine qB1 (λd=>?_) (λd=>?_)
 ·have d':(16:Int)<((as.map V.ref).length:Nat):=hDs d;rw[hA1]at d';exact q false H ⟨λz=>(by cases z),λz=>absurd z.2.1 (by omega)⟩ (Ext.refl _)
 have d':¬(16:Int)<((as.map V.ref).length:Nat):=λy=>d (hDp y)
 rw[hA1]at d';refine⟨_,rfl,T,aA,rows,rfl,tI,by omega,λr M H1 e1 r0 hM pM dM=>?_⟩;have lM:M.length=Rk aA rows:=pM.length_eq;refine⟨r,_,rfl,.inl (SqL.of hM),?_⟩;refine⟨_,rfl,_,_,rfl,rfl,_,rfl,?_⟩;refine qB1 (λg=>?_) (λg=>?_)
 ·have g':((M.map iV).length:Int)<=8:=hDs g;rw[hA1,lM]at g';refine⟨_,rfl,a,_,rfl,.inl (SqL.of (e1 _ _ ha)),_,rfl,_,_,rfl,rfl,_,_,rfl,rfl,q _ H1 ?_ e1⟩;rw[decide_eq_true_iff,hA1,hA1,lM];constructor
  ·intro z;exact⟨by omega,by omega,by omega,by omega⟩
  ·rintro⟨z1,z2,z3,z4⟩;omega
 ·have g':¬((M.map iV).length:Int)<=8:=λy=>g (hDp y)
  rw[hA1,lM]at g';exact q false H1 ⟨λz=>(by cases z),λz=>absurd z.2.2.1 (by omega)⟩ e1
end
theorem qOw{M:List Nat}(h:RR M):(red M).length=M.length :=
 ((List.perm_ext_iff_of_nodup (qD6 M).nd h.nd).mpr λz=>⟨qIm (qD6 M) h (qDm M) z,qIm h (qD6 M) (λy=>(qDm M y).symm) z⟩).length_eq
theorem qSa{net:List Tr}{ps:List Str}(hp:∀x,qI0 net x->x∈ps):∀i,i<=net.length->∃K F,EIv (vF net ps) net.length i K F/\K.length=(qCc (net.take i)).length
 |0,_=>⟨[],[],EIv.start _ _,rfl⟩
 |i+1,hi=>by
  obtain⟨K,F,h,hk⟩:=qSa hp i (by omega);have il:i<net.length:=by omega
  have n:=h.next il;have w:=qKi hp h il (hA2 il) hk;by_cases c:(el K (vF net ps i,2^i)).1=0
  ·rw[hDu c]at n w;exact⟨_,_,n,w⟩
  ·rw[hDt c]at n w;exact⟨_,_,n,w⟩
def qN9(net:List Tr):Prop:=net.length<=12/\(qCc net).length<=8/\net.length<=(qCc net).length+8
theorem qZa{net:List Tr}{ps:List Str}{S M:List Nat}(rs:qD5 (net.map (·.1)))(pk:qHd net ps)(pS:S.Perm (red (ps.map λx=>maskF (net.map (·.1)) (metF net x))))(pM:M.Perm (red (qEf S net.length)))(dM:M.Pairwise λa b=>b<=a)
  (h12:net.length<=12):Bnd (net.map (·.1)) (M.map (rowM (net.map (·.1))))↔qN9 net:=by
 obtain⟨K,F,ei,kw⟩:=qSa (λx hx=>(pk.2 x).mpr hx) net.length (hA3 _);rw[hA9 (hA3 _)]at kw;have md:Made net ps ps S M K F:=⟨rs,pk,pk,pS,pM,dM,ei,kw⟩;have len:=md.len;have e:(M.map (rowM (net.map (·.1)))).map (maskF (net.map (·.1)))=M:=by
  rw[hB3];have:M.map (maskF (net.map (·.1))∘rowM (net.map (·.1)))=M.map id:=hBv λz hz=>qRq (qVl rs) (md.ltM z hz)
  rw[this,List.map_id]
 unfold Bnd qN9 Rk;rw[e,qOw md.rrM,hA1,hA1];constructor
 ·rintro⟨a,b,c,d⟩;exact⟨by omega,by omega,by omega⟩
 ·rintro⟨a,b,c⟩;exact⟨by omega,by omega,by omega,by omega⟩
def qWr:Sp:=λvs H Q _=>∃(p:Addr) (net:List Tr),vs=[.ref p]/\qA5 H p net/\net.length<=20/\qD5 (net.map (·.1))/\∀(b:Bool) H',(b=true↔qN9 net)->Ext H H'->Q (.bl b) H'
section
variable{P:Program}{w:World}{K:PySem.W.Frag}{mg:Str->Option Value}{base:Heap}{f f1 f2:Addr}{fd fd1 fd2:FuncData}
theorem zDe:FnScope ["net"] ["net"] (qAa qZk):=fsk
theorem zBb{t1:Tok}(F:Fun K "keeps_net_bounds" "keeps_net_bounds" qZk f fd)(G1:v8 4 f1 fd1 ["table"] qU7 "keeps_bounds")
  (G2:v8 5 f2 fd2 ["net"] qK9 "table_of") (ml:mg "len"=none) (mN:mg "MOST_NAMES"=some (.int 12 t1)):v7 6 f fd ["net"] qWr:=by
 refine F.okA zDe λcdv A outer s H vs Q E hr h=>?_
 obtain⟨p,net,rfl,nt,hl,rs,q⟩:=h;have hr4:=hr.mono (j:=4) (by decide);refine⟨_,qAe (qAo (qJw (qCk qXu (qAg qAt rfl ml hB1 (pa1 (pv 0))) (qCs (v:=.int 12) rfl mN ⟨t1,rfl⟩) (qAu _)) (qNe (qA0 G1 hr4 rfl .nil qA2 (pa1 (qA0 G2 hr rfl .nil qA2 (pa1 (pv 0)))))))),?_⟩;obtain⟨as,hp,pr⟩:=id nt;have la:as.length=net.length:=pr.length;refine⟨_,rfl,p,_,rfl,.inl (SqL.of hp),_,_,rfl,rfl,_,rfl,?_⟩;refine qB1 (λg=>?_) (λg=>?_)
 ·have g':((as.map V.ref).length:Int)<=12:=hDs g;rw[hA1,la]at g';refine⟨_,rfl,p,net,rfl,nt,by omega,λT ps S M H1 e1 T0 tf pok psr pS pM dM=>?_⟩;exact⟨T,_,_,rfl,tf.tin,λb H2 eb e2=>q b H2 (eb.trans (qZa rs pok pS pM dM (by omega))) (e1.trans e2)⟩
 ·have g':¬((as.map V.ref).length:Int)<=12:=λy=>g (hDp y)
  rw[hA1,la]at g';exact q false H ⟨λz=>(by cases z),λz=>absurd z.1 (by omega)⟩ (Ext.refl _)
end
section
variable{σ0:St}{g:TG}{tt:TT}{te:TE}{Q:List V->Hp->Prop}{H1:Hp}
theorem qE3{K:PySem.W.Frag}{a:Addr}{xs:List V}(Pv:Nat->List V->Hp->Prop)(h0:Pv 0 [] H1)(hl:∀i ys H,i<=xs.length->Pv i ys H->SqT K H a xs)
  (hs:∀i x ys H,xs[i]?=some x->Pv i ys H->g x σ0 H λσ2 H2=>Sle σ0 σ2/\tt σ2 H2 λb H3=>if b=true then te σ2 H3 (λv H4=>ys.length<sizeLine/\Nxt xs.length i Pv (ys++[v]) H4) else Nxt xs.length i Pv ys H3)
  (hd:∀ys H,Pv xs.length ys H->Q ys H):qDj (Itt K a) σ0 g tt te Q H1:=by
 refine⟨λi m ys H=>m=xs.length-i/\i<=xs.length/\Pv i ys H,⟨xs.length,by simp,hAq _,h0⟩,?_⟩;rintro i m ys H ⟨rfl,hi,p⟩;have q:=hl i ys H hi p;by_cases hlt:i<xs.length
 ·refine .inr ⟨⟨xs,xs[i],q,by simp[hlt]⟩,λx H' y=>?_⟩;obtain⟨e,y⟩:=y;subst e;exact hs i x ys _ (y xs q) p
 ·have e:i=xs.length:=by omega
  subst e;exact .inl ⟨⟨xs,q,hA3 _⟩,hd ys H p⟩
theorem qHj{K:PySem.W.Frag}{a:Addr}{xs:List V}(f:V->Option V)(hS:H1 a=some (.tup xs))(hz:xs.length<=sizeLine)
  (hs:∀x∈xs,∀H,Ext H1 H->∀C:Option V->Hp->Prop,(∀H',Ext H H'->C (f x) H')->g x σ0 H λσ2 H2=>Sle σ0 σ2/\tt σ2 H2 λb H3=>if b=true then te σ2 H3 (λv H4=>C (some v) H4) else C none H3)
  (hd:∀H',Ext H1 H'->Q (xs.filterMap f) H'):qDj (Itt K a) σ0 g tt te Q H1:=by
 refine qE3 (xs:=xs) (λi ys H=>Ext H1 H/\ys=(xs.take i).filterMap f) ⟨Ext.refl _,by simp⟩ (λi ys H _ h=>SqT.of (h.1 _ _ hS)) ?_ ?_
 ·rintro i x ys H hx ⟨he,rfl⟩;have hi:i<xs.length:=(hAc.mp hx).1;have hm:x∈xs:=hAs hx;have tk:(xs.take (i+1)).filterMap f=(xs.take i).filterMap f++(f x).toList:=by
   rw[hCv,hx,hCc];cases e:f x <;> simp[e]
  have hl:((xs.take i).filterMap f).length<sizeLine:=by
   have h1:=hCh f (xs.take i);rw[hAn]at h1;omega
  refine hs x hm H he (λo H4=>match o with|some v=>((xs.take i).filterMap f).length<sizeLine/\Nxt xs.length i _ ((xs.take i).filterMap f++[v]) H4|none=>Nxt xs.length i _ ((xs.take i).filterMap f) H4) (λH' he'=>?_);cases e:f x with
  |none=>exact nxt hi ⟨he.trans he',by rw[tk,e];simp⟩
  |some v=>exact⟨hl,nxt hi ⟨he.trans he',by rw[tk,e];simp⟩⟩
 ·rintro ys H ⟨he,rfl⟩;rw[hA9 (hA3 _)];exact hd H he
end
def Prt(H:Hp)(x:V)(o:Option (List V)):Prop:=(∃(a:Addr) (xs:List V),o=some xs/\x = .ref a/\H a=some (.tup xs)/\xs.length<=10/\∀y∈xs,∃D,Item H y D)\/(o=none/\qZo H x)
theorem Prt.ext{H H':Hp}{x:V}{o:Option (List V)}(h:Prt H x o)(e:Ext H H'):Prt H' x o:=by
 rcases h with ⟨a,xs,h1,h2,h3,h4,h5⟩|⟨h1,h2⟩
 ·exact .inl ⟨a,xs,h1,h2,e _ _ h3,h4,λy hy=>by obtain⟨D,hD⟩:=h5 y hy;exact⟨D,hD.ext e⟩⟩
 ·exact .inr ⟨h1,h2.ext e⟩
def zCt(t:Tr):Prop:=qBg t.1=true/\qBg t.2.1=true/\qBg t.2.2=true/\leB t.2.1 t.2.2=true
def zCu(o:Option (List V)):Prop:=∃t:Tr,o=some (trV t)/\zCt t
theorem qPy{t u:Tr}(e:trV t=trV u):t=u:=by
 obtain⟨a,b,c⟩:=t;obtain⟨a',b',c'⟩:=u;have e':[V.str a,V.str b,V.str c]=[V.str a',V.str b',V.str c']:=e;simp only[List.cons.injEq,V.str.injEq,and_true]at e';obtain⟨e1,e2,e3⟩:=e';subst e1 e2 e3;rfl
def qQb:Sp:=λvs H Q _=>∃(x:V) (o:Option (List V)),vs=[x]/\Prt H x o/\∀(b:Bool) H',(b=true↔zCu o)->Ext H H'->Q (.bl b) H'
abbrev Nd:=Option (List (Option (List V)))
def Nt(H:Hp)(v:V)(d:Nd):Prop:=(d=none/\zD2 H v)\/∃(a:Addr) (xs:List V) (os:List (Option (List V))),v = .ref a/\H a=some (.lst xs)/\d=some os/\Paired (Prt H) xs os/\xs.length<=20
def NdOf(net:List Tr):Nd:=some (net.map λt=>some (trV t))
def qPi(d:Nd):Prop:=∃net:List Tr,d=NdOf net/\(∀t∈net,zCt t)/\zAv ((net.map (·.1)).map V.str)
theorem NdOf.inj{a b:List Tr}(e:NdOf a=NdOf b):a=b:=by
 have e':=hAr e;clear e
 induction a generalizing b with
 |nil=>cases b with
  |nil=>rfl
  |cons=>cases e'
 |cons x r ih=>cases b with
  |nil=>cases e'
  |cons y r' =>
   rw[hAv,hAv,List.cons.injEq,Option.some.injEq]at e';rw[qPy e'.1,ih e'.2]
theorem qNv{H:Hp}{s:Str}{D:PyData}(h:Item H (.str s) D):s.length<=100/\Sm s:=by
 rcases h with ⟨z,_⟩|⟨b,z,_⟩|⟨i,z,_⟩|⟨u,z,_,h,hm⟩|⟨a,ss,z,_⟩|⟨a,ss,z,_⟩
 ·cases z
 ·cases z
 ·cases z
 ·cases z;exact⟨h,hm⟩
 ·cases z
 ·cases z
theorem qIa{H:Hp}:∀ {xs:List V} {os:List (Option (List V))},Paired (Prt H) xs os->(∀o∈os,zCu o)->∃(as:List Addr) (net:List Tr),xs=as.map V.ref/\os=net.map (λt=>some (trV t))/\(∀t∈net,zCt t/\t.1.length<=100/\Sm t.1)/\Paired (λa t=>H a=some (.tup (trV t))) as net
 |[],[],_,_=>⟨[],[],rfl,rfl,λt h=>(by cases h),.nil⟩
 |[],_ :: _,h,_=>by cases h
 |_ :: _,[],h,_=>by cases h
 |x :: xs,o :: os,h,ht=>by
  cases h with
  |cons h1 h2 =>
   obtain⟨as,net,rfl,rfl,tt,pr⟩:=qIa h2 λo ho=>ht o (hA4 _ ho)
   obtain⟨t,rfl,tt0⟩:=ht o hA6;rcases h1 with ⟨a,xs,e1,rfl,h3,_,h5⟩|⟨e1,_⟩
   ·cases e1;obtain⟨D,hD⟩:=h5 (.str t.1) hA6;refine⟨a :: as,t :: net,rfl,rfl,λu hu=>?_,.cons h3 pr⟩;rcases hA8.mp hu with rfl|z
    ·exact⟨tt0,qNv hD⟩
    ·exact tt u z
   ·cases e1
theorem qM5:∀ {ss:List Str},zAv (ss.map V.str)->qD5 ss
 |[],_=>List.Pairwise.nil
 |x :: r,h=>by
  have tl:zAv (r.map V.str):=by
   refine⟨λi hi=>?_,λi hi=>?_⟩
   ·have:=h.1 (i+1) (by rw[hAv,hB8];omega);exact this
   ·have:=h.2 (i+1) (by rw[hAv,hB8];omega);exact this
  have ih:=qM5 tl;refine hBl.mpr ⟨λy hy=>?_,ih⟩;cases r with
  |nil=>cases hy
  |cons z r' =>
   have xz:qLl x z=true:=h.2 0 (by rw[hAv,hAv,hB8,hB8];omega);rcases hA8.mp hy with rfl|hy
   ·exact xz
   ·exact qC4 xz ((hBl.mp ih).1 y hy)
def qU9:Sp:=λvs H Q _=>∃(v:V) (d:Nd),vs=[v]/\Nt H v d/\∀(b:Bool) H',(b=true↔qPi d)->Ext H H'->Q (.bl b) H'
theorem qWj{xs:List V}:(xs.map nmV).all id=true↔∀x∈xs,nmV x=true:=by
 rw[List.all_map,hBx];rfl
theorem zE8{α:Type}{l:List α}(h:l.length=3):∃a b c,l=[a,b,c]:=match l,h with | [a,b,c],_=>⟨a,b,c,rfl⟩
theorem qPz{xs:List V}(h:zCu (some xs)):xs.length=3/\∀x∈xs,nmV x=true:=by
 obtain⟨t,e,h1,h2,h3,_⟩:=h;cases e;refine⟨rfl,λx hx=>?_⟩;simp only[trV,hA8,hAo,hE0]at hx;rcases hx with rfl|rfl|rfl
 ·exact h1
 ·exact h2
 ·exact h3
section
variable{P:Program}{w:World}{K:PySem.W.Frag}{mg:Str->Option Value}{base:Heap}{f f1 f2 f3:Addr}{fd fd1 fd2 fd3:FuncData}
theorem qW2:FnScope ["thing"] ["thing"] (qAa qGe):=fsk
theorem qT4(F:Fun K "is_tie" "is_tie" qGe f fd)(G:v8 1 f1 fd1 ["thing"] qMx "is_name")(mi:mg "isinstance"=none)(mt:mg "tuple"=none)(ma:mg "all"=none)(ml:mg "len"=none) :
  v7 2 f fd ["thing"] qQb:=by
 refine F.okA qW2 λcdv A outer s H vs Q E hr h=>?_
 obtain⟨x,o,rfl,hP,q⟩:=h;refine⟨_,qAb (qBl (PW.pt (qD3 (qB0 (qBr (qAg qBd rfl mi qAz (qAd (pv 0) (pa1 (qCl (v:=.ty "tuple") rfl mt qCb rfl))))))
   (qD3 (qAm qEe (qAg qAt rfl ml hB1 (pa1 (pv 0))) qAc (qAu _))
   (qDi (qB0 (qBr (qAg (qCh rfl) rfl ma qCi (qAd
    (qDn (N:=["thing"]) (sc:=qAa qGe) (N':=["part"]) (sub:=[none]) rfl rfl (CmpOk.of (by decide +kernel)) rfl (qJv (pv 0))
     (λC s H fp=>⟨qAh (i:=0) (by show(["part"]:List Str).Nodup;decide) rfl (Or.inl rfl),qA4,qA0 G hr rfl .nil qA2 (pa1 (pv 0))⟩)) qAs))))))))
   (qAe (qAo qFs)) qAw)
  (qAe (qAo (qCk qRi (qA6 qA7 (pv 0) qAc (λ_ _=>rfl)) (qA6 qA7 (pv 0) qAc (λ_ _=>rfl)) (qAu _)))),?_⟩
 rcases hP with ⟨a,xs,rfl,rfl,ha,hl,hI⟩|⟨rfl,hN⟩
 ·refine⟨_,rfl,_,_,_,true,rfl,.tup ha,qB7 _ _,true,rfl,qGz ?_⟩;refine⟨_,rfl,a,_,rfl,.inr (SqT.of ha),rfl,_,rfl,?_⟩;refine qB1 (λc=>?_) (λc=>?_)
  ·refine iteT (q false H ⟨λz=>(by cases z),λz=>?_⟩ (Ext.refl _));have:=(qPz z).1;rw[this]at c;cases c
  have l3:xs.length=3:=by
   have:((xs.length:Nat):Int)=3:=by simpa using c
   omega
  have hz:xs.length<=sizeLine:=hAz (qAf (by omega));refine⟨_,rfl,a,rfl,⟨_,SqT.of ha⟩,?_⟩;refine qHj (xs:=xs) (λv=>some (V.bl (nmV v))) ha hz (λx hx H1 he C hC=>?_) λH1 he=>?_
  ·obtain⟨D,hD⟩:=hI x hx;refine⟨sls,iteT (B:=False) ⟨_,rfl,x,D,rfl,hD.ext he,λH' he'=>hC H' he'⟩⟩
  ·intro r hr1;have e1:xs.filterMap (λv=>some (V.bl (nmV v)))=(xs.map nmV).map V.bl:=by
    rw[hB3];exact congrFun (List.filterMap_eq_map (f:=V.bl∘nmV)) xs
   rw[e1];refine⟨r,xs.map nmV,rfl,SqL.of upd_same,(xs.map nmV).all id,rfl,?_⟩;have e2:=he.trans (Ext.new hr1 (.lst ((xs.map nmV).map V.bl)));refine qB1 (λc=>?_) (λc=>?_)
   ·refine q false _ ⟨λz=>(by cases z),λz=>?_⟩ e2;have:=qWj.mpr (qPz z).2;rw[this]at c;cases c
   ·have z2:(xs.map nmV).all id=true:=by
     cases h3:(xs.map nmV).all id with
     |true=>rfl
     |false=>rw[h3]at c;exact absurd rfl c
    have hnm:=qWj.mp z2;obtain⟨x,y,z,rfl⟩:=zE8 l3;obtain⟨s1,rfl⟩:=qCt (hnm x (by simp));obtain⟨s2,rfl⟩:=qCt (hnm y (by simp));obtain⟨s3,rfl⟩:=qCt (hnm z (by simp));have ha2:=e2 _ _ ha;refine⟨_,rfl,a,_,_,_,rfl,rfl,SqT.of ha2,(by exact qAv (j:=1) rfl),?_⟩;refine⟨_,rfl,a,_,_,_,rfl,rfl,SqT.of ha2,(by exact qAv (j:=2) rfl),s2,s3,rfl,rfl,q _ _ ⟨λz=>?_,λz=>?_⟩ e2⟩
    ·exact⟨(s1,s2,s3),rfl,hnm (.str s1) (by simp),hnm (.str s2) (by simp),hnm (.str s3) (by simp),z⟩
    ·obtain⟨t,e,_,_,_,h4⟩:=z;have e':trV (s1,s2,s3)=trV t:=hAr e;cases qPy e';exact h4
 ·obtain⟨t,ty,kt⟩:=hN.ty K;exact⟨_,rfl,_,_,_,false,rfl,ty,kt,false,rfl,iteT (iteT (q false H ⟨λz=>(by cases z),λ⟨t,e,_⟩=>(by cases e)⟩ (Ext.refl _)))⟩
theorem zAo:FnScope ["thing"] ["thing"] (qAa qLp):=fsk
theorem qX9(F:Fun K "has_net_form" "has_net_form" qLp f fd)(G1:v8 2 f1 fd1 ["thing"] qQb "is_tie")
  (G2:v8 2 f2 fd2 ["thing"] (qQc K) "is_row")
  (G3:v8 1 f3 fd3 ["net"] qHm "ties_of") (mi:mg "isinstance"=none) (mL:mg "list"=none) (ma:mg "all"=none) :
  v7 3 f fd ["thing"] qU9:=by
 refine F.okA zAo λcdv A outer s H vs Q E hr h=>?_
 obtain⟨v,d,rfl,hN,q⟩:=h;have hr1:=hr.mono (j:=1) (by decide);refine⟨_,qAb (qBl (PW.pt (qD3 (qB0 (qBr (qAg qBd rfl mi qAz (qAd (pv 0) (pa1 (qCl (v:=.ty "list") rfl mL qBe rfl))))))
   (qDi (qB0 (qBr (qAg (qCh rfl) rfl ma qCi (qAd
    (qDn (N:=["thing"]) (sc:=qAa qLp) (N':=["part"]) (sub:=[none]) rfl rfl (CmpOk.of (by decide +kernel)) rfl (qAx (pv 0))
     (λC s H fp=>⟨qAh (i:=0) (by show(["part"]:List Str).Nodup;decide) rfl (Or.inl rfl),qA4,qA0 G1 hr rfl .nil qA2 (pa1 (pv 0))⟩)) qAs)))))))
   (qAe (qAo qFs)) qAw)
  (qAe (qAo (qA0 G2 hr rfl .nil qA2 (pa1 (qA0 G3 hr1 rfl .nil qA2 (pa1 (pv 0))))))),?_⟩
 rcases hN with ⟨rfl,nl⟩|⟨a,xs,os,rfl,ha,rfl,pr,hl⟩
 ·obtain⟨t,ty,kt⟩:=nl.ty K;exact⟨_,rfl,_,_,_,false,rfl,ty,kt,false,rfl,iteT (iteT (q false H ⟨λz=>(by cases z),λ⟨t,e,_⟩=>(by cases e)⟩ (Ext.refl _)))⟩
 refine⟨_,rfl,_,_,_,true,rfl,.lst ha,qB7 _ _,true,rfl,qGz ?_⟩;have lo:xs.length=os.length:=pr.length;refine⟨_,rfl,a,rfl,⟨_,SqL.of ha⟩,?_⟩;refine qA1 (xs:=xs) (λi ys H1=>Ext H H1/\∃bs:List Bool,ys=bs.map V.bl/\bs.length=i/\(bs.all id=true↔∀o∈os.take i,zCu o)) ⟨Ext.refl _,[],rfl,rfl,⟨λ_ o ho=>(by rw[List.take_zero]at ho;cases ho),λ_=>rfl⟩⟩ (λi ys H1 _ h=>SqL.of (h.1 _ _ ha)) ?_ ?_
 ·rintro i x ys H1 hx ⟨he,bs,rfl,lb,hb⟩;obtain⟨o,ho,hP⟩:=qBw pr hx;have hi:=qBq hx;refine⟨sls,iteT (B:=False) ⟨_,rfl,x,o,rfl,hP.ext he,λb H2 eb e2=>⟨?_,nxt hi ⟨he.trans e2,bs++[b],by rw[hA7];rfl,by rw[hAd,lb];rfl,?_⟩⟩⟩⟩
  ·rw[hA1];exact qAf (by omega)
  ·rw[qAr ho,List.all_append,hB9];constructor
   ·rintro⟨z1,z2⟩ o' ho';rcases hAh.mp ho' with z|z
    ·exact hb.mp z1 o' z
    ·rw[hAa]at z;subst z;exact eb.mp (by simpa using z2)
   ·intro z;exact⟨hb.mpr λo' ho'=>z o' (hAk _ ho'),by simpa using eb.mpr (z o (hAb _ (hAa.mpr rfl)))⟩
 ·rintro ys H1 ⟨he,bs,rfl,lb,hb⟩ r hr1;rw[lo,hA9 (hA3 _)]at hb;refine⟨r,bs,rfl,SqL.of upd_same,bs.all id,rfl,?_⟩;have e2:=he.trans (Ext.new hr1 (.lst (bs.map V.bl)));refine qB1 (λc=>?_) (λc=>?_)
  ·refine q false _ ⟨λz=>(by cases z),λ⟨net,e,tt,_⟩=>?_⟩ e2;have e':os=net.map λt=>some (trV t):=hAr e
   have:bs.all id=true:=hb.mpr λo ho=>by
    rw[e']at ho;obtain⟨t,ht,rfl⟩:=hAe.mp ho;exact⟨t,rfl,tt t ht⟩
   rw[this]at c;cases c
  ·have z2:bs.all id=true:=by
    cases h3:bs.all id with
    |true=>rfl
    |false=>rw[h3]at c;exact absurd rfl c
   obtain⟨as,net,rfl,rfl,tt,pn⟩:=qIa pr (hb.mp z2);have ln:as.length=net.length:=pn.length;rw[hA1]at hl;refine⟨_,rfl,a,net,rfl,⟨as,e2 _ _ ha,Paired.mapP pn λa t z=>e2 _ _ z⟩,by omega,λr2 H2 e3 r20 hr2=>?_⟩;refine⟨_,rfl,.inl ⟨r2,_,rfl,hr2,by rw[hA1,hA1];omega,λy hy=>?_,λb H3 eb e4=>q b H3 (eb.trans ⟨λz=>?_,λz=>?_⟩) ((e2.trans e3).trans e4)⟩⟩
   ·obtain⟨n,hn,rfl⟩:=hAe.mp hy;obtain⟨t,ht,rfl⟩:=hAe.mp hn;exact⟨.str t.1,.inr (.inr (.inr (.inl ⟨t.1,rfl,rfl,(tt t ht).2⟩)))⟩
   ·exact⟨net,rfl,λt ht=>(tt t ht).1,z⟩
   ·obtain⟨net',e,_,z'⟩:=z;cases NdOf.inj e;exact z'
end
theorem qG2{n:Nat}:∀ {ds:List PyData},(∀d∈ds,d.depth<=n)->PyData.depthAll ds<=n
 |[],_=>hAq _
 |d :: ds,h=>Nat.max_le.mpr ⟨h d hA6,qG2 λx hx=>h x (hA4 _ hx)⟩
theorem qVo{s:Str}(h:Sm s)(l:s.length<=7):Rb 7 (.str s):=by
 refine⟨rfl,rfl,?_,l⟩;show(s.cps.toList.all λc=>decide (c<16^8))=true;rw[hBx];intro c hc;exact hDp (Nat.lt_trans (h c hc) (by decide))
structure It3(K:PySem.W.Frag)(H:Hp)(y:V)(D:PyData):Prop where
 it:Item H y D
 dr:DR K H y D
 rb:Rb 20 D
 dp:D.depth<=1
def Sh(s:Str):Prop:=Sm s/\s.length<=7
theorem Sh.ok{s:Str}(h:Sh s):PyData.strOk s=true:=h.1.ok
theorem qDq{K:PySem.W.Frag}{H:Hp}{s:Str}(h:Sh s):It3 K H (.str s) (.str s) :=
 ⟨.inr (.inr (.inr (.inl ⟨s,rfl,rfl,by have:=h.2;omega,h.1⟩))),.str s,(qVo h.1 h.2).mono (by decide),hAq _⟩
theorem zBt{K:PySem.W.Frag}{H:Hp}:It3 K H .non .none:=⟨.inl ⟨rfl,rfl⟩,.non,⟨rfl,rfl,rfl,hAq _⟩,hAq _⟩
theorem qUg{K:PySem.W.Frag}{H:Hp}:It3 K H (.int 7) (.int 7):=⟨.inr (.inr (.inl ⟨7,rfl,rfl⟩)),.int 7,⟨by decide +kernel,rfl,by decide +kernel,hAq _⟩,hAq _⟩
theorem qQ5{ss:List Str}(h:∀s∈ss,Sh s)(l:ss.length<=2):RbA 20 (ss.map .str):=by
 have:=RbA.all (m:=7) (ds:=ss.map PyData.str) λd hd=>by
  obtain⟨s,hs,rfl⟩:=hAe.mp hd;exact qVo (h s hs).1 (h s hs).2
 rw[hA1]at this;exact⟨this.1,this.2.1,this.2.2.1,hAx this.2.2.2 (by omega)⟩
theorem qSh{ss:List Str}:PyData.depthAll (ss.map .str)=0:=by
 induction ss with
 |nil=>rfl
 |cons x r ih=>show max 0 (PyData.depthAll (r.map .str))=0;rw[ih];rfl
theorem zBu{K:PySem.W.Frag}{H:Hp}{a:Addr}{ss:List Str}(h:LsS H a ss)(hs:∀s∈ss,Sh s)(l:ss.length<=2):It3 K H (.ref a) (.list (ss.map .str)) :=
 ⟨.inr (.inr (.inr (.inr (.inl ⟨a,ss,rfl,rfl,h,λx hx=>(hs x hx).ok,by omega,λs q=>⟨by have:=(hs s q).2;omega,(hs s q).1⟩⟩)))),qH0 h,(qQ5 hs l).lst,by show PyData.depthAll _+1<=1;rw[qSh];exact hA3 _⟩
theorem zBs{K:PySem.W.Frag}{H:Hp}{a:Addr}{ss:List Str}(h:H a=some (.tup (ss.map V.str)))(hs:∀s∈ss,Sh s)(l:ss.length<=2):It3 K H (.ref a) (.tuple (ss.map .str)) :=
 ⟨.inr (.inr (.inr (.inr (.inr ⟨a,ss,rfl,rfl,h,λx hx=>(hs x hx).ok,by omega⟩)))),.tup (SqT.of h) (qI8 ss),(qQ5 hs l).tup,by show PyData.depthAll _+1<=1;rw[qSh];exact hA3 _⟩
theorem DRs.of{K:PySem.W.Frag}{H:Hp}{R:V->PyData->Prop}(h:∀ {y D},R y D->DR K H y D):∀ {ys:List V} {Ds:List PyData},Paired R ys Ds->DRs K H ys Ds
 |_,_,.nil=>.nil
 |_,_,.cons a t=>.cons (h a) (DRs.of h t)
theorem qDa{α β:Type}{R:α->β->Prop}:∀ {as:List α} {bs:List β},Paired R as bs->∀b∈bs,∃a∈as,R a b
 |_,_,.nil,b,h=>by cases h
 |_,_,.cons h t,b,hb=>by
  rcases hA8.mp hb with rfl|z
  ·exact⟨_,hA6,h⟩
  ·obtain⟨a,ha,r⟩:=qDa t b z;exact⟨a,hA4 _ ha,r⟩
structure Pd(K:PySem.W.Frag)(H:Hp)(x:V)(od:Option (List V)×PyData):Prop where
 pr:Prt H x od.1
 dr:DR K H x od.2
 rb:Rb 100 od.2
 dp:od.2.depth<=3
theorem zA2{K:PySem.W.Frag}{H:Hp}{a:Addr}{ys:List V}{Ds:List PyData}(h:H a=some (.tup ys))(p:Paired (It3 K H) ys Ds)(l:ys.length<=4):Pd K H (.ref a) (some ys,.tuple Ds):=by
 have len:ys.length=Ds.length:=p.length;have rb:=RbA.all (m:=20) (ds:=Ds) λd hd=>by
  obtain⟨y,_,z⟩:=qDa p d hd;exact z.rb
 refine⟨.inl ⟨a,ys,rfl,rfl,h,by omega,λy hy=>?_⟩,.tup (SqT.of h) (DRs.of (λz=>z.dr) p),?_,?_⟩
 ·obtain⟨D,_,z⟩:=qGn p y hy;exact⟨D,z.it⟩
 ·exact⟨rb.1,rb.2.1,rb.2.2.1,hAx rb.2.2.2 (by omega)⟩
 ·show PyData.depthAll Ds+1<=3;have:=qG2 (n:=1) (ds:=Ds) λd hd=>by
   obtain⟨y,_,z⟩:=qDa p d hd;exact z.dp
  omega
def zCz(t:Tr):PyData:=.tuple [.str t.1,.str t.2.1,.str t.2.2]
def ShT(t:Tr):Prop:=Sh t.1/\Sh t.2.1/\Sh t.2.2
theorem zA3{K:PySem.W.Frag}{H:Hp}{a:Addr}{t:Tr}(h:H a=some (.tup (trV t)))(s:ShT t):Pd K H (.ref a) (some (trV t),zCz t) :=
 zA2 h (.cons (qDq s.1) (.cons (qDq s.2.1) (.cons (qDq s.2.2) .nil))) (by show 3<=4;decide)
structure OddIs(K:PySem.W.Frag)(H:Hp)(v:V)(d:Nd)(D:PyData):Prop where
 nt:Nt H v d
 dr:DR K H v D
 ok:zEg D
theorem Rb.big{d:PyData}{n:Nat}(h:Rb n d)(hn:n<=2000)(hd:d.depth<=16):zEg d:=by
 have:=PyData.shown_le_bulk 8 (hA3 _) d h.2.2.1;have z:(20100:Nat)<=sizeLine:=by decide
 have b:=h.2.2.2;exact⟨h.1,h.2.1,by omega,hd⟩
theorem qYh{K:PySem.W.Frag}{H:Hp}{a:Addr}{xs:List V}{ods:List (Option (List V)×PyData)}(h:H a=some (.lst xs))(p:Paired (Pd K H) xs ods)(l:xs.length<=18):OddIs K H (.ref a) (some (ods.map (·.1))) (.list (ods.map (·.2))):=by
 have len:xs.length=ods.length:=p.length;have p1:Paired (Prt H) xs (ods.map (·.1)):=qC6 _ (λa t z=>z.pr) p;have p2:Paired (DR K H) xs (ods.map (·.2)):=qC6 _ (λa t z=>z.dr) p;have all:∀d∈ods.map (·.2),Rb 100 d/\d.depth<=3:=λd hd=>by
  obtain⟨od,ho,rfl⟩:=hAe.mp hd;obtain⟨y,_,z⟩:=qDa p od ho;exact⟨z.rb,z.dp⟩
 have rb:=RbA.all (m:=100) (ds:=ods.map (·.2)) λd hd=>(all d hd).1
 rw[hA1]at rb;have rb':Rb (101*ods.length) (.list (ods.map (·.2))):=rb.lst;refine⟨.inr ⟨a,xs,_,rfl,h,rfl,p1,by omega⟩,.lst (SqL.of h) (DRs.of (λz=>z) p2),Rb.big rb' (by omega) ?_⟩;show PyData.depthAll _+1<=16;have:=qG2 (n:=3) (ds:=ods.map (·.2)) λd hd=>(all d hd).2
 omega
theorem qVx{K:PySem.W.Frag}{H:Hp}:∀ {as:List Addr} {net:List Tr},Paired (λa t=>H a=some (.tup (trV t))) as net->(∀t∈net,ShT t)->Paired (Pd K H) (as.map V.ref) (net.map λt=>(some (trV t),zCz t))
 |_,_,.nil,_=>.nil
 |_,_,.cons h t,s=>.cons (zA3 h (s _ hA6)) (qVx t λu hu=>s u (hA4 _ hu))
theorem Paired.app{α β:Type}{R:α->β->Prop}:∀ {as as':List α} {bs bs':List β},Paired R as bs->Paired R as' bs'->Paired R (as++as') (bs++bs')
 |_,_,_,_,.nil,h=>h
 |_,_,_,_,.cons a t,h=>.cons a (Paired.app t h)
theorem qYp(net:List Tr):(net.map λt=>(some (trV t),zCz t)).map (·.1)=net.map λt=>some (trV t):=by rw[hB3];rfl
def shB(s:Str):Bool:=(s.cps.toList.all λc=>decide (c<128)) && decide (s.length<=7)
theorem qJq{s:Str}(h:shB s=true):Sh s:=by
 unfold shB at h;rw[hB9,hBx]at h;exact⟨λc hc=>hDs (h.1 c hc),hDs h.2⟩
theorem qDk.sh{s:Str}(h:qDk s):Sh s:=⟨h.1.sm,by have:=h.2.2;omega⟩
theorem TxT.sh{t:Tr}(h:TxT t):ShT t:=⟨qDk.sh h.1,qDk.sh h.2.1,qDk.sh h.2.2.1⟩
theorem qMk{xs:List V}{i:Int}(h0:0<=i)(h1:i<(xs.length:Int)):∃v∈xs,atI xs i=some v:=by
 have hk:i.toNat<xs.length:=by omega
 have hv:atI xs ((i.toNat:Nat):Int)=some xs[i.toNat]:=qAv (hA2 hk);rw[hCp h0]at hv;exact⟨_,hBf hk,hv⟩
abbrev s13:Str:="abcdefghijklm"
def zDg(n:Nat):Nat:=s13.cps.toList.getD n 0
def n12(k:Nat):Tr:=(⟨#[zDg k]⟩,"p"++⟨#[zDg k]⟩,"q"++⟨#[zDg k]⟩)
theorem qYg{K:PySem.W.Frag}{H:Hp}{p:Addr}{net:List Tr}(h:qA5 H p net)(s:∀t∈net,ShT t)(l:net.length<=18):∃D,OddIs K H (.ref p) (NdOf net) D:=by
 obtain⟨as,h1,pr⟩:=h;have la:as.length=net.length:=pr.length;have:=qYh h1 (qVx (K:=K) pr s) (by rw[hA1];omega);rw[qYp]at this;exact⟨_,this⟩
end My
namespace L2
open PySem PySem.Spec PyProof.Rows
section
variable{X:Cx}{es:List Expr}{ta:TE}{t:TA}
theorem zE5{es':List Expr}{p:Pos}(ha:PE X (.List es' p) ta)(hr:PA X es t):PA X (.List es' p :: es) (qBi ta t):=qAd ha hr rfl
theorem zEa{es':List Expr}{c:Nat}{p:Pos}(ha:PE X (.Tuple es' c p) ta)(hr:PA X es t):PA X (.Tuple es' c p :: es) (qBi ta t):=qAd ha hr rfl
theorem qJy{c:Const}{j}{p:Pos}(ha:PE X (.Constant c j p) ta)(hr:PA X es t):PA X (.Constant c j p :: es) (qBi ta t):=qAd ha hr rfl
theorem qD4{x:Str}{p:Pos}(ha:PE X (.Name x p) ta)(hr:PA X es t):PA X (.Name x p :: es) (qBi ta t):=qAd ha hr rfl
theorem zA5{a b:Expr}{p:Pos}(ha:PE X (.Subscript a b p) ta)(hr:PA X es t):PA X (.Subscript a b p :: es) (qBi ta t):=qAd ha hr rfl
theorem zCo{a b:Expr}{o}{p:Pos}(ha:PE X (.BinOp a o b p) ta)(hr:PA X es t):PA X (.BinOp a o b p :: es) (qBi ta t):=qAd ha hr rfl
end
structure PAx(X:Cx)(es:List Expr)(t:TA):Prop where
 h:PA X es t
structure PEx(X:Cx)(e:Expr)(t:TE):Prop where
 h:PE X e t
section
variable{X:Cx}{es:List Expr}{e:Expr}{ta:TE}{t:TA}{p:Pos}{c:Nat}
theorem qNc:PAx X [] qPk:=⟨qAs⟩
theorem zE1{es':List Expr}(ha:PEx X (.List es' p) ta)(hr:PAx X es t):PAx X (.List es' p :: es) (qBi ta t):=⟨zE5 ha.h hr.h⟩
theorem zEz{es':List Expr}(ha:PEx X (.Tuple es' c p) ta)(hr:PAx X es t):PAx X (.Tuple es' c p :: es) (qBi ta t):=⟨zEa ha.h hr.h⟩
theorem qVq{x:Str}{j}(hr:PAx X es t):PAx X (.Constant (.str x) j p :: es) (qBi (tC (.str x)) t):=⟨qJy qA9 hr.h⟩
theorem zE2{x:Int}{j}(hr:PAx X es t):PAx X (.Constant (.int x) j p :: es) (qBi (tC (.int x)) t):=⟨qJy qAc hr.h⟩
theorem zE0{j}(hr:PAx X es t):PAx X (.Constant .none j p :: es) (qBi (tC .non) t):=⟨qJy qNf hr.h⟩
theorem zFd(h:PAx X es t):PEx X (.Tuple es c p) (qZx t):=⟨qBk h.h⟩
theorem zDx(h:PAx X es t):PEx X (.List es p) (qZg t):=⟨qB9 h.h⟩
theorem zDw(h:PE X e ta):PEx X e ta:=⟨h⟩
theorem zDy{a b:Expr}{tb:TE}(ha:PEx X a ta)(hb:PEx X b tb)(hs:qMn b):PEx X (.Subscript a b p) (tOp (zCn X.K) ta tb):=⟨qA6 qBz ha.h hb.h hs⟩
end
end L2
namespace My
open PySem L2
theorem qMf(a:Int){n:Int}(h:0<n):0<=a % n/\a % n<n:=⟨hBw _ (by omega),hBm _ h⟩
theorem shA:Sh "a":=qJq (by decide +kernel)
def trD(t:Tr):PyData:=.tuple [.str t.1,.str t.2.1,.str t.2.2]
def zCr(net:List Tr):PyData:=.list (net.map trD)
theorem zB3(t:Tr):PyData.eqv (trD t) (trD t)=true:=by
 show(t.1 == t.1 && (t.2.1 == t.2.1 && (t.2.2 == t.2.2 && true)))=true;simp
theorem qSc:∀net:List Tr,PyData.eqv (zCr net) (zCr net)=true
 |[]=>rfl
 |t :: r=>by
  have ih:PyData.eqvAll (r.map trD) (r.map trD)=true:=qSc r;show(PyData.eqv (trD t) (trD t) && PyData.eqvAll (r.map trD) (r.map trD))=true;rw[zB3,ih];rfl
theorem qSe{K:PySem.W.Frag}{H:Hp}:∀ {as:List Addr} {net:List Tr},Paired (λa t=>H a=some (.tup (trV t))) as net->DRs K H (as.map V.ref) (net.map trD)
 |_,_,.nil=>.nil
 |_,_,.cons h t=>.cons (.tup (SqT.of h) (.cons (.str _) (.cons (.str _) (.cons (.str _) .nil)))) (qSe t)
theorem qWc{K:PySem.W.Frag}{H:Hp}{p:Addr}{net:List Tr}(h:qA5 H p net):DR K H (.ref p) (zCr net):=by
 obtain⟨as,h1,h2⟩:=h;exact .lst (SqL.of h1) (qSe h2)
theorem qOj:SeqAt.shaped (.list [])=true:=by decide +kernel
theorem zB7{K:PySem.W.Frag}{H:Hp}{p:Addr}(h:H p=some (.lst [])):DR K H (.ref p) (.list []):=.lst (SqL.of h) .nil
theorem qKg{α:Type}{p:α->Bool}{l:List α}{i:Nat}{t:α}(h:l[i]?=some t)(c:p t=true):(l.take (i+1)).filter p=(l.take i).filter p++[t]:=by rw[qAr h,hCk];simp[c]
theorem qKh{α:Type}{p:α->Bool}{l:List α}{i:Nat}{t:α}(h:l[i]?=some t)(c:p t=false):(l.take (i+1)).filter p=(l.take i).filter p:=by rw[qAr h,hCk];simp[c]
theorem qKj:∀a b:List (List Str),PyData.eqvAll (a.map qFr) (b.map qFr)=decide (a=b)
 |[],[]=>rfl
 |[],_ :: _=>rfl
 |_ :: _,[]=>rfl
 |x :: a,y :: b=>by
  show(PyData.eqv (qFr x) (qFr y) && PyData.eqvAll (a.map qFr) (b.map qFr))=_;rw[qKj a b,qSb];by_cases e:x=y
  ·subst e;simp
  ·simp[e]
theorem qUt(a b:List (List Str)):PyData.eqv (qOv a) (qOv b)=decide (a=b):=qKj a b
theorem qNs:∀ {F:List (List Str)},(∀r∈F,SOk r)->PyData.canLayAll0 (F.map qFr)=true/\PyData.depthAll (F.map qFr)<=1
 |[],_=>⟨rfl,by decide⟩
 |x :: r,h=>by
  obtain⟨h1,h2⟩:=qNs (F:=r) λy hy=>h y (hA4 _ hy)
  obtain⟨h3,h4⟩:=qEt (h x hA6);refine⟨?_,?_⟩
  ·show(PyData.canLayAll0 (x.map .str) && PyData.canLayAll0 (r.map qFr))=true;rw[h1,h3];rfl
  ·show max (PyData.depthAll (x.map .str)+1) (PyData.depthAll (r.map qFr))<=1;rw[h4];omega
theorem qN1{K:PySem.W.Frag}{H:Hp}:∀ {as:List Addr} {F:List (List Str)},Paired (LsS H) as F->DRs K H (as.map V.ref) (F.map qFr)
 |_,_,.nil=>.nil
 |_,_,.cons h t=>.cons (qH0 h) (qN1 t)
theorem qY6{K:PySem.W.Frag}{H:Hp}{p:Addr}{F:List (List Str)}(h:qH3 H p F):DR K H (.ref p) (qOv F):=by
 obtain⟨as,h1,h2⟩:=h;exact .lst (SqL.of h1) (qN1 h2)
end My
namespace L2
open PySem PySem.Spec PyProof.Rows
def TrC(h base:Heap)(e:Addr)(cls a0 fl:Value):Prop:=∃(oe:Obj) (vs:Array Value) (T:Addr) (oT:Obj) (ts:Array Value),h.get? e=some oe/\(oe.cls=cls/\vs[0]?=some a0/\vs[2]?=some .none)/\oe.data = .fields vs/\vs[1]?=some (.ref T)/\base.get? T=none/\T≠e/\h.get? T=some oT/\oT.data = .fields ts/\ts[3]?=some fl
structure FlyC(base:Heap)(l:List Env)(e:Addr)(cls a0 fl:Value)(h:Heap):Prop where
 stays:base.StaysIn h
 nob:base.get? e=none
 fun_:h.FunFrames base l
 tr:TrC h base e cls a0 fl
theorem FlyC.there(x:FlyC base l e cls a0 fl h):∃ob,h.get? e=some ob/\ob.cls=cls/\∃vs,ob.data = .fields vs/\vs[2]?=some .none:=by
 obtain⟨oe,vs,T,oT,ts,h1,h2,h3,_⟩:=x.tr;exact⟨oe,h1,h2.1,vs,h3,h2.2.2⟩
section
variable{M:Model}{A:Around}{E:Value->Shared->Prop}{s:Shared}
theorem qI4{base:Heap}{l:List Env}{e:Addr}{cls a0 fl:Value}{Q:Unit->Shared->Prop}(x:FlyC base l e cls a0 fl s.heap)(hQ:∀h',FlyC base l e cls a0 .none h'->s.heap.UpToSlots h'->Q () { s with heap:=h' }):wpAny M A (setFlight (.ref e) none) Q E s:=by
 obtain⟨x1,x2,x3,oe,vs,T,oT,ts,t1,t2,t3,t4,t5,t6,t7,t8,t9⟩:=x;have lt:3<ts.size:=(hCq.mp t9).1;have oth:∀b,b≠T->(s.heap.update T (Obj.mapFields (·.setIfInBounds 3 Value.none))).get? b=s.heap.get? b:=λb hb=>Heap.get?_update_other _ _ (Ne.symm hb)
 have nor:∀b o,s.heap.get? b=some o->(∀v,o.data≠.fields v)->b≠T:=λb o hb hnf q=>by rw[q,t7]at hb;cases hb;exact hnf ts t8
 unfold setFlight;refine hDo (hE2 t1 t3 t4 ?_);rw[hDu (show((Value.ref T != Value.none):Bool)=true by simp)];refine hEt t7 t8 lt (hQ _ ⟨λb o hb=>(oth b λq=>by rw[q,t5]at hb;cases hb).trans (x1 b o hb),x2,x3.of_keeps λb o hb hnf=>⟨o,(oth b (nor b o hb hnf)).trans hb,rfl⟩,oe,vs,T,_,_,(oth e (Ne.symm t6)).trans t1,t2,t3,t4,t5,t6,Heap.get?_update_self _ t7 (Obj.isFreed_of_fields (Obj.data_mapFields t8 _)),Obj.data_mapFields t8 _,by simp[lt]⟩ λb o hb hnf=>⟨o.slots,(oth b (nor b o hb hnf)).trans hb⟩)
theorem qV7{base:Heap}{env:Env}{outer:List Env}{L e:Addr}{oe:Obj}{vs:Array Value}{head a0:Value}{hadNext:Bool}{Q:Unit->Shared->Prop}(hfr:A.frames=some (env :: outer))(hl:s.heap.FunFrames base (env :: outer))(hf:env.frame=some L)
  (he:s.heap.get? e=some oe) (hkb:base.StaysIn s.heap) (hen:base.get? e=none) (hd:oe.data = .fields vs) (hsz:1<vs.size) (h0:vs[0]?=some a0) (h2:vs[2]?=some .none)
  (hQ:∀h',FlyC base (env :: outer) e oe.cls a0 (rawInt L) h'->s.heap.UpToSlots h'->Q () { s with heap:=h' }) :
  wpAny M A (do let a ← frameOf env;let pl ← entryPlaceOf L hadNext;let b ← EntryCells.newEntry head a .none (rawInt L) .none pl;setField (.ref e) 1 b) Q E s:=by
 have nst:e∉(env :: outer).filterMap (·.frame):=λhm=>by
  obtain⟨_,o,ho,hnf⟩:=hl.mem hm;rw[he]at ho;cases ho;exact hnf vs hd
 refine hDo (wpAny_frameOf_fun hfr hl hf λg1 s1=>hDo (wpAny_entryPlaceOf λpl hpl=>?_));unfold EntryCells.newEntry newFields;refine hDo (hDw ?_ (hpl.sizeOk5 _ _ _ _ _));have e1:g1.get? e=some oe:=(s1.2.1 e nst).trans he;have k1:base.StaysIn g1:=λb o hb=>(s1.2.1 b λhm=>by rw[(hl.mem hm).1]at hb;cases hb).trans (hkb b o hb)
 generalize hob:({ cls:=.type "traceback",dict:=none,data:=.fields ([head,.ref L,.none,rawInt L,.none]++(if pl.isEmpty then List.replicate 6 Value.none else pl)).toArray }:Obj)=ob;have obd:∃ts,ob.data = .fields ts/\ts[3]?=some (rawInt L):=by
  rw[<-hob];refine⟨_,rfl,?_⟩;rw[List.getElem?_toArray,hCb (by simp)];rfl
 have obf:ob.isFreed=false:=by rw[<-hob];rfl
 clear hob;have e2:=Heap.get?_push_of_some (h:=g1) ob e1;refine hEt e2 hd hsz (hQ _ ?_ ?_)
 all_goals
  have ne:g1.objs.size≠e:=hCw (Heap.lt_size e1);have kp:∀b o,b≠e->g1.get? b=some o->((g1.push ob).update e (Obj.mapFields (·.setIfInBounds 1 (Value.ref g1.objs.size)))).get? b=some o:=λb o hb e=>by
   rw[Heap.get?_update_other _ _ (Ne.symm hb)];exact Heap.get?_push_of_some _ e
  have nr:∀b o,s.heap.get? b=some o->(∀v,o.data≠.fields v)->b≠e:=λb o hb hnf q=>by rw[q,he]at hb;cases hb;exact hnf vs hd
 ·have d3:=Obj.data_mapFields hd (·.setIfInBounds 1 (Value.ref g1.objs.size));obtain⟨ts,td,t3⟩:=obd;refine⟨λb o hb=>kp b o (λq=>by rw[q,hen]at hb;cases hb) (k1 b o hb),hen,hl.of_keeps λb o hb hnf=>?_,_,_,g1.objs.size,ob,ts,Heap.get?_update_self _ e2 (Obj.isFreed_of_fields d3),⟨Obj.cls_mapFields _ _,?_,?_⟩,d3,by simp[hsz],k1.fresh,ne,(Heap.get?_update_other _ _ (Ne.symm ne)).trans (Heap.get?_push_size g1 obf),td,t3⟩
  ·obtain⟨sl,hs⟩:=s1.2.2 b o hb;exact⟨_,kp b _ (nr b o hb hnf) hs,rfl⟩
  ·rw[Array.getElem?_setIfInBounds_ne (by decide)];exact h0
  ·rw[Array.getElem?_setIfInBounds_ne (by decide)];exact h2
 ·intro b o hb hnf;obtain⟨sl,hs⟩:=s1.2.2 b o hb;exact⟨sl,kp b _ (nr b o hb hnf) hs⟩
theorem zBh{base:Heap}{env:Env}{outer:List Env}{L e:Addr}{oe:Obj}{vs:Array Value}{a0:Value}{Q:Unit->Shared->Prop}(hfr:A.frames=some (env :: outer))(hl:s.heap.FunFrames base (env :: outer))(hf:env.frame=some L)
  (he:s.heap.get? e=some oe) (hkb:base.StaysIn s.heap) (hen:base.get? e=none) (hd:oe.data = .fields vs) (h1:vs[1]?=some .none) (h0:vs[0]?=some a0) (h2:vs[2]?=some .none)
  (hQ:∀h',FlyC base (env :: outer) e oe.cls a0 (rawInt L) h'->s.heap.UpToSlots h'->Q () { s with heap:=h' }):wpAny M A (noteFrame (.ref e) env) Q E s:=by
 unfold noteFrame;simp only[hf];refine hDo (hE2 he hd h1 ?_);rw[hDt (by decide)];exact qV7 hfr hl hf he hkb hen hd (hCq.mp h1).1 h0 h2 hQ
theorem zBi{base:Heap}{env:Env}{outer:List Env}{L e:Addr}{cls a0:Value}{Q:Unit->Shared->Prop}(hfr:A.frames=some (env :: outer))(hf:env.frame=some L)(x:FlyC base (env :: outer) e cls a0 .none s.heap)
  (hQ:∀h',FlyC base (env :: outer) e cls a0 (rawInt L) h'->s.heap.UpToSlots h'->Q () { s with heap:=h' }):wpAny M A (noteFrame (.ref e) env) Q E s:=by
 obtain⟨x1,x2,x3,oe,vs,T,oT,ts,t1,⟨rfl,ta,tc⟩,t3,t4,t5,t6,t7,t8,t9⟩:=x;unfold noteFrame;simp only[hf];refine hDo (hE2 t1 t3 t4 ?_);rw[hDu (show((Value.ref T != Value.none):Bool)=true by simp)];refine hDo (hE2 t7 t8 t9 ?_);rw[hDt (show ¬(((Value.none == rawInt L):Bool)=true) by simp[rawInt])];refine hDo (hEt t7 t8 (hCq.mp t9).1 ?_);have oth:∀b,b≠T->(s.heap.update T (Obj.mapFields (·.setIfInBounds 3 Value.none))).get? b=s.heap.get? b:=λb hb=>Heap.get?_update_other _ _ (Ne.symm hb)
 have nor:∀b o,s.heap.get? b=some o->(∀v,o.data≠.fields v)->b≠T:=λb o hb hnf q=>by rw[q,t7]at hb;cases hb;exact hnf ts t8
 exact qV7 hfr (x3.of_keeps λb o hb hnf=>⟨o,(oth b (nor b o hb hnf)).trans hb,rfl⟩) hf ((oth e (Ne.symm t6)).trans t1) (λb o hb=>(oth b λq=>by rw[q,t5]at hb;cases hb).trans (x1 b o hb)) x2 t3 (hCq.mp t4).1 ta tc
  λh' fl up=>hQ h' fl λb o hb hnf=>up b o ((oth b (nor b o hb hnf)).trans hb) hnf
end
def Fly(H:Hp)(h0 h:Heap)(e:Addr)(cls:Value):Prop :=
 h0.get? e=none/\H e=none/\∃(a0:Value) (oe:Obj) (vs:Array Value) (T:Addr) (oT:Obj) (ts:Array Value),h.get? e=some oe/\(oe.cls=cls/\vs[0]?=some a0/\vs[2]?=some .none)/\oe.data = .fields vs/\vs[1]?=some (.ref T)/\T≠e/\h0.get? T=none/\H T=none/\h.get? T=some oT/\oT.data = .fields ts/\ts[3]?=some .none
def CXe(P:Program)(w:World):CXT:=λouter H s E e s'=>∃(ea:Addr) (cls:Value) (H':Hp),e = .ref ea/\s'.os=s.os/\AllBare s'.gens/\Un (frs outer) [] H H' s.heap s'.heap/\HOk P w H' s'.heap/\Fly H' s.heap s'.heap ea cls/\E cls none H'
theorem qRj:∀ {o:HO},qB3 P w H h a o->∃ob,h.get? a=some ob
 |.lst _,x=>by obtain⟨_,_,_,_,e⟩:=x;exact⟨_,e⟩
 |.tup _,x=>by obtain⟨_,_,_,p⟩:=x;obtain⟨ob,e,_⟩:=p;exact⟨_,e⟩
 |.dK _,x=>by obtain⟨_,_,_,_,ob,_,_,e,_⟩:=x;exact⟨_,e⟩
 |.dT _,x=>by obtain⟨_,_,_,_,ob,_,_,e,_⟩:=x;exact⟨_,e⟩
 |.set _ _,x=>by obtain⟨ob,_,_,_,e,_⟩:=x;exact⟨_,e⟩
 |.ins _ _ _,x=>by obtain⟨_,_,_,e,_⟩:=x;exact⟨_,e⟩
 |.own _,x=>x
 |.xd _,x=>by obtain⟨_,⟨ob,_,_,e,_⟩,_⟩:=x;exact⟨_,e⟩
 |.rng _ _,x=>by obtain⟨_,_,_,e⟩:=x;exact⟨_,e⟩
 |.frz _ _,x=>⟨_,x.1⟩
 |.tbl _,x=>⟨_,x⟩
 |.met _ _,x=>⟨_,x⟩
 |.ext _,x=>x.2.1
theorem qFz{h b1 b2:Heap}:∀ {l:List Env},h.FunFrames b1 l->(∀a∈frs l,b2.get? a=none)->h.FunFrames b2 l
 |[],_,_=>trivial
 |env :: r,hl,hn=>by
  obtain⟨k,⟨L,o,f,_,ho,hd⟩,hr⟩:=hl;have m:frs (env :: r)=L :: frs r:=by unfold frs;rw[hC4,f]
  rw[m]at hn;exact⟨k,⟨L,o,f,hn L hA6,ho,hd⟩,qFz hr λa ha=>hn a (hA4 _ ha)⟩
section
variable{P:Program}{w:World}{K:PySem.W.Frag}{mg:Str->Option Value}{base:Heap}{N:List Str}{qual:Str}{scope:Scope}{f:Addr}{cd:Value}{A:Around}{outer:List Env}{s:Shared}{H:Hp}{E:XK}
abbrev cxE(P:Program)(w:World)(K:PySem.W.Frag)(mg:Str->Option Value)(base:Heap)(N:List Str)(qual:Str)(scope:Scope)(f:Addr)(cd:Value)(A:Around)(outer:List Env)(s:Shared)(H:Hp)(E:XK):Cx:=qSn (CXe P w) P w K mg base N qual scope f cd A outer s H E
theorem qRv(J:Inv (cxE P w K mg base N qual scope f cd A outer s H E) aB σ H' s')(He:H' ea=none)(Hs:s.heap.get? ea=none)
  (ex:List Addr) (hex:∀t∈ex,H' t=none/\s.heap.get? t=none) (lf:FlyC (PySem.W.hideAll s'.heap (ea :: (ex++frs (cxE P w K mg base N qual scope f cd A outer s H E).stack))) (cxE P w K mg base N qual scope f cd A outer s H E).stack ea cls a0 .none h'') (l4:s'.heap.UpToSlots h'') (q:E cls none H') :
  CXe P w outer H s E (.ref ea) { s' with heap:=h'' }:=by
 obtain⟨l1,_,l2,oe,vs,T,oT,ts,t1,t2,t3,t4,t5,t6,t7,t8,t9⟩:=lf;have fr:=J.stack;have frf:=J.stkFree;have kp:∀b o,s'.heap.get? b=some o->b≠ea->b∉ex->b∉frs (cxE P w K mg base N qual scope f cd A outer s H E).stack->h''.get? b=some o:=λb o e n1 n2 n3=>l1 b o (hDk _ e (by
  rw[hA8,hAh];rintro(z|z|z)
  ·exact n1 z
  ·exact n2 z
  ·exact n3 z))
 have old:∀b o,s.heap.get? b=some o->b≠ea/\b∉ex/\b≠(envOfC qual scope s.heap.objs.size f cd).locals:=λb o e=>by
  refine⟨λz=>?_,λz=>?_,λz=>?_⟩
  ·rw[z,Hs]at e;cases e
  ·rw[(hex b z).2]at e;cases e
  ·have lt:=Heap.lt_size e;rw[z]at lt;exact absurd (hAl lt J.ok.above) (hBe _)
 have stk:∀b,b∈frs (cxE P w K mg base N qual scope f cd A outer s H E).stack->b=(envOfC qual scope s.heap.objs.size f cd).locals\/b∈frs outer:=λb hb=>by
  have:frs (cxE P w K mg base N qual scope f cd A outer s H E).stack=(envOfC qual scope s.heap.objs.size f cd).locals :: frs outer:=rfl;rw[this]at hb;exact hA8.mp hb
 have stk':∀b,b∈frs outer->b∈frs (cxE P w K mg base N qual scope f cd A outer s H E).stack:=λb hb=>hA4 _ hb
 have sl:∀b o,s'.heap.get? b=some o->b∈frs (cxE P w K mg base N qual scope f cd A outer s H E).stack->∃z,h''.get? b=some { o with slots:=z }:=λb o e hb=>by
  obtain⟨_,o',ho',hd⟩:=fr.mem hb;rw[e]at ho';cases ho';exact l4 b o e hd
 have trk:∀b u,H' b=some u->b≠ea/\b∉ex/\b∉frs (cxE P w K mg base N qual scope f cd A outer s H E).stack:=λb u e=>by
  refine⟨λz=>?_,λz=>?_,λz=>?_⟩
  ·rw[z,He]at e;cases e
  ·rw[(hex b z).1]at e;cases e
  ·rw[frf b z]at e;cases e
 refine⟨ea,cls,H',rfl,J.os,J.bare,⟨λb o e n hb hx=>?_,λb o e n hb hx=>?_,J.base.free,λb o e hx=>?_,J.base.tups,J.base.frzs,J.base.tbls⟩,λa o e=>?_,⟨Hs,He,a0,oe,vs,T,oT,ts,t1,t2,t3,t4,t6,?_,?_,t7,t8,t9⟩,q⟩
 ·obtain⟨o1,o2,o3⟩:=old b o e;exact kp b o (J.base.keep b o e n hb hx) o1 o2 λz=>(stk b z).elim o3 hb
 ·obtain⟨z,e1⟩:=J.base.slot b o e n hb hx;obtain⟨z2,e2⟩:=sl b _ e1 (stk' b hb);exact⟨z2,e2⟩
 ·obtain⟨o1,o2,o3⟩:=old b o e;obtain⟨o',e1⟩:=J.base.there b o e hx;by_cases hb:b∈frs (cxE P w K mg base N qual scope f cd A outer s H E).stack
  ·obtain⟨z,e2⟩:=sl b o' e1 hb;exact⟨_,e2⟩
  ·exact⟨o',kp b o' e1 o1 o2 hb⟩
 ·refine(J.hok a o e).stay (λb u hb q'=>?_) (λb z=>z) λb xs z=>z
  have hb':∃v,H' b=some v:=by
   rcases hb with z|z
   ·rw[z];exact⟨_,e⟩
   ·exact⟨_,z⟩
  obtain⟨v,hv⟩:=hb';obtain⟨n1,n2,n3⟩:=trk b v hv;exact kp b u q' n1 n2 n3
 all_goals
  have cs:s'.heap.get? T=none\/T∈ex:=by
   cases z:s'.heap.get? T with
   |none=>exact .inl rfl
   |some o =>
    refine .inr ?_;by_cases h2:T∈ex
    ·exact h2
    ·exfalso;by_cases h3:T∈frs (cxE P w K mg base N qual scope f cd A outer s H E).stack
     ·obtain⟨y,e2⟩:=sl T o z h3;rw[t7]at e2;obtain⟨_,o',ho',hd⟩:=fr.mem h3;rw[z]at ho';cases ho';cases e2;exact hd _ t8
     ·have:=hDk (ea :: (ex++frs (cxE P w K mg base N qual scope f cd A outer s H E).stack)) z (by
       rw[hA8,hAh];rintro(y|y|y)
       ·exact t6 y
       ·exact h2 y
       ·exact h3 y)
      rw[t5]at this;cases this
 ·rcases cs with z|z
  ·cases y:s.heap.get? T with
   |none=>rfl
   |some o =>
    obtain⟨o',e1⟩:=J.base.there T o y (λz=>by cases z);rw[z]at e1;cases e1
  ·exact(hex T z).2
 ·rcases cs with z|z
  ·cases y:H' T with
   |none=>rfl
   |some u =>
    exfalso;obtain⟨o,ho⟩:=qRj (J.hok T u y);rw[z]at ho;cases ho
  ·exact(hex T z).1
end
section
variable{P:Program}{w:World}{K:PySem.W.Frag}{mg:Str->Option Value}{base:Heap}{N:List Str}{qual:Str}{scope:Scope}{f:Addr}{cd:Value}{A:Around}{outer:List Env}{s:Shared}{H:Hp}{E:XK}
theorem qRe:qDt (CXe P w) (cxE P w K mg base N qual scope f cd A outer s H E) E:=by
 intro aB σ H1 s1 e s' I c;obtain⟨ea,cls,H',rfl,os,bare,un,hok,⟨f1,f2,a0,oe,vs,T,oT,ts,t1,t2,t3,t4,t5,t6,t7,t8,t9,t10⟩,q⟩:=c;have J:Inv (cxE P w K mg base N qual scope f cd A outer s H E) aB σ H' s':=I.call' (ch:=[]) os un hok bare (λb z=>by cases z);have up:∀a,s1.heap.get? a=none->s.heap.get? a=none:=λa z=>by
  cases y:s.heap.get? a with
  |none=>rfl
  |some o =>
   obtain⟨o',e1⟩:=I.base.there a o y (λz=>by cases z);rw[z]at e1;cases e1
 show wpAny (model P w) _ (leaving (envOfC qual scope s.heap.objs.size f cd) (.ref ea)) _ _ s';have fl:FlyC (PySem.W.hideAll s'.heap (ea :: ([T]++frs (cxE P w K mg base N qual scope f cd A outer s H E).stack))) (cxE P w K mg base N qual scope f cd A outer s H E).stack ea cls a0 .none s'.heap:=⟨λb o z=>PySem.W.of_hideAll _ z,hBs _ hA6,qFz J.stack λa ha=>hBs _ (hA4 _ (hAb _ ha)),
  oe,vs,T,oT,ts,t1,t2,t3,t4,hBs _ (hA4 _ (hAk _ (hAa.mpr rfl))),t5,t8,t9,t10⟩
 unfold leaving;refine hDo (zBi (outer:=outer) J.ok.frames rfl fl λg1 fl1 up1=>qI4 fl1 λh'' lf up2=>?_);refine qRv (s':=s') J f2 (up ea f1) [T] (λt ht=>?_) lf (up1.trans up2) q;rw[hAa.mp ht];exact⟨t7,up T t6⟩
theorem zA4:qDt (CXe P w) X E0:=λ_ _ _ _ _ _ _ ⟨_,_,_,_,_,_,_,_,_,q⟩=>q.elim
theorem qTn(J:Inv (cxE P w K mg base N qual scope f cd A outer s H E) aB σ H' s2)(hm:Heap.MadeExcOf s2.heap h' ea cls args)(q:E cls none H') :
  (cxE P w K mg base N qual scope f cd A outer s H E).xe (.ref ea) { s2 with heap:=h' }:=by
 have J3:Inv (cxE P w K mg base N qual scope f cd A outer s H E) aB σ H' { s2 with heap:=h' }:=J.kept (t':=s2.toks) hm.keeps;have He:H' ea=none:=by
  cases y:H' ea with
  |none=>rfl
  |some u =>
   obtain⟨o,ho⟩:=qRj (J.hok ea u y);rw[hm.new]at ho;cases ho
 have Hs:s.heap.get? ea=none:=by
  cases y:s.heap.get? ea with
  |none=>rfl
  |some o =>
   obtain⟨o',e1⟩:=J.base.there ea o y (λz=>by cases z);rw[hm.new]at e1;cases e1
 obtain⟨t,ht,_,_⟩:=hm.there;show wpAny (model P w) _ (leaving (envOfC qual scope s.heap.objs.size f cd) (.ref ea)) _ _ _;unfold leaving;refine hDo (zBh (a0:=.ref t) (base:=PySem.W.hideAll h' (ea :: ([]++frs (cxE P w K mg base N qual scope f cd A outer s H E).stack))) (outer:=outer) (s:={ s2 with heap:=h' }) J3.ok.frames (qFz J3.stack λa ha=>hBs _ (hA4 _ ha)) rfl ht (λb o z=>PySem.W.of_hideAll _ z) (hBs _ hA6) rfl rfl rfl rfl λg1 fl1 up1=>qI4 fl1 λh'' lf up2=>?_);exact qRv (s':={ s2 with heap:=h' }) J3 He Hs [] (λt ht=>by cases ht) lf (up1.trans up2) q
def qZy(C:Addr)(E:XK)(t:TA):TS:=λD σ H=>t σ H λvs H1=>vs.length<=sizeLine/\E (.ref C) none H1
theorem qEl(hh:A.handled=none)(Fn:ExcBaseFacts Bn newId inN bmN)(hBn:bmB.contains (.type Bn)=true)(F:ExcBaseFacts B nid initId bmB)(O:OwnCls x C bmB newId mg base)
  (ha:PA (cxE P w K mg base N qual scope f cd A outer s H E) (e :: es) t) (hg:Gl (cxE P w K mg base N qual scope f cd A outer s H E) x) (hb:bmB.contains (.type "BaseException")=true) (hdb:(x == ("__debug__" : Str))=false:=by decide)
  (he:starEach (e :: es) (cxE P w K mg base N qual scope f cd A outer s H E).env=(false,eval e (cxE P w K mg base N qual scope f cd A outer s H E).env) :: starEach es (cxE P w K mg base N qual scope f cd A outer s H E).env:=by rfl) (hpl:(backTo cpos (starEach (e :: es) (cxE P w K mg base N qual scope f cd A outer s H E).env)).any (·.1)=false:=by rfl) :
  PS (cxE P w K mg base N qual scope f cd A outer s H E) (.Raise (some (.Call (.Name x np) (e :: es) [] cpos)) none pos) (qZy C E t):=by
 intro aB s1 σ H1 D I h;obtain⟨bm,N',nm,q,bs,hdct,sn,sub,ab,col,dd,k0,k1,k2,k3,k5,mN,hC,hN,hni,T⟩:=O.2;refine wpAny_Raise_call_subU (C:=C) (nm:=nm) (q:=q) (N:=N') (bs:=bs) (bm:=bm) (hdct:=hdct) (sn:=sn) (sub:=sub) (ab:=ab) (col:=col) (dd:=dd) (k0:=k0) (k1:=k1) (k2:=k2) (k3:=k3) (k5:=k5) Fn hBn F (T.hasType hb) hh hpl hni ?_;refine qGx I hg O.1 ⟨rfl,?_⟩ hdb;rw[he];refine Calls.evalArgs_plain ?_;have:=ha cpos aB s1 σ H1 _ I h;rw[he]at this;refine thn this λus s2 ⟨vs,H2,I2,rv,hl,hE⟩=>⟨rfl,by rw[<-rv.length];exact hl,I2.bk _ _ hC,hN.keeps I2.bk,T.keeps I2.bk,λh' ea hm=>qTn I2 hm hE⟩
theorem Fun.okE{x:Str}{st:Stmt}{fd:FuncData}{ps:List Str}{k:Nat}{sp:Sp}(F:Fun K x qual st f fd)(S:FnScope N ps (qAa st))(len:∀vs H Q E,sp vs H Q E->vs.length=ps.length)
  (hbody:∀(cdv:Value) (A:Around) (outer:List Env) (s:Shared) (H:Hp) (vs:List V) (Q:VK) (E:XK),Room k (A.deeper (envOfC qual (qAa st) s.heap.objs.size f cdv))->A.handled=none->sp vs H Q E ->
   ∃t,PSs (cxE P w K mg base N qual (qAa st) f cdv A outer s H E) (qAk st) t/\t { nx:=λ_ H'=>Q .non H',rt:=Q } (start N vs) H):FnOk P w K mg base (CXe P w) (k+1) f fd ps sp:=by
 obtain⟨oc,od,kV,doc,pm,an,cdv,ct,osl,rfl,lk,hcd⟩:=F.ex;exact zB2 lk hcd S len λA outer s H vs Q E hr hsp=>hbody cdv A outer s H vs Q E hr hr.hd hsp
end
section
variable{X:Cx}{aB:List (Addr×Obj)}{σ:St}{H:Hp}{s:Shared}{h':Heap}
theorem Inv.move(I:Inv X aB σ H s)(hp:∀p∈pn++pins',p∈X.pn++aB)(hA:A.frames=X.A.frames)(hc:calm=true->A.handled=none) :
  Inv { X with A:=A,calm:=calm,xe:=xe,pn:=pn } pins' σ H s :=
 ⟨⟨I.ok.mod,I.ok.kind,I.ok.glob,I.ok.blt,I.ok.above,I.ok.inj,I.ok.has,I.ok.cab,hc,hA.trans I.ok.frames,I.ok.stk,I.ok.exf,I.ok.bs,I.ok.bsz,I.ok.noex,I.ok.exfs,I.ok.funs,I.ok.frf⟩,I.os,I.bare,I.base,I.loc,I.cell,I.free,I.freeC,λp h=>I.pin p (hp p h),I.hok,I.len⟩
structure New(X:Cx)(aB:List (Addr×Obj))(b:Addr):Prop where
 s0:X.s₀.heap.get? b=none
 loc:b≠X.env.locals
 cel:∀x c,X.env.cells.lookup x=some c->c≠b
 pin:∀p∈X.pn++aB,p.1≠b
theorem Inv.new_of(I:Inv X aB σ H s)(hex:X.ex=[])(e:s.heap.get? b=none):New X aB b:=by
 refine⟨?_,λz=>?_,λx c hc z=>?_,λp hp z=>?_⟩
 ·cases y:X.s₀.heap.get? b with
  |none=>rfl
  |some o =>
   obtain⟨o',e1⟩:=I.base.there b o y (by rw[hex];intro z;cases z);rw[e]at e1;cases e1
 ·obtain⟨m,⟨o,_,_,ho,_⟩,_⟩:=I.loc;rw[<-z,e]at ho;cases ho
 ·obtain⟨v,o,ho,_⟩:=I.cell x c hc;rw[z,e]at ho;cases ho
 ·have:=(I.pin p hp).1;rw[z,e]at this;cases this
theorem Inv.exs(I:Inv X aB σ H s)(hn:∀b∈ch,New X aB b):Inv { X with ex:=X.ex++ch } aB σ H s :=
 ⟨⟨I.ok.mod,I.ok.kind,I.ok.glob,I.ok.blt,I.ok.above,I.ok.inj,I.ok.has,I.ok.cab,I.ok.hd,I.ok.frames,I.ok.stk,λb hb=>(hAh.mp hb).elim (I.ok.exf b) λz=>⟨(hn b z).loc,(hn b z).cel⟩,I.ok.bs,I.ok.bsz,
  λb o e hb=>(hAh.mp hb).elim (I.ok.noex b o e) λz=>(by
   have:=(I.ok.bs b o e).1;rw[(hn b z).s0]at this;cases this),
  λb hb hf=>(hAh.mp hb).elim (λz=>I.ok.exfs b z hf) λz=>(by
   obtain⟨_,o,ho,_⟩:=I.ok.funs.mem hf;rw[(hn b z).s0]at ho;cases ho),I.ok.funs,I.ok.frf⟩,I.os,I.bare,
  ⟨λb o e n hb hx=>I.base.keep b o e n hb λz=>hx (hAk _ z),λb o e n hb hx=>I.base.slot b o e n hb λz=>hx (hAk _ z),λb o e n hx=>I.base.free b o e n λz=>hx (hAk _ z),λb o e hx=>I.base.there b o e λz=>hx (hAk _ z),I.base.tups,I.base.frzs,I.base.tbls⟩,
  I.loc,I.cell,I.free,I.freeC,I.pin,I.hok,I.len⟩
theorem Inv.unexs(ok:X.Ok)(I:Inv { X with ex:=X.ex++ch } aB σ H s)(hn:∀b∈ch,New X aB b):Inv X aB σ H s:=by
 have nx:∀b o,X.s₀.heap.get? b=some o->b∉X.ex->b∉X.ex++ch:=λb o e hx hb=>(hAh.mp hb).elim hx λz=>by rw[(hn b z).s0]at e;cases e
 exact⟨ok,I.os,I.bare,⟨λb o e n hb hx=>I.base.keep b o e n hb (nx b o e hx),λb o e n hb hx=>I.base.slot b o e n hb (nx b o e hx),λb o e n hx=>I.base.free b o e n (nx b o e hx),λb o e hx=>I.base.there b o e (nx b o e hx),I.base.tups,I.base.frzs,I.base.tbls⟩,
  I.loc,I.cell,I.free,I.freeC,I.pin,I.hok,I.len⟩
theorem Inv.flown(J:Inv X aB σ H s)(hn:∀b∈ch,New X aB b)(hH:∀b∈ch,H b=none)(st:(PySem.W.hideAll s.heap (ch++frs X.stack)).StaysIn h')(up:s.heap.UpToSlots h'):Inv X aB σ H { s with heap:=h' }:=by
 have kp:∀b o,s.heap.get? b=some o->b∉ch->b∉frs X.stack->h'.get? b=some o:=λb o e n1 n2=>st b o (hDk _ e λz=>(hAh.mp z).elim n1 n2)
 have sl:∀b o,s.heap.get? b=some o->b∈frs X.stack->∃z,h'.get? b=some { o with slots:=z }:=λb o e hb=>by
  obtain⟨_,o',ho',hd⟩:=J.stack.mem hb;rw[e]at ho';cases ho';exact up b o e hd
 have u:Un (frs X.stack) ch H H s.heap h':=⟨λb o e _ n1 n2=>kp b o e n2 n1,λb o e _ hb _=>sl b o e hb,λ_ _ _ n _=>n,λb o e n2=>by
  by_cases hb:b∈frs X.stack
  ·obtain⟨z,e2⟩:=sl b o e hb;exact⟨_,e2⟩
  ·exact⟨o,kp b o e n2 hb⟩,λ_ _ e=>e,λ_ _ _ e=>e,λb ps e=>⟨#[],by rw[e];simp⟩⟩
 have hok:HOk X.prog X.w H h':=λa o e=>by
  refine(J.hok a o e).stay (λb u hb q=>?_) (λ_ z=>z) λ_ _ z=>z
  have hv:∃v,H b=some v:=hb.elim (λz=>⟨o,by rw[z];exact e⟩) λz=>⟨_,z⟩
  obtain⟨v,hv⟩:=hv;exact kp b u q (λz=>by rw[hH b z]at hv;cases hv) λz=>by rw[J.stkFree b z]at hv;cases hv
 exact Inv.unexs J.ok ((J.exs hn).call' (s':={ s with heap:=h' }) (ch:=ch) rfl u hok J.bare λb hb=>⟨.inl (hAb _ hb),(hn b hb).loc,(hn b hb).cel,(hn b hb).pin⟩) hn
def exO(ea:Addr)(cls:Value):HO:=.ext λh=>∃o,h.get? ea=some o/\o.cls=cls/\∃vs,o.data = .fields vs/\vs[2]?=some .none
theorem Inv.adopt(J:Inv X aB σ H s)(n:New X aB ea)(he:H ea=none)(ho:∃o,s.heap.get? ea=some o/\o.cls=cls/\∃vs,o.data = .fields vs/\vs[2]?=some .none):Inv X aB σ (upd H ea (exO ea cls)) s:=by
 have ne:∀b o,H b=some o->b≠ea:=λb o e z=>by rw[z,he]at e;cases e
 have n0:∀b o,X.s₀.heap.get? b=some o->b≠ea:=λb o e z=>by rw[z,n.s0]at e;cases e
 refine⟨J.ok,J.os,J.bare,⟨J.base.keep,J.base.slot,λb o e nn hx=>?_,J.base.there,λb xs e=>?_,λb o u e=>?_,λb ps e=>?_⟩,J.loc,J.cell,?_,λx c e=>?_,λp hp=>?_,λa o e=>?_,J.len⟩
 ·rw[qAj (n0 b o e)];exact J.base.free b o e nn hx
 ·rw[qAj (ne b _ (J.base.tups b xs e))];exact J.base.tups b xs e
 ·rw[qAj (ne b _ (J.base.frzs b o u e))];exact J.base.frzs b o u e
 ·obtain⟨m,e1⟩:=J.base.tbls b ps e;exact⟨m,by rw[qAj (ne b _ e1)];exact e1⟩
 ·rw[qAj (Ne.symm n.loc)];exact J.free
 ·rw[qAj (n.cel x c e)];exact J.freeC x c e
 ·obtain⟨a1,a2,a3⟩:=J.pin p hp;exact⟨a1,by rw[qAj (n.pin p hp)];exact a2,a3⟩
 ·by_cases z:a=ea
  ·subst z;rw[upd_same]at e;cases e;obtain⟨o,h1,h2⟩:=ho;refine⟨⟨o,h1,h2⟩,⟨o,h1⟩,λg1 g2 ⟨o',q1,q2⟩ k=>⟨o',k o' q1,q2⟩⟩
  ·rw[qAj z]at e;refine(J.hok a o e).stay (λ_ _ _ q=>q) (λb q=>?_) λb xs q=>?_
   ·rw[qAj (ne b _ q)];exact q
   ·rw[qAj (ne b _ q)];exact q
theorem qEq(I:Inv X aB σ H s)(hN:X.N.Nodup)(hi:X.N[i]?=some n)(hx:X.env.scope.names.lookup n=some .local)
  (h:∀s',Inv X aB (σ.set i none) H s'->Q () s'):wpAny M A (do bindName X.env n .none;unbindBehindTheSuite X.env n pos) Q E s:=by
 have hcls:(X.env.scope.kind == .class || (X.env.scope.kind == .module && X.env.locals != X.env.globals))=false:=by rw[I.ok.kind];rfl
 refine hDo (wpAny_bindName (qEj I hN hi (.inl hx) (v:=.non) (u:=.none) rfl (λs1 J=>?_) (.inr hx)));have hiσ:i < σ.length:=by rw[I.len];exact(hAc.mp hi).1
 obtain⟨m,hn,hl⟩:=id J.loc;have hv:∃v,m n=some v:=by
  obtain⟨u,_,l⟩:=hl i n .non hi (hD2 hiσ) (.inl hx);rcases l with ⟨_,e⟩|⟨k,_⟩
  ·exact⟨u,e⟩
  ·have k0:X.env.kindOf n=some .local:=hx;rcases k with k|k <;> (rw[k0]at k;cases k)
 obtain⟨v,hv⟩:=hv;unfold unbindBehindTheSuite;refine wpAny_onRaise (wpAny_unbindName_local hx hn hv hcls λh' u hn' hs=>?_);have eq:∀b,b≠X.env.locals->h'.get? b=s1.heap.get? b:=λb hb=>hs.2 b hb
 obtain⟨oL,_,_,hoL,_⟩:=id hn';have nL:∀b o,X.s₀.heap.get? b=some o->b≠X.env.locals:=λb o e=>hAi (hAl (Heap.lt_size e) J.ok.above)
 refine h _ ⟨J.ok,J.os,J.bare,⟨λb o e n hb hx=>(eq b (nL b o e)).trans (J.base.keep b o e n hb hx),λb o e n hb hx=>?_,J.base.free,λb o e hx=>?_,J.base.tups,J.base.frzs,J.base.tbls⟩,⟨_,hn',λj y v' e1 e2 e3=>?_⟩,λy c e=>?_,J.free,J.freeC,λp hp=>?_,λa o e=>?_,by rw[List.length_set];exact I.len⟩
 ·obtain⟨z,e1⟩:=J.base.slot b o e n hb hx;exact⟨z,(eq b (nL b o e)).trans e1⟩
 ·obtain⟨o',e1⟩:=J.base.there b o e hx;exact⟨o',(eq b (nL b o e)).trans e1⟩
 ·by_cases hj:j=i
  ·subst hj;rw[hD2 hiσ]at e2;cases e2
  ·rw[hCu (Ne.symm hj)]at e2;obtain⟨u',r',q⟩:=hl j y v' e1 (by rw[hCu (Ne.symm hj)];exact e2) e3;refine⟨u',r',?_⟩;rcases q with ⟨k,e⟩|⟨k,c,e,o,ho,hd⟩
   ·refine .inl ⟨k,?_⟩;show(if y=n then u else m y)=some u';rw[hDt (λ(z:y=n)=>hj (qIx hN (by rw[z]at e1;exact e1) hi))];exact e
   ·exact .inr ⟨k,c,e,o,(eq c (J.cne y c e)).trans ho,hd⟩
 ·obtain⟨v,o,ho,hd⟩:=J.cell y c e;exact⟨v,o,(eq c (J.cne y c e)).trans ho,hd⟩
 ·obtain⟨a1,a2,a3,a4⟩:=J.pin p hp;exact⟨(eq p.1 a3).trans a1,a2,a3,a4⟩
 ·refine(J.hok a o e).stay (λb u hb q=>(eq b λz=>?_).trans q) (λ_ z=>z) λ_ _ z=>z
  have hv:∃v,H b=some v:=hb.elim (λz=>⟨o,by rw[z];exact e⟩) λz=>⟨_,z⟩
  obtain⟨v,hv⟩:=hv;rw[z,J.free]at hv;cases hv
end
def zC0(N:Nat)(K:PySem.W.Frag)(i:Nat)(C:Addr)(E:XK)(tb:TS)(ts:Addr->TS):TS:=λD σ H=>tb D σ H/\∀(cls:Value) (H':Hp) (ea:Addr) (σ':St),E cls none H'->H' ea=none->σ'.length=N ->
 PySem.W.exmOne K cls (.ref C)=some true/\ts ea { nx:=λσ2 H2=>D.nx (σ2.set i none) H2,rt:=D.rt,bk:=λσ2 H2=>D.bk (σ2.set i none) H2,ct:=λσ2 H2=>D.ct (σ2.set i none) H2 } (σ'.set i (some (.ref ea))) (upd H' ea (exO ea cls))
theorem qXf{tb:TS}{ts:Addr->TS}
  (hb:∀xe pn,qDt (CXe X.prog X.w) { X with xe:=xe,pn:=pn } E->PSs { X with xe:=xe,pn:=pn } body tb) (hg:Gl X cn) (hm:X.mg cn=some (.ref C))
  (hs:∀e:Addr,PSs { X with A:=X.A.mark (some (.ref e)),calm:=false,xe:=λ_ _=>False } (b0 :: suite) (ts e)) (nd:X.N.Nodup) (hi:X.N[i]?=some n) (hx:X.env.scope.names.lookup n=some .local)
  (hex:X.ex=[]) (hst:X.stack=X.env :: X.outer) (hfr:X.env.frame=some X.env.locals) (hd:(cn == ("__debug__" : Str))=false:=by decide) :
  PS X (.Try body [.ExceptHandler (some (.Name cn cp)) (some n) (b0 :: suite) hp] [] [] pos) (zC0 X.N.length X.K i C E tb ts):=by
 intro aB s σ H D I ⟨h1,h2⟩;refine wpAny_Try_except ?_;have B:=hb (λe s'=>∃pins' σ' H1 s1,Inv { X with pn:=X.pn++aB } pins' σ' H1 s1/\CXe X.prog X.w X.stack H1 s1 E e s') (X.pn++aB) (λpins' σ' H1 s1 e s' I' c=>⟨pins',σ',H1,s1,I'.move (λ_ z=>z) rfl I'.ok.hd,c⟩)
  [] s σ H D (I.move (λp hp=>by rw[hCo]at hp;exact hp) rfl I.ok.hd) h1
 have back:∀ {xe:Value->Shared->Prop} {pins':List (Addr×Obj)} {σ':St} {H':Hp} {s':Shared},Inv { X with xe:=xe,pn:=X.pn++aB } pins' σ' H' s'->Inv X aB σ' H' s':=λJ=>J.move (λp hp=>hAk _ hp) rfl J.ok.hd
 refine hDz B (λf s1 q=>?_) λe s1 q=>?_
 ·cases f with
  |next=>obtain⟨σ',H',J,q⟩:=q;exact hEw ⟨σ',H',back J,q⟩
  |brk=>obtain⟨σ',H',J,q⟩:=q;exact⟨σ',H',back J,q⟩
  |cont=>obtain⟨σ',H',J,q⟩:=q;exact⟨σ',H',back J,q⟩
  |ret u=>obtain⟨v,σ',H',J,r,q⟩:=q;exact⟨v,σ',H',back J,r,q⟩
 obtain⟨pins',σ',H1,s0,I1,ea,cls,H',rfl,os,bare,un,hok,⟨f1,f2,a0,oe,vs,T,oT,ts',t1,t2,t3,t4,t5,t6,t7,t8,t9,t10⟩,qE⟩:=q;have I0:Inv X aB σ' H1 s0:=back (xe:=X.xe) I1;have J:Inv X aB σ' H' s1:=I0.call' (ch:=[]) os un hok bare (λb z=>by cases z);have ne:New X aB ea:=I0.new_of hex f1;have nT:New X aB T:=I0.new_of hex t6;have hn:∀b∈[ea,T],New X aB b:=λb hb=>by
  rcases hA8.mp hb with z|z
  ·rw[z];exact ne
  ·rw[hAa.mp z];exact nT
 have hH:∀b∈[ea,T],H' b=none:=λb hb=>by
  rcases hA8.mp hb with z|z
  ·rw[z];exact f2
  ·rw[hAa.mp z];exact t7
 have fl:FlyC (PySem.W.hideAll s1.heap ([ea,T]++frs X.stack)) (X.env :: X.outer) ea cls a0 .none s1.heap:=by
  refine⟨λb o z=>PySem.W.of_hideAll _ z,hBs _ (by simp),?_,oe,vs,T,oT,ts',t1,t2,t3,t4,hBs _ (by simp),t5,t8,t9,t10⟩;rw[<-hst];exact qFz J.stack λa ha=>hBs _ (hAb _ ha)
 refine zBi (J.ok.frames.trans (by rw[hst])) hfr fl λg1 hl1 up1=>?_
 refine qI4 hl1 λg2 fl2 up2=>?_
 have J2:Inv X aB σ' H' { s1 with heap:=g2 }:=J.flown hn hH fl2.stays (up1.trans up2);obtain⟨hm1,hr1⟩:=h2 cls H' ea σ' qE f2 J.len;refine wpAny_handleBy_cons (codeAny_handlers_test ?_) (by intro q;cases q);refine qGx (X:={ X with A:=X.A.mark (some (.ref ea)),calm:=false,xe:=λ_ _=>False }) (J2.move (λ_ z=>z) rfl (λz=>by cases z)) hg hm ?_ hd;obtain⟨ob,he,hcls,_⟩:=fl2.there;have LT:PySem.W.Looks (model X.prog X.w) g2 (typeOf (.ref ea)) cls:=by
  rw[<-hcls];exact(PySem.W.Looks.ld he).andThen .now
 refine(PySem.W.exm_one J2.kIn LT hm1).here ?_;refine codeAny_handlers_suite_as ?_;refine qI4 fl2 λg3 fl3 up3=>?_
 have J3:Inv X aB σ' H' { s1 with heap:=g3 }:=J.flown hn hH fl3.stays ((up1.trans up2).trans up3);have J4:=J3.adopt (cls:=cls) ne f2 fl3.there;refine qEj J4 nd hi (.inl hx) (v:=.ref ea) rfl (λs5 J5=>?_) (.inr hx);refine hDz (hs ea aB s5 _ _ _ (J5.move (λ_ z=>z) rfl (λz=>by cases z)) hr1) (λf s6 q=>?_) λ_ _ z=>z.elim
 have back2:∀ {σ':St} {H':Hp} {s':Shared},Inv { X with A:=X.A.mark (some (.ref ea)),calm:=false,xe:=λ_ _=>False } aB σ' H' s'->Inv X aB σ' H' s':=λJ=>J.move (λ_ z=>z) rfl I.ok.hd
 cases f with
 |next=>obtain⟨σ2,H2,K2,q⟩:=q;exact qEq (back2 K2) nd hi hx λs' K3=>⟨_,_,K3,q⟩
 |brk=>obtain⟨σ2,H2,K2,q⟩:=q;exact qEq (back2 K2) nd hi hx λs' K3=>⟨_,_,K3,q⟩
 |cont=>obtain⟨σ2,H2,K2,q⟩:=q;exact qEq (back2 K2) nd hi hx λs' K3=>⟨_,_,K3,q⟩
 |ret u=>obtain⟨v,σ2,H2,K2,r,q⟩:=q;exact qEq (back2 K2) nd hi hx λs' K3=>⟨v,_,_,K3,r,q⟩
end L2
namespace L2
open PySem PySem.Spec PyProof.Rows Builtin Builtin.ObjectAttr Builtin.Getset_descriptor
section
variable{prog:Program}{w:World}{A:Around}{E:Value->Shared->Prop}{s:Shared}{K:PySem.W.Frag}{x D:Addr}
structure XCls(K:PySem.W.Frag)(D:Addr):Prop where
 c:(PySem.W.clsIn K D).isSome=true
 ga:PySem.W.findIn K (.ref D) "__getattribute__"=some (some (.builtin "BaseException.__getattribute__"))
 gt:PySem.W.findIn K (.ref D) "__getattr__"=some none
 cl:PySem.W.findIn K (.ref D) "__class__"=some (some (.builtin "object.__class__"))
 sp:PySem.W.specialIn K (.builtin "object.__class__") "__get__"=some (some (.builtin "getset_descriptor.__get__"))
 tk:PySem.W.takesIn K (.builtin "object.__class__")=some true
 ob:PySem.W.mroIn K D (.type "object")=some true
 be:PySem.W.mroIn K D (.type "BaseException")=some true
theorem qR9(Z:XCls K D)(X:K.In h):PySem.W.Looks M h (find (.ref x) (.ref D) "__class__") (.bind (.builtin "getset_descriptor.__get__") (.builtin "object.__class__")):=by
 have L1:=hDc (M:=M) X Z.cl;have L2:PySem.W.Looks M h (getOf (some (.builtin "object.__class__"))) (some (.builtin "getset_descriptor.__get__")):=PySem.W.looks_specialIn X Z.sp;have L3:=PySem.W.looks_takesIn (M:=M) X Z.tk;exact L1.andThen (L2.andThen ((show PySem.W.Looks M h (dataDescriptor? (some (.builtin "object.__class__")) (some (.builtin "getset_descriptor.__get__"))) (some (.builtin "getset_descriptor.__get__",.builtin "object.__class__")) from L3.andThen .now).andThen (PySem.W.Looks.tag .now)))
theorem zCx(Z:XCls K D)(X:K.In s.heap)(L0:PySem.W.Looks (model prog w) s.heap (typeOf (.ref x)) (.ref D))(h:R (.ok (.ret (.ref D))) s) :
  codeAny (model prog w) A (.call (.builtin "getset_descriptor.__get__") ⟨[.builtin "object.__class__",.ref x,tp],[]⟩) R s:=by
 obtain⟨hh,g,dr,t,os⟩:=s;have L1:=PySem.W.looks_mroIn (M:=model prog w) X Z.ob;refine codeAny_call_builtin PySem.W.KF.slot_gs.plain PySem.W.KF.entry_gs (PySem.W.KF.slot_gs.check _ _ _ _ _ _ _ _ PySem.W.KF.type_class (PySem.W.KF.args_gs _ _ _) ?_);unfold Builtin.«getset_descriptor.__get__» descrGet;rw[PySem.W.dga_obj];refine hDo (hDq ?_);unfold descrGetter descrCheckInstance descrNameAndClass isInstance;simp only[PySem.W.KF.owner_class]
 repeat lk
 refine⟨Code.quiet_builtin _ (by decide +kernel),hE1 PySem.W.KF.entry_class ?_⟩;unfold Builtin.«object.__class__» shownTypeOf
 repeat lk
 exact h
theorem qWn(Z:XCls K D)(X:K.In s.heap)(L0:PySem.W.Looks M s.heap (typeOf (.ref x)) (.ref D))(h:Q () s):wpAny M A (checkBuiltinCall "BaseException.__getattribute__" ⟨[.ref x,nameV],[]⟩) Q E s:=by
 obtain⟨hh,g,d,t,os⟩:=s;have hk:builtinKind "BaseException.__getattribute__"=some .slot:=by decide +kernel
 have hsplit:splitId "BaseException.__getattribute__"=some ("BaseException","__getattribute__"):=by decide +kernel
 have ha:=F.args_bexc_ga (.ref x) nameV;have L1:PySem.W.Looks M hh (isInstance (.ref x) (.type "BaseException")) true:=L0.andThen (PySem.W.looks_mroIn X Z.be);simp only[checkBuiltinCall,hk,hsplit];refine hDo (L1.at ?_)
 repeat (first|wp_step|assumption)
theorem qWl(Z:XCls K D)(X:K.In s.heap)(L0:PySem.W.Looks (model prog w) s.heap (typeOf (.ref x)) (.ref D))(h:Q (.done (.ret (.ref D))) s) :
  wpAny (model prog w) A (Builtin.«object.__getattribute__» ⟨[.ref x,.str "__class__" tk],[]⟩) Q E s:=by
 obtain⟨hh,g,d,t,os⟩:=s;have L3:=qR9 (x:=x) (M:=model prog w) Z X;refine hDo (hDq (hDo (hDq (hDo (L0.at (hDo (L3.at ?_)))))));show wpAny _ _ (holding [Value.builtin "object.__class__"] (call (.builtin "getset_descriptor.__get__") [.builtin "object.__class__",.ref x,.ref D]) >>= ret) _ _ _;exact hDo (hDv (wpAny_call (zCx (s:=⟨hh,g,d,t,os⟩) Z X L0 (hDq h))))
theorem qWm(Z:XCls K D)(X:K.In s.heap)(L0:PySem.W.Looks (model prog w) s.heap (typeOf (.ref x)) (.ref D))(h:Q (some (.ref D)) { s with toks:=s.toks+1 }) :
  wpAny (model prog w) A (getAttr? (.ref x) "__class__") Q E s:=by
 obtain⟨hh,g,d,t,os⟩:=s;have L1:=hDc (M:=model prog w) X Z.ga;have L2:=hDc (M:=model prog w) X Z.gt;have hx2:(Value.builtin "BaseException.__getattribute__" == Value.builtin "object.__getattribute__")=false:=by decide +kernel
 have hx1:(onTheHeap (Value.ref D) && Value.builtin "BaseException.__getattribute__" == Value.builtin "object.__getattribute__")=false:=by rw[hx2];rfl
 unfold getAttr? getAttrBy? getAttrBy;refine hDo (wpAny_mkText (hDo (hEd (hDv (hDo (L0.at (hDo (L1.at ?_))))))));dsimp only;rw[hx1,hDt hAm];unfold getAttrByItsOwn hookBefore callGetattribute boundAndCalled;rw[hDu (show onTheHeap (Value.ref D)=true from rfl)];refine hDo (L2.at ?_);refine hDo (hEd (hDv ?_));show wpAny _ _ (bindSpecial (.builtin "BaseException.__getattribute__") (.ref x) >>= _) _ _ _;refine hDo (wpAny_of_eq (F.excAttr_ValueError.ga.bind _) ?_);refine wpAny_call (codeAny_call_builtin F.excAttr_ValueError.ga.plain F.entry_bexc_ga (qWn (s:=⟨hh,g,d,t+1,os⟩) Z X L0 (qWl (s:=⟨hh,g,d,t+1,os⟩) Z X L0 ?_)));exact PySem.W.handed_on rfl (hDq h)
theorem qUf(Z:XCls K D):PySem.W.KitX K (.ref x) (.ref D) (λh=>∃o,h.get? x=some o/\o.cls = .ref D) where
 ty:=λM h _ ⟨o,h1,h2⟩=>by rw[<-h2];exact(PySem.W.Looks.ld h1).andThen .now
 it:=λ_ _ X _=>by
  obtain⟨cd,hc⟩:=hCf.mp Z.c;unfold PySem.W.clsIn at hc;split at hc
  ·rename_i c' d' cd' sl' ho;intro A' Q' E' s' k q;unfold isType loadHead;exact hDo (wpAny_loadPart (k _ _ (X _ _ ho)) (hDq q))
  ·cases hc
 ne:=λh tp dd its n sl X htp=>by
  obtain⟨cd,hc⟩:=hCf.mp Z.c;refine Bool.eq_false_iff.mpr λq=>?_
  have e:D=tp:=Value.ref.inj (beq_iff_eq.mp q);subst e;unfold PySem.W.clsIn at hc;split at hc
  ·rename_i c' d' cd' sl' ho;have z:=(X _ _ ho).symm.trans htp;cases z
  ·cases hc
 ca:=λ{prog w A E Q s} X I k=>qWm Z X (by obtain⟨o,h1,h2⟩:=I;rw[<-h2];exact(PySem.W.Looks.ld h1).andThen .now) k
end
def qVp(K:PySem.W.Frag):List V->Hp->VK->Prop:=λxs H Q=>∃(a D:Addr) (y:V) (c:Value) (b:Bool),xs=[.ref a,y]/\H a=some (exO a (.ref D))/\XCls K D/\(∀u,qB6 y u->u=c)/\PySem.W.kitOne K (.ref D) c=some b/\Q (.bl b) H
theorem qEy:qB2 X (.builtin "isinstance") (qVp X.K):=by
 intro aB s σ H xs us Q I r h;obtain⟨a,D,y,c,b,rfl,ha,Z,hc,e,q⟩:=h;obtain⟨u,w',rfl,rx,rc⟩:=qH6 r;cases(show u=Value.ref a from rx);cases hc w' rc;have ok:qB3 X.prog X.w H s.heap a (exO a (.ref D)):=I.hok a _ ha;exact hBt (qUf Z) I.kIn (let ⟨o,h1,h2,_⟩:=ok.1;⟨o,h1,h2⟩) e (λz=>nomatch z) λtk=>⟨.bl b,H,I.tok tk,rfl,q⟩
end L2
namespace My
open PySem L2
def qMy:Sp:=λvs H Q _=>∃(pn pm:Addr) (aA:List Str) (ms:List Nat) (m:Nat),vs=[.ref pn,.ref pm]/\LsS H pn aA/\aA.length<=12/\LsN H pm ms/\ms.length<=24/\(∀x∈ms,x<2^m)/\∀(T:Addr) (rows:List (List Str)) (H':Hp),Ext H H'->H T=none->qHb H' T aA rows->Srt rows->rows.Perm ((redL ms).map (qS1 aA))->Q (.ref T) H'
def qP9:Sp:=λvs H Q _=>∃(T T2:Addr) (aA:List Str) (rows:List (List Str)),vs=[.ref T,.ref T2]/\qHb H T aA rows/\qHb H T2 aA rows/\SOk aA/\(∀r∈rows,SOk r)/\rows.length<=24/\∀H',Ext H H'->Q (.bl true) H'
def zEx(K:PySem.W.Frag):List V->Hp->VK->Prop:=λxs H Q=>∃x t c b,xs=[x,.ty c]/\TyOf K H x t/\PySem.W.kitOne K t (.type c)=some b/\Q (.bl b) H
def zCl(aA:List Str)(rows:List (List Str)):PyData:=.tuple [qFr aA,qOv rows]
theorem qY4(aA:List Str)(rows:List (List Str)):PyData.eqv (zCl aA rows) (zCl aA rows)=true:=by
 show(PyData.eqv (qFr aA) (qFr aA) && (PyData.eqv (qOv rows) (qOv rows) && true))=true;rw[qSb,qUt,hDp rfl,hDp rfl];rfl
theorem qHq{aA:List Str}{rows:List (List Str)}(h1:SOk aA)(h2:∀r∈rows,SOk r):SeqAt.shaped (zCl aA rows)=true:=by
 obtain⟨a1,a2⟩:=qEt h1;obtain⟨b1,b2⟩:=qNs h2;show((PyData.canLayAll0 (aA.map .str) && (PyData.canLayAll0 (rows.map qFr) && true)) && decide (max (PyData.depthAll (aA.map .str)+1) (max (PyData.depthAll (rows.map qFr)+1) 0)+1<=64))=true;rw[a1,b1,a2,hDp (by omega)];rfl
theorem qWb{K:PySem.W.Frag}{H:Hp}{T:Addr}{aA:List Str}{rows:List (List Str)}(h:qHb H T aA rows):DR K H (.ref T) (zCl aA rows):=by
 obtain⟨a,b,h1,h2,h3⟩:=h;exact .tup (SqT.of h1) (.cons (qH0 h2) (.cons (qY6 h3) .nil))
section
variable{P:Program}{w:World}{K:PySem.W.Frag}{mg:Str->Option Value}{base:Heap}{f f1 f2 f3 f4 f5 f6 f7 f8 f9:Addr}{fd fd1 fd2 fd3 fd4 fd5 fd6 fd7 fd8 fd9:FuncData}
abbrev zEc:List Str:=["_law_names_here","_law_numbers","_law_rows"]
theorem qM3:FnScope zEc ["_law_names_here","_law_numbers"] (qAa qEc):=fsk
theorem qRm(F:Fun K "_law_steps" "_law_steps" qEc f fd)(G1:v8 1 f1 fd1 ["_law_names_here","_law_number"] qU5 "_law_row")
  (G2:v8 1 f2 fd2 ["_law_numbers"] qU6 "_law_reduced") (mL:mg "list"=none) (mso:mg "sorted"=none):v7 2 f fd ["_law_names_here","_law_numbers"] qMy:=by
 refine F.okA qM3 λcdv A outer s H vs Q E hr h=>?_
 obtain⟨pn,pm,aA,ms,m,rfl,hn,ln,hm,lm,lt,q⟩:=h;refine⟨_,qAb (qQ8 (i:=2) (N:=zEc) (sc:=qAa qEc) (N':=["_law_number","_law_names_here"]) (sub:=[none,some 0]) (qAx (qA0 G2 hr rfl .nil qA2 (pa1 (pv 1)))) (λC s H fp=>⟨qA4,qA0 G1 hr rfl .nil qA2 (qAd (pv 1) (pa1 (pv 0)))⟩) qM3.nd rfl (Or.inl rfl))
  (qAe (qAo (qBk (qAd (qBf qCg rfl mL qBe (pa1 (pv 0))) (pa1 (qAg (qJd (zDh hr)) rfl mso qBa (pa1 (pv 2)))))))),?_⟩
 refine⟨_,rfl,pm,ms,m,rfl,hm,lm,lt,λr H1 e1 r0 hR=>?_⟩;have lR:=qLv ms;refine⟨r,rfl,⟨_,SqL.of hR⟩,?_⟩;refine qA1 (xs:=(redL ms).map iV) (λj ys H2=>Ext H1 H2/\∃as,ys=as.map V.ref/\Paired (LsS H2) as (((redL ms).take j).map (qS1 aA))) ⟨Ext.refl _,[],rfl,.nil⟩ (λj ys H2 _ h=>SqL.of (h.1 _ _ hR)) ?_ ?_
 ·rintro j v ys H2 hx ⟨e2,as,rfl,pr⟩;obtain⟨x,rfl,hx'⟩:=qD8 hx;have hj:=qBq hx';have la:as.length=_:=pr.length;rw[hA1,hAn]at la;refine⟨sls,iteT (B:=False) ⟨_,rfl,_,rfl,pn,aA,x,rfl,(e1.trans e2) _ _ hn,ln,λr3 H3 e3 r30 h3=>⟨?_,nxt (qBq hx) ⟨e2.trans e3,as++[r3],by rw[hA7];rfl,?_⟩⟩⟩⟩
  ·rw[hA1];exact qAf (by omega)
  ·rw[qAr hx',hA7];exact Paired.snoc (Paired.mapP pr λa t z=>e3 _ _ z) h3
 ·rintro ys H2 ⟨e2,as,rfl,pr⟩ b hb;rw[hA1,hA9 (hA3 _)]at pr;have la:as.length=((redL ms).map (qS1 aA)).length:=pr.length;have la':as.length=(redL ms).length:=by rw[la,hA1]
  have E2:=e1.trans e2;have Xb:=Ext.new hb (.lst (as.map V.ref));refine⟨_,rfl,pn,_,rfl,.inl (SqL.of ((E2.trans Xb) _ _ hn)),λl1 hl1=>?_⟩;have X1:=Xb.trans (Ext.new hl1 (.lst (aA.map V.str)));refine⟨_,rfl,b,as,(redL ms).map (qS1 aA),rfl,SqL.of ((Ext.new hl1 _) _ _ upd_same),Paired.mapP pr λa t z=>SqL.of (X1 _ _ z),by omega,λr2 o hr2 g sp=>?_⟩;have X2:=X1.trans (Ext.new hr2 (.lst ((o.toList.map λi=>as.getD i 0).map V.ref)));have gm:∀i∈o.toList,i<as.length:=λi hi=>qKd g hi
  rw[la]at g sp;obtain⟨s1,s2⟩:=qFa g sp;refine⟨(by show 2<=sizeLine;decide),λT hT=>?_⟩;have XT:=X2.trans (Ext.new hT (.tup [V.ref l1,V.ref r2]));refine q T _ _ (E2.trans XT) ((E2.trans X2).none hT) ⟨l1,r2,upd_same,?_,⟨_,(Ext.new hT _) _ _ upd_same,Paired.mapP (qGm pr gm) λa t z=>XT _ _ z⟩⟩ s1 s2;exact(Ext.new hT _) _ _ ((Ext.new hr2 _) _ _ upd_same)
theorem qW1:FnScope ["_law_found","_law_due_here"] ["_law_found","_law_due_here"] (qAa qGd):=fsk
theorem qT2(F:Fun K "_law_same_table" "_law_same_table" qGd f fd)(ml:mg "len"=none)(mL:mg "list"=none)(mtu:mg "tuple"=none)(mi:mg "isinstance"=none)(mal:mg "all"=none):v7 1 f fd ["_law_found","_law_due_here"] qP9:=by
 refine F.okA qW1 λcdv A outer s H vs Q E hr h=>?_
 obtain⟨T,T2,aA,rows,rfl,t1,t2,ok1,ok2,lr,q⟩:=h;refine⟨_,qAb (qBl (PW.pt (qD3 (qB0 (qBr (qAg qBd rfl mi qAz (qAd (pv 0) (pa1 (qCl (v:=.ty "tuple") rfl mtu qCb rfl))))))
   (qD3 (qAm qEe (qAg qAt rfl ml hB1 (pa1 (pv 0))) qAc (qAu _))
    (qDi (qB0 (qBr (qAg qBd rfl mi qAz (qAd (qA6 qA7 (pv 0) qAc (λ_ _=>rfl)) (pa1 (qCl (v:=.ty "list") rfl mL qBe rfl)))))))))) (qAe (qAo qFs)) qAw)
  (qAe (qAo (qJw (qAg qBd rfl mi qAz (qAd (qA6 qA7 (pv 0) qAc (λ_ _=>rfl)) (pa1 (qCl (v:=.ty "list") rfl mL qBe rfl))))
   (qJw (qAg (qCh rfl) rfl mal qCi (pa1 (qDn (N:=["_law_found","_law_due_here"]) (sc:=qAa qGd) (N':=["_law_row_here"]) (sub:=[none]) rfl rfl (CmpOk.of (by decide +kernel)) rfl (qAx (qA6 qA7 (pv 0) qAc (λ_ _=>rfl)))
    (λC s H fp=>⟨qAh (i:=0) (by show(["_law_row_here"]:List Str).Nodup;decide) rfl (Or.inl rfl),qA4,qAg (show qB2 _ (.builtin "isinstance") (zEx K) from qBd) rfl mi qAz (qAd (pv 0) (pa1 (qCl (v:=.ty "list") rfl mL qBe rfl)))⟩))))
    (qNe (qCk (zA6 (qQ0 hr)) (pv 0) (pv 1) (qAu _))))))),?_⟩
 obtain⟨a,b,hT,ha,⟨as,hb,pr⟩⟩:=id t1;have la:as.length=rows.length:=pr.length;refine⟨_,rfl,_,_,_,true,rfl,.tup hT,qB7 _ _,true,rfl,qGz ?_⟩;refine⟨_,rfl,T,_,rfl,.inr (SqT.of hT),rfl,_,rfl,qGz ?_⟩;refine⟨_,rfl,T,_,_,_,rfl,rfl,SqT.of hT,(by exact qAv (j:=0) rfl),_,_,_,true,rfl,.lst ha,qB7 _ _,true,rfl,qGz ?_⟩;refine⟨_,rfl,T,_,_,_,rfl,rfl,SqT.of hT,(by exact qAv (j:=1) rfl),_,_,_,true,rfl,.lst hb,qB7 _ _,true,rfl,iteT ?_⟩;refine⟨_,rfl,T,_,_,_,rfl,rfl,SqT.of hT,(by exact qAv (j:=1) rfl),b,rfl,⟨_,SqL.of hb⟩,?_⟩;refine qA1 (xs:=as.map V.ref) (λj ys H2=>H2=H/\ys=(List.replicate j true).map V.bl) ⟨rfl,rfl⟩ (λj ys H2 _ h=>by rw[h.1];exact SqL.of hb) ?_ ?_
 ·rintro j v ys H2 hx ⟨rfl,rfl⟩;obtain⟨c,rfl,hc⟩:=qLt hx;obtain⟨rw1,hrw,hc1⟩:=qBw pr hc;have hj:=qBq hc;refine⟨sls,iteT (B:=False) ⟨_,rfl,_,_,_,true,rfl,.lst hc1,qB7 _ _,?_,nxt (qBq hx) ⟨rfl,?_⟩⟩⟩
  ·rw[hA1,List.length_replicate];exact qAf (by omega)
  ·rw[List.replicate_succ',hA7];rfl
 ·rintro ys H2 ⟨rfl,rfl⟩ l hl;have n1:=Ext.new hl (.lst ((List.replicate (as.map V.ref).length true).map V.bl));refine⟨l,List.replicate (as.map V.ref).length true,rfl,SqL.of upd_same,_,rfl,?_⟩;rw[show(List.replicate (as.map V.ref).length true).all id=true by rw[hBx];intro x hx;exact(List.mem_replicate.mp hx).2];refine iteT ⟨_,rfl,_,rfl,_,_,qWb (t1.ext n1),qWb (t2.ext n1),qHq ok1 ok2,qHq ok1 ok2,?_⟩;rw[hDt (by decide),qY4];exact q _ n1
end
end My
namespace L2
open PySem PySem.Spec PyProof.Rows PySem.Builtin PySem.Builtin.Str
def zDi:V->List V->Hp->VK->Prop:=λx vs H Q=>∃(l:Addr) (ss:List Str) (z:Str),x = .str z/\vs=[.ref l]/\H l=some (.lst (ss.map V.str))/\(ss.map (·.length)).sum+ss.length*z.length<=16777216/\Q (.str (Txt.join z ss)) H
theorem qYk:MtR X "str.join" zDi:=by
 intro aB s σ H x vs v us Q I rx rv h;obtain⟨l,ss,z,rfl,rfl,hH,hz,q⟩:=h;obtain⟨t,rfl⟩:=rx;obtain⟨u,rfl,ru⟩:=rv.one;cases ru;obtain⟨zz,its,n,r,hl,e⟩:=I.lstM hH;exact join_list (items:=its.toArray) ⟨_,e,rfl,n,rfl⟩ (qCo r) hz λt' k=>⟨.str _,H,I.tok _,⟨_,rfl⟩,q⟩
theorem Walks.shift{prog:Program}{w:World}{A:Around}{I:Addr}{fp wr:List Addr}{n:Nat}{P:Nat->Value->Prop}{St:Nat->Heap->Prop}(W:Walks prog w A I fp wr (n+1) P St):Walks prog w A I fp wr n (λi v=>P (i+1) v) (λi h=>St (i+1) h) where
 sub:=W.sub
 frame:=λi h h' st hk=>W.frame (i+1) h h' st hk
 item:=λi s Q E hi st hQ=>W.item (i+1) s Q E (by omega) st hQ
 done:=λs Q E st hQ=>W.done s Q E st hQ
 self:=λi s Q E st hQ=>W.self (i+1) s Q E st hQ
theorem qQj{s s':Shared}(h1:s'.gens=s.gens)(h2:s'.drawn=s.drawn)(h3:s'.os=s.os):s'={ s with heap:=s'.heap,toks:=s'.toks }:=by
 cases s';cases s
 simp_all
theorem qTr(h1:PG X e t)(h2:PGs X es u)
  (hs:(assignEach (.Starred e p :: es) X.env).map (·.2)=assign e X.env :: (assignEach es X.env).map (·.2):=by rfl):PGs X (.Starred e p :: es) (qPc t u):=by
 intro aB s σ H vs us Q I r h;obtain⟨v,vr,e1,h⟩:=h;subst e1;cases r with
 |cons r rr =>
  rw[hs];refine assignInOrder_cons (thn (h1 aB s σ H _ _ _ I r h) λ_ s1 ⟨σ1,H1,I1,q1⟩=>?_);exact h2 aB s1 σ1 H1 _ _ Q I1 rr q1
end L2
namespace L2
open PySem PySem.Spec PyProof.Rows
section
variable{prog:Program}{w:World}{A:Around}{E:Value->Shared->Prop}{s:Shared}
theorem qSg(Q:List Value->Shared->Prop)(hit:s.heap.IsTupleIter it t 0)(ht:s.heap.IsTuple t items)(hx:items[0]?=some x)
  (hQ:∀h',h'.IsTupleIter it t 1->Heap.ExtBut it s.heap h'->Q [x] { s with heap:=h' }):wpAny (model prog w) A (draw (.ref it) 1) Q E s:=by
 show wpAny _ _ (pyNext (.ref it) >>= _) Q E s;refine hDo (wpAny_pyNext_tuple_item hit ht (x:=x) hx λh₁ hit₁ hs₁=>?_);refine hDo (hDv ?_);show wpAny _ _ (pure []) _ _ _;exact hDq (hDq (hQ h₁ hit₁ hs₁.extBut))
theorem qHg(hh:A.handled=none)(ht:s.heap.IsTuple t (x :: xs).toArray)(hz:xs.length<=sizeLine)
  (hQ:∀(s':Shared),(∀b o,b<s.heap.objs.size->s.heap.get? b=some o->s'.heap.get? b=some o)->s'.gens=s.gens->s'.drawn=s.drawn->s'.os=s.os->Q [x,.ref s'.heap.objs.size] { s' with heap:=s'.heap.push { cls:=.type "list",data:=.seq xs.toArray } }):wpAny (model prog w) A (unpackItems (.ref t) 2 (some 1)) Q E s:=by
 have hlt:t≠s.heap.objs.size:=by obtain⟨o,ho,_⟩:=ht;exact hAi (Heap.lt_size ho)
 have ltT:t<s.heap.objs.size:=by obtain⟨o,ho,_⟩:=ht;exact Heap.lt_size ho
 unfold unpackItems;refine hDo ?_;unfold notIterableAtAll;refine hDo (hEy ht.typeIs PySem.F.slot_tuple_iter.lookup ?_);refine hDq ?_;simp only[hCg,hEr];refine hDo (hDv (hEm ht ?_));refine hDo (hDv (qSg (x:=x) _ ⟨_,Heap.get?_push_size _ rfl,rfl,rfl⟩ (ht.push _) (by simp) λh₁ hit₁ hs₁=>?_));rw[hDt (by simp)];have ht₁:h₁.IsTuple t (x :: xs).toArray:=(ht.push _).extBut hs₁ hlt;have sz:s.heap.objs.size<h₁.objs.size:=by
  obtain⟨o,ho,_⟩:=hit₁;exact Heap.lt_size ho
 have W:=(Walks.shift (n:=xs.length) (Walks.tuple (prog:=prog) (w:=w) (A:=A.in1) hh s.heap.objs.size t hlt (x :: xs).toArray)).toS;refine hDo (hDv (wpAny_collect_iter (T:="tuple_iterator") (.inr (.inr (.inr rfl))) W (λi s' st=>by obtain⟨⟨o,ho,hc,_⟩,_⟩:=st;exact⟨o,ho,hc⟩) ⟨hit₁,ht₁⟩ (λb hb=>?_) (by simp) (λs' acc hm ha=>?_) hz))
 ·simp only[hA8,hAo,hE0]at hb;rcases hb with rfl|rfl
  ·exact sz
  ·exact Nat.lt_trans ltT sz
 ·have ea:acc.toList=xs:=by
   obtain⟨a1,a2⟩:=ha;refine hDb λi=>?_
   by_cases hi:i<acc.size
   ·have e1:acc[i]?=some acc[i]:=hBp hi;have e2:=a2 i acc[i] e1;rw[hBj,e1]
    simpa using e2.symm
   ·rw[hBk (by simpa using hi),hBk (by omega)]
  rw[ea];simp only[Nat.reduceSub,Nat.sub_zero,hC0,hEr,List.take_length,List.drop_length];refine hDo (hEh ?_ hz);refine hDq ?_;have:=hQ s' (λb o hb e=>hm.heap b o (λh=>by
   simp only[hA8,hAo,hE0]at h;rw[h]at hb;exact hBe _ hb) (hs₁ b o (hAi hb) (Heap.get?_push_of_some _ e))) hm.gens hm.drawn hm.os
  simpa using this
end
def zB1(K:PySem.W.Frag)(t:TGs):TG:=λv σ H Q=>∃a x xs,v = .ref a/\SqT K H a (x :: xs)/\∀l,H l=none->t [x,.ref l] σ (upd H l (.lst xs)) Q
theorem qTs{X:Cx}{pos:Pos}{es:List Expr}{k:Nat}{t:TGs}(hc:X.calm=true)(h:PGs X es t)
  (hn:(assignEach es X.env).length=2:=by rfl) (hst:(assignEach es X.env).findIdx? (·.1)=some 1:=by rfl):PG X (.Tuple es k pos) (zB1 X.K t):=by
 intro aB s σ H v u Q I r hw;obtain⟨a,x,xs,e1,hq,hw⟩:=hw;subst e1;cases r;obtain⟨its,rv,pl,hz⟩:=I.tuple hq;cases rv with
 |cons rx rr =>
  rename_i y its';rw[assign_Tuple];refine hDo (hE3 ?_);unfold unpack;rw[hn,hst];have lz:its'.length<=sizeLine:=by
   have:=rr.length;have h2:(x :: xs).length<=sizeLine:=hz;rw[hB8]at h2;omega
  refine hDo (hDv (qHg (I.ok.hd hc) (show s.heap.IsTuple _ _ from pl) lz λs' hk h1 h2 h3=>?_));have es:=qQj h1 h2 h3;have I1:Inv X aB σ H s':=by
   rw[es];exact I.kept (t':=s'.toks) λb o e=>hk b o (Heap.lt_size e) e
  have hxs:xs.length<=sizeLine:=by rw[rr.length];exact lz
  have I2:Inv X aB σ (upd H s'.heap.objs.size (.lst xs)) { s' with heap:=s'.heap.push { cls:=.type "list",data:=.seq its'.toArray } } :=
   I1.laid (t':=s'.toks) (λb o e=>Heap.get?_push_of_some _ e) (hA3 _) (show qB3 X.prog X.w _ _ _ (.lst xs) from ⟨hxs,_,_,rr,Heap.get?_push_size _ rfl⟩)
  exact h aB _ σ _ [x,.ref s'.heap.objs.size] _ Q I2 (.cons rx (.cons rfl .nil)) (hw _ (I1.hok.fresh (hA3 _)))
section
variable{X:Cx}
theorem qSt(hc:X.calm=true):qB2 X (.builtin "min") (λxs H Q=>∃(p:Addr) (a b:Str),xs=[.ref p]/\SqL X.K H p [.str a,.str b]/\Q (.str (if b.cps.toList<a.cps.toList then b else a)) H):=by
 intro aB s σ H xs us Q I r h;obtain⟨l,a,b,rfl,hq,q⟩:=h;obtain⟨u,rfl,rx⟩:=qCw r;cases rx;obtain⟨its,rv,pl,hz⟩:=I.list hq;obtain⟨u1,u2,rfl,⟨t1,rfl⟩,⟨t2,rfl⟩⟩:=qH6 rv;have hlI:l≠s.heap.objs.size:=by
  obtain⟨o,n,e,_⟩:=pl;exact hAi (Heap.lt_size e)
 refine call_min_walk (hEa pl.isList ?_);refine⟨s.heap.objs.size,_,_,_,_,_,λi j=>decide ((([a,b]:List Str).getD i "").cps.toList<(([a,b]:List Str).getD j "").cps.toList),rfl,Walks.list (A:=X.A.in1) (I.ok.hd hc) _ l hlI [Value.str a t1,.str b t2].toArray,⟨⟨_,Heap.get?_push_size _ rfl,rfl,rfl⟩,pl.isList.at λo e=>Heap.get?_push_of_some _ e⟩,?_,(by show 0<2;decide),?_,λv h' tk hP hk=>?_⟩
 ·intro c hc';show c<(s.heap.push _).objs.size;rw[Heap.size_push];simp only[hA8,hAo,hE0]at hc';rcases hc' with rfl|rfl
  ·exact hAt _
  ·obtain⟨o,n,e,_⟩:=pl;exact hB2 (Heap.lt_size e)
 ·intro i j vi vj s' Q' E' hi hj hq';have pick:∀ {k:Nat} {v:Value},[Value.str a t1,.str b t2].toArray[k]?=some v->∃t,v = .str (([a,b]:List Str).getD k "") t:=λ{k v} e=>by
   match k,e with
   |0,e=>cases e;exact⟨t1,rfl⟩
   |1,e=>cases e;exact⟨t2,rfl⟩
   |k+2,e=>simp at e
  obtain⟨w1,rfl⟩:=pick hi;obtain⟨w2,rfl⟩:=pick hj;exact(show wpAny _ _ (compareOp .Lt _ _) _ _ _ from PySem.P.lt_str hq')
 ·have kp:∀b o,s.heap.get? b=some o->h'.get? b=some o:=λb o e=>hk b o (λhm=>by
   rw[hAa]at hm;exact absurd (hm▸Heap.lt_size e) (hBe _)) (Heap.get?_push_of_some _ e)
  refine⟨.str (if b.cps.toList<a.cps.toList then b else a),H,I.kept (t':=tk) kp,?_,q⟩;have hP':[Value.str a t1,.str b t2].toArray[if decide (b.cps.toList<a.cps.toList)=true then 1 else 0]?=some v:=hP;by_cases e:b.cps.toList<a.cps.toList
  ·rw[hDu e];rw[hDu (hDp e)]at hP';cases hP';exact⟨_,rfl⟩
  ·rw[hDt e];rw[hDt (by rw[hDr e];decide)]at hP';cases hP';exact⟨_,rfl⟩
theorem qSu(hc:X.calm=true):qB2 X (.builtin "max") (λxs H Q=>∃(p:Addr) (a b:Str),xs=[.ref p]/\SqL X.K H p [.str a,.str b]/\Q (.str (if a.cps.toList<b.cps.toList then b else a)) H):=by
 intro aB s σ H xs us Q I r h;obtain⟨l,a,b,rfl,hq,q⟩:=h;obtain⟨u,rfl,rx⟩:=qCw r;cases rx;obtain⟨its,rv,pl,hz⟩:=I.list hq;obtain⟨u1,u2,rfl,⟨t1,rfl⟩,⟨t2,rfl⟩⟩:=qH6 rv;have hlI:l≠s.heap.objs.size:=by
  obtain⟨o,n,e,_⟩:=pl;exact hAi (Heap.lt_size e)
 refine call_max_walk (hEa pl.isList ?_);refine⟨s.heap.objs.size,_,_,_,_,_,λi j=>decide ((([a,b]:List Str).getD j "").cps.toList<(([a,b]:List Str).getD i "").cps.toList),rfl,Walks.list (A:=X.A.in1) (I.ok.hd hc) _ l hlI [Value.str a t1,.str b t2].toArray,⟨⟨_,Heap.get?_push_size _ rfl,rfl,rfl⟩,pl.isList.at λo e=>Heap.get?_push_of_some _ e⟩,?_,(by show 0<2;decide),?_,λv h' tk hP hk=>?_⟩
 ·intro c hc';show c<(s.heap.push _).objs.size;rw[Heap.size_push];simp only[hA8,hAo,hE0]at hc';rcases hc' with rfl|rfl
  ·exact hAt _
  ·obtain⟨o,n,e,_⟩:=pl;exact hB2 (Heap.lt_size e)
 ·intro i j vi vj s' Q' E' hi hj hq';have pick:∀ {k:Nat} {v:Value},[Value.str a t1,.str b t2].toArray[k]?=some v->∃t,v = .str (([a,b]:List Str).getD k "") t:=λ{k v} e=>by
   match k,e with
   |0,e=>cases e;exact⟨t1,rfl⟩
   |1,e=>cases e;exact⟨t2,rfl⟩
   |k+2,e=>simp at e
  obtain⟨w1,rfl⟩:=pick hi;obtain⟨w2,rfl⟩:=pick hj;exact(show wpAny _ _ (compareOp .Gt _ _) _ _ _ from PySem.P.gt_str hq')
 ·have kp:∀b o,s.heap.get? b=some o->h'.get? b=some o:=λb o e=>hk b o (λhm=>by
   rw[hAa]at hm;exact absurd (hm▸Heap.lt_size e) (hBe _)) (Heap.get?_push_of_some _ e)
  refine⟨.str (if a.cps.toList<b.cps.toList then b else a),H,I.kept (t':=tk) kp,?_,q⟩;have hP':[Value.str a t1,.str b t2].toArray[if decide (a.cps.toList<b.cps.toList)=true then 1 else 0]?=some v:=hP;by_cases e:a.cps.toList<b.cps.toList
  ·rw[hDu e];rw[hDu (hDp e)]at hP';cases hP';exact⟨_,rfl⟩
  ·rw[hDt e];rw[hDt (by rw[hDr e];decide)]at hP';cases hP';exact⟨_,rfl⟩
end
section
variable{prog:Program}{w:World}{A:Around}{E:Value->Shared->Prop}{s:Shared}
theorem qKk(hne:t≠it):∀(n i:Nat) (s:Shared) (Q:List Value->Shared->Prop),s.heap.IsListIter it t i->s.heap.IsList t items->i+n<=items.size ->
  (∀h',h'.IsListIter it t (i+n)->Heap.ExtBut it s.heap h'->Q ((items.toList.drop i).take n) { s with heap:=h' })->wpAny (model prog w) A (draw (.ref it) n) Q E s
 |0,i,s,Q,hit,_,_,hQ=>by
  show wpAny _ _ (pure []) Q E s;exact hDq (by simpa using hQ s.heap hit (λ_ _ _ e=>e))
 |n+1,i,s,Q,hit,ht,hle,hQ=>by
  have hlt:i<items.size:=by omega
  show wpAny _ _ (pyNext (.ref it) >>= _) Q E s;refine hDo (wpAny_pyNext_list_item hit ht (x:=items[i]) (by simp[hlt]) λh₁ hit₁ hs₁=>?_);refine hDo (hDv (qKk hne n (i+1) _ _ hit₁ (ht.extBut hs₁.extBut hne) (by omega) λh₂ hit₂ hs₂=>hDq ?_));have hd:items.toList.drop i=items[i] :: items.toList.drop (i+1):=by simp[List.drop_eq_getElem_cons,hlt]
  have:=hQ h₂ (by rw[show i+(n+1)=i+1+n by omega];exact hit₂) (λb o hb e=>hs₂ b o hb (hs₁.extBut b o hb e));rw[hd,List.take_succ_cons]at this;exact this
theorem qFp(hh:A.handled=none)(ht:s.heap.IsList t items)
  (hQ:∀h',Heap.ExtBut s.heap.objs.size s.heap h'->Q items.toList { s with heap:=h' }):wpAny (model prog w) A (unpackItems (.ref t) items.size none) Q E s:=by
 have hlt:t≠s.heap.objs.size:=by obtain⟨o,ho,_⟩:=ht;exact hAi (Heap.lt_size ho)
 unfold unpackItems;refine hDo ?_
 ·unfold notIterableAtAll;refine hDo (hEy ht.typeIs PySem.F.slot_list_iter.lookup ?_);refine hDq ?_;simp only[hCg,hEr];refine hDo (hDv (hEa ht ?_));refine hDo (hDv (qKk hlt items.size 0 _ _ ⟨_,Heap.get?_push_size _ rfl,rfl,rfl⟩ (ht.push _) (by omega) λh₁ hit₁ hs₁=>?_));have hall:List.take items.size (List.drop 0 items.toList)=items.toList:=by
   rw[List.drop_zero];exact hA9 (by simp)
  rw[hall];rw[hDt (by simp)];have ht₁:h₁.IsList t items:=(ht.push _).extBut hs₁ hlt;refine hDo (hDv (wpAny_pyNext_list_end hh hit₁ ht₁ (by simp) λh₂ he₂=>?_));simp only[Option.isSome_none,hCg,hEr];refine hDq (hQ h₂ λb o hb e=>he₂ b o hb (hs₁ b o hb (Heap.get?_push_of_some _ e)))
end
def zFc(K:PySem.W.Frag)(n:Nat)(t:TGs):TG:=λv σ H Q=>∃a xs,v = .ref a/\SqL K H a xs/\xs.length=n/\t xs σ H Q
theorem qXk(hc:X.calm=true)(h:PGs X es t)
  (hn:(assignEach es X.env).length=n:=by rfl) (hst:(assignEach es X.env).findIdx? (·.1)=none:=by rfl):PG X (.Tuple es k pos) (zFc X.K n t):=by
 intro aB s σ H v u Q I r hw;obtain⟨a,xs,e1,hq,hl,hw⟩:=hw;subst e1;cases r;obtain⟨its,rv,pl,hz⟩:=I.list hq;rw[assign_Tuple];refine hDo (hE3 ?_);unfold unpack;have hsz:(assignEach es X.env).length=its.toArray.size:=by simp[hn,<-hl,rv.length]
 rw[hsz,hst];refine hDo (hDv (qFp (I.ok.hd hc) pl.isList λh' hx=>?_));have I1:Inv X aB σ H { s with heap:=h' }:=I.kept (t':=s.toks) λb o e=>hx b o (hAi (Heap.lt_size e)) e
 exact h aB _ σ H xs _ Q I1 (by simpa using rv) hw
section
variable{X:Cx}
theorem qPd(hc:X.calm=true):qB2 X (.builtin "min") (λxs H Q=>∃a b:Str,xs=[.str a,.str b]/\Q (.str (if b.cps.toList<a.cps.toList then b else a)) H):=by
 intro aB s σ H xs us Q I r h;obtain⟨a,b,rfl,q⟩:=h;obtain⟨u1,u2,rfl,⟨t1,rfl⟩,⟨t2,rfl⟩⟩:=qH6 r;have tu:(s.heap.push { cls:=.type "tuple",data:=.seq #[.str a t1,.str b t2] }).IsTuple s.heap.objs.size [Value.str a t1,.str b t2].toArray:=⟨_,Heap.get?_push_size _ rfl,rfl,0,by simp⟩;have sz:(s.heap.push { cls:=.type "tuple",data:=.seq #[.str a t1,.str b t2] }).objs.size=s.heap.objs.size+1:=Heap.size_push ..;refine call_min_two (hEm tu ?_);refine⟨_,[_,s.heap.objs.size],[_],_,_,_,λi j=>decide ((([a,b]:List Str).getD i "").cps.toList<(([a,b]:List Str).getD j "").cps.toList),rfl,Walks.tuple (A:=X.A.in1) (I.ok.hd hc) _ s.heap.objs.size (by rw[sz];exact hAi (hAt _)) [Value.str a t1,.str b t2].toArray,⟨⟨_,Heap.get?_push_size _ rfl,rfl,rfl⟩,tu.push _⟩,?_,(by show 0<2;decide),?_,λv h' tk hP hk=>?_⟩
 ·intro c hc';show c<((s.heap.push _).push _).objs.size;rw[Heap.size_push,sz];simp only[hA8,hAo,hE0]at hc';rcases hc' with rfl|rfl
  ·rw[sz];exact hAt _
  ·exact hB2 (hAt _)
 ·intro i j vi vj s' Q' E' hi hj hq';have pick:∀ {k:Nat} {v:Value},[Value.str a t1,.str b t2].toArray[k]?=some v->∃t,v = .str (([a,b]:List Str).getD k "") t:=λ{k v} e=>by
   match k,e with
   |0,e=>cases e;exact⟨t1,rfl⟩
   |1,e=>cases e;exact⟨t2,rfl⟩
   |k+2,e=>simp at e
  obtain⟨w1,rfl⟩:=pick hi;obtain⟨w2,rfl⟩:=pick hj;exact(show wpAny _ _ (compareOp .Lt _ _) _ _ _ from PySem.P.lt_str hq')
 ·have kp:∀b o,s.heap.get? b=some o->h'.get? b=some o:=λb o e=>hk b o (λhm=>by
   rw[hAa]at hm;have:=Heap.lt_size e;rw[hm,sz]at this;exact hBe _ (Nat.lt_of_succ_lt this)) (Heap.get?_push_of_some _ (Heap.get?_push_of_some _ e))
  refine⟨.str (if b.cps.toList<a.cps.toList then b else a),H,I.kept (t':=tk) kp,?_,q⟩;have hP':[Value.str a t1,.str b t2].toArray[if decide (b.cps.toList<a.cps.toList)=true then 1 else 0]?=some v:=hP;by_cases e:b.cps.toList<a.cps.toList
  ·rw[hDu e];rw[hDu (hDp e)]at hP';cases hP';exact⟨_,rfl⟩
  ·rw[hDt e];rw[hDt (by rw[hDr e];decide)]at hP';cases hP';exact⟨_,rfl⟩
theorem qPe(hc:X.calm=true):qB2 X (.builtin "max") (λxs H Q=>∃a b:Str,xs=[.str a,.str b]/\Q (.str (if a.cps.toList<b.cps.toList then b else a)) H):=by
 intro aB s σ H xs us Q I r h;obtain⟨a,b,rfl,q⟩:=h;obtain⟨u1,u2,rfl,⟨t1,rfl⟩,⟨t2,rfl⟩⟩:=qH6 r;have tu:(s.heap.push { cls:=.type "tuple",data:=.seq #[.str a t1,.str b t2] }).IsTuple s.heap.objs.size [Value.str a t1,.str b t2].toArray:=⟨_,Heap.get?_push_size _ rfl,rfl,0,by simp⟩;have sz:(s.heap.push { cls:=.type "tuple",data:=.seq #[.str a t1,.str b t2] }).objs.size=s.heap.objs.size+1:=Heap.size_push ..;refine call_max_two (hEm tu ?_);refine⟨_,[_,s.heap.objs.size],[_],_,_,_,λi j=>decide ((([a,b]:List Str).getD j "").cps.toList<(([a,b]:List Str).getD i "").cps.toList),rfl,Walks.tuple (A:=X.A.in1) (I.ok.hd hc) _ s.heap.objs.size (by rw[sz];exact hAi (hAt _)) [Value.str a t1,.str b t2].toArray,⟨⟨_,Heap.get?_push_size _ rfl,rfl,rfl⟩,tu.push _⟩,?_,(by show 0<2;decide),?_,λv h' tk hP hk=>?_⟩
 ·intro c hc';show c<((s.heap.push _).push _).objs.size;rw[Heap.size_push,sz];simp only[hA8,hAo,hE0]at hc';rcases hc' with rfl|rfl
  ·rw[sz];exact hAt _
  ·exact hB2 (hAt _)
 ·intro i j vi vj s' Q' E' hi hj hq';have pick:∀ {k:Nat} {v:Value},[Value.str a t1,.str b t2].toArray[k]?=some v->∃t,v = .str (([a,b]:List Str).getD k "") t:=λ{k v} e=>by
   match k,e with
   |0,e=>cases e;exact⟨t1,rfl⟩
   |1,e=>cases e;exact⟨t2,rfl⟩
   |k+2,e=>simp at e
  obtain⟨w1,rfl⟩:=pick hi;obtain⟨w2,rfl⟩:=pick hj;exact(show wpAny _ _ (compareOp .Gt _ _) _ _ _ from PySem.P.gt_str hq')
 ·have kp:∀b o,s.heap.get? b=some o->h'.get? b=some o:=λb o e=>hk b o (λhm=>by
   rw[hAa]at hm;have:=Heap.lt_size e;rw[hm,sz]at this;exact hBe _ (Nat.lt_of_succ_lt this)) (Heap.get?_push_of_some _ (Heap.get?_push_of_some _ e))
  refine⟨.str (if a.cps.toList<b.cps.toList then b else a),H,I.kept (t':=tk) kp,?_,q⟩;have hP':[Value.str a t1,.str b t2].toArray[if decide (a.cps.toList<b.cps.toList)=true then 1 else 0]?=some v:=hP;by_cases e:a.cps.toList<b.cps.toList
  ·rw[hDu e];rw[hDu (hDp e)]at hP';cases hP';exact⟨_,rfl⟩
  ·rw[hDt e];rw[hDt (by rw[hDr e];decide)]at hP';cases hP';exact⟨_,rfl⟩
end
def zC5:TE:=λ_ _ _=>False
theorem zA1{X:Cx}{e:Expr}:PE X e zC5:=by
 intro aB s σ H Q I h;exact h.elim
def zC9(t:TS):TS:=λD σ H=>∃Pm:St->Hp->Prop,t { D with nx:=Pm } σ H/\∀σ' H',Pm σ' H'->D.nx σ' H'
theorem qXh{X:Cx}{st:Stmt}{t:TS}(h:PS X st t):PS X st (zC9 t):=by
 intro aB s σ H D I hw;obtain⟨Pm,h1,h2⟩:=hw;refine thn (h aB s σ H { D with nx:=Pm } I h1) λfl s' q=>?_
 cases fl with
 |next=>obtain⟨σ',H',I',q⟩:=q;exact⟨σ',H',I',h2 σ' H' q⟩
 |brk=>exact q
 |cont=>exact q
 |ret _=>exact q
end L2
namespace My
open PySem L2
theorem It3.ext{K:PySem.W.Frag}{H H':Hp}{y:V}{D:PyData}(h:It3 K H y D)(e:Ext H H'):It3 K H' y D:=by
 obtain⟨it,dr,rb,dp⟩:=h;rcases it with ⟨rfl,rfl⟩|⟨b,rfl,rfl⟩|⟨i,rfl,rfl⟩|⟨s,rfl,rfl,h1,h2⟩|⟨a,ss,rfl,rfl,h1,h2,h3,h4⟩|⟨a,ss,rfl,rfl,h1,h2,h3⟩
 ·exact⟨.inl ⟨rfl,rfl⟩,.non,rb,dp⟩
 ·exact⟨.inr (.inl ⟨b,rfl,rfl⟩),.bl b,rb,dp⟩
 ·exact⟨.inr (.inr (.inl ⟨i,rfl,rfl⟩)),.int i,rb,dp⟩
 ·exact⟨.inr (.inr (.inr (.inl ⟨s,rfl,rfl,h1,h2⟩))),.str s,rb,dp⟩
 ·exact⟨.inr (.inr (.inr (.inr (.inl ⟨a,ss,rfl,rfl,e _ _ h1,h2,h3,h4⟩)))),qH0 (e _ _ h1),rb,dp⟩
 ·exact⟨.inr (.inr (.inr (.inr (.inr ⟨a,ss,rfl,rfl,e _ _ h1,h2,h3⟩)))),.tup (SqT.of (e _ _ h1)) (qI8 ss),rb,dp⟩
theorem qKv:bootBuiltins "max"=some (.builtin "max"):=by decide +kernel
abbrev vB:List Value:=[.type "ValueError",.type "Exception",.type "BaseException",.type "object"]
def mnS(a b:Str):Str:=if b.cps.toList<a.cps.toList then b else a
def mxS(a b:Str):Str:=if a.cps.toList<b.cps.toList then b else a
def qWk(net net':List Tr)(t:Tr):Prop:=net'.Perm (net++[t])/\qD5 (net'.map (·.1))
theorem qQv{a b:Str}(h:qLl a b=true)(h':qLl b a=true):False:=by
 have:=qC4 h h';rw[qDv]at this;cases this
theorem qQ1{a b:List Tr}(p:a.Perm b)(ha:qD5 (a.map (·.1)))(hb:qD5 (b.map (·.1))):a=b :=
 p.eq_of_pairwise (le:=λx y=>qLl x.1 y.1=true) (λx y _ _ h h'=>(qQv h h').elim) (hCa.mp ha) (hCa.mp hb)
theorem qWk.uniq{net a b:List Tr}{t:Tr}(h:qWk net a t)(h':qWk net b t):a=b:=qQ1 (h.1.trans h'.1.symm) h.2 h'.2
theorem qHn{H:Hp}{as:List Addr}{net:List Tr}{o:Array Nat}{r:Addr}(ea2:Paired (λa t=>H a=some (.tup (trV t))) as net)(nd:(net.map (·.1)).Nodup)(g:Gd as.length o)(sp:SPk (ltI (net.map qFw)) o as.length)(hr':H r=none) :
  ∃net',qA5 (upd H r (.lst ((o.toList.map λi=>as.getD i 0).map V.ref))) r net'/\net'.Perm net/\qD5 (net'.map (·.1)):=by
 have la:as.length=net.length:=ea2.length;have gm:∀i∈o.toList,i<as.length:=λi hi=>qKd g hi
 have gm':∀i∈o.toList,i<net.length:=λi hi=>by have:=gm i hi;omega
 have gl:=qNy g;have lt:as.length=(net.map qFw).length:=by rw[hA1];exact la
 rw[lt]at g sp;obtain⟨s1,s2⟩:=qFa g sp;rw[<-qE9 gm']at s1 s2;have pm:(o.toList.map λi=>net.getD i t0).Perm net:=by
  have z:=s2.map (λr:List Str=>((r.getD 0 "",r.getD 1 "",r.getD 2 ""):Tr));have id1:∀l:List Tr,(l.map qFw).map (λr:List Str=>((r.getD 0 "",r.getD 1 "",r.getD 2 ""):Tr))=l:=λl=>by
   rw[hB3];exact List.map_id l
  rw[id1,id1]at z;exact z
 have nd':((o.toList.map λi=>net.getD i t0).map (·.1)).Nodup:=(pm.map _).nodup_iff.mpr nd;exact⟨o.toList.map λi=>net.getD i t0,⟨_,upd_same,Paired.mapP (qGs ea2 gm) λa' t z=>Ext.new hr' _ _ _ z⟩,pm,qIn s1 nd'⟩
theorem qHo{K:PySem.W.Frag}{H:Hp}{as:List Addr}{net:List Tr}(ea2:Paired (λa t=>H a=some (.tup (trV t))) as net):Paired (λa t=>SqT K H a (t.map V.str)/\t≠[]) as (net.map qFw):=qC6 _ (λa t z=>⟨SqT.of z,by simp[qFw]⟩) ea2
theorem qDw{ss:List Str}(h:qD5 ss):ss.Nodup:=h.imp λ{a b} z e=>by rw[e,qDv]at z;cases z
def qHf(net:List Tr)(x y z:V)(t:Tr):Prop:=∃a b c:Str,x = .str a/\y = .str b/\z = .str c/\qBg a=true/\qBg b=true/\qBg c=true/\a∉net.map (·.1)/\t=(a,mnS b c,mxS b c)
theorem qHf.uniq{net:List Tr}{x y z:V}{t u:Tr}(h:qHf net x y z t)(h':qHf net x y z u):t=u:=by
 obtain⟨a,b,c,rfl,rfl,rfl,_,_,_,_,rfl⟩:=h;obtain⟨a',b',c',e1,e2,e3,_,_,_,_,rfl⟩:=h';cases e1;cases e2;cases e3;rfl
def qU0(K:PySem.W.Frag)(CI CT:Addr):Sp:=λvs H Q E=>∃(p:Addr) (net:List Tr) (x y z:V) (Dx Dy Dz:PyData),vs=[.ref p,x,y,z]/\qA5 H p net/\net.length<=12/\qD5 (net.map (·.1))/\It3 K H x Dx/\It3 K H y Dy/\It3 K H z Dz /\
 ((¬∃t,qHf net x y z t)->∀H',Ext H H'->E (.ref CI) none H')/\(∀t net',qHf net x y z t->qWk net net' t->¬qN9 net'->∀H',Ext H H'->E (.ref CT) none H') /\
 ∀t net',qHf net x y z t->qWk net net' t->qN9 net'->∀r H',Ext H H'->H r=none->qA5 H' r net'->Q (.ref r) H'
section
variable{P:Program}{w:World}{K:PySem.W.Frag}{mg:Str->Option Value}{base:Heap}{f f1 f2 f3 CI CT:Addr}{fd fd1 fd2 fd3:FuncData}{newId inN:String}{bmN:List Value}
abbrev wiN:List Str:=["net","tie","point","other","told"]
theorem qVj:FnScope wiN ["net","tie","point","other"] (qAa qLg):=fsk
theorem qXw(F:Fun K "with_tie" "with_tie" qLg f fd)(Fn:ExcBaseFacts "ValueError" newId inN bmN)(FB:ExcBaseFacts "ValueError" "ValueError.__new__" "ValueError.__init__" vB)(OI:PyProof.Rows.OwnCls "NoTie" CI vB newId mg base)(OT:PyProof.Rows.OwnCls "TooMany" CT vB newId mg base)
  (G1:v8 1 f1 fd1 ["thing"] qMx "is_name")
  (G2:v8 1 f2 fd2 ["net"] qHm "ties_of")
  (G3:v8 6 f3 fd3 ["net"] qWr "keeps_net_bounds")
  (ma:mg "all"=none) (ms:mg "sorted"=none) (mmi:mg "min"=none) (mma:mg "max"=none):FnOk P w K mg base (CXe P w) 7 f fd ["net","tie","point","other"] (qU0 K CI CT):=by
 refine F.okE qVj (λvs H Q E h=>?_) (λcdv A outer s H vs Q E hr hh h=>?_)
 ·obtain⟨p,net,x,y,z,_,_,_,rfl,_⟩:=h;rfl
 obtain⟨p,net,x,y,z,Dx,Dy,Dz,rfl,nt,l12,rs,ix,iy,iz,q1,q2,q3⟩:=h;have hr1:=hr.mono (j:=1) (by decide);refine⟨_,qAb (qBl (PW.pt (qD3 (qB0 (qBr (qAg (qCh rfl) rfl ma qCi (qAd
    (qCr (N:=wiN) (sc:=qAa qLg) (N':=["thing"]) (sub:=[none]) (qJv (qBk (qD4 (pv 1) (qD4 (pv 2) (qD4 (pv 3) qAs))))) (λC s H fp=>⟨qA4,qA0 G1 hr1 rfl .nil qA2 (pa1 (pv 0))⟩)) qAs))))
   (qDi (qAm (show OpR _ (compareOp .In) (rIn K false) from qEo) (pv 1) (qA0 G2 hr1 rfl .nil qA2 (pa1 (pv 0))) (by with_unfolding_all rfl)))))
   (qAe (qEl hh Fn (by decide) FB OI (pa1 qA9) rfl (by decide))) qAw)
  (qAb (v0 4 qVj (qAg qDh rfl ms qBa (zCo (qAl qHu (pv 0) (qB9 (zEa (qBk (qD4 (pv 1) (qAd (qAg (qPd rfl) rfl mmi qEz (qD4 (pv 2) (qD4 (pv 3) qAs))) (pa1 (qAg (qPe rfl) rfl mma qKv (qD4 (pv 2) (qD4 (pv 3) qAs))))))) qAs))) qAs)))
  (qAb (qBl (qB0 (qBr (qA0 G3 hr rfl .nil qA2 (pa1 (pv 4))))) (qAe (qEl hh Fn (by decide) FB OT (pa1 qA9) rfl (by decide))) qAw)
  (qAe (qAo (pv 4))))),?_⟩
 obtain⟨as,hp,pr⟩:=id nt;have la:as.length=net.length:=pr.length;refine⟨_,rfl,_,rfl,_,rfl,(by show 3<=sizeLine;decide),λT hT=>⟨T,rfl,⟨_,SqT.of upd_same⟩,?_⟩⟩;have X1:=Ext.new hT (.tup [x,y,z]);refine qHj (xs:=[x,y,z]) (λv=>some (V.bl (nmV v))) upd_same (by show 3<=sizeLine;decide) (λv hv H1 he C hC=>?_) λH1 he=>?_
 ·obtain⟨D,hD⟩:∃D,Item H v D:=by
   simp only[hA8,hAo,hE0]at hv;rcases hv with rfl|rfl|rfl
   ·exact⟨_,ix.it⟩
   ·exact⟨_,iy.it⟩
   ·exact⟨_,iz.it⟩
  exact⟨sls,iteT (B:=False) ⟨_,rfl,v,D,rfl,hD.ext (X1.trans he),λH' he'=>hC H' he'⟩⟩
 intro r hr1';rw[show List.filterMap (λv=>some (V.bl (nmV v))) [x,y,z]=[nmV x,nmV y,nmV z].map V.bl from rfl];refine⟨r,[nmV x,nmV y,nmV z],rfl,SqL.of upd_same,([nmV x,nmV y,nmV z]:List Bool).all id,rfl,?_⟩;have X2:Ext H (upd H1 r (.lst ([nmV x,nmV y,nmV z].map V.bl))):=X1.trans (he.trans (Ext.new hr1' _));revert X2;generalize upd H1 r (.lst ([nmV x,nmV y,nmV z].map V.bl))=H2;intro X2;have bad:(¬∃t,qHf net x y z t)->∀H',Ext H2 H'->E (.ref CI) none H':=λn H' e=>q1 n H' (X2.trans e)
 refine qB1 (λc=>?_) (λc=>?_)
 ·refine iteT ⟨(by show 1<=sizeLine;decide),bad ?_ _ (Ext.refl _)⟩;rintro⟨t,a,b,d,rfl,rfl,rfl,n1,n2,n3,_⟩;have:([nmV (.str a),nmV (.str b),nmV (.str d)]:List Bool).all id=true:=by
   show(qBg a && (qBg b && (qBg d && true)))=true;rw[n1,n2,n3];rfl
  rw[this]at c;cases c
 have nms:(nmV x && (nmV y && (nmV z && true)))=true:=by
  cases h3:(nmV x && (nmV y && (nmV z && true))) with
  |true=>rfl
  |false=>exact absurd (show(!([nmV x,nmV y,nmV z]:List Bool).all id)=true by show(!(nmV x && (nmV y && (nmV z && true))))=true;rw[h3];rfl) c
 rw[Bool.and_true,hB9,hB9]at nms;obtain⟨n1,n2,n3⟩:=nms;obtain⟨a,rfl⟩:=qCt n1;obtain⟨b,rfl⟩:=qCt n2;obtain⟨d,rfl⟩:=qCt n3;refine⟨_,rfl,_,rfl,p,net,rfl,nt.ext X2,by omega,λtl H3 e3 tl0 htl=>?_⟩;refine⟨tl,_,rfl,.inl (SqL.of htl),rfl,qDs _,_,rfl,?_⟩;rw[show(if false=true then !inV (V.str a) ((net.map (·.1)).map V.str) else inV (V.str a) ((net.map (·.1)).map V.str))=decide (a∈net.map (·.1)) from qFe a _];refine qB1 (λc2=>?_) (λc2=>?_)
 ·refine⟨(by show 1<=sizeLine;decide),bad ?_ _ e3⟩;rintro⟨t,a',b',d',e1,_,_,_,_,_,no,_⟩;cases e1;exact no (hDs c2)
 have no:a∉net.map (·.1):=λz=>c2 (hDp z)
 have lay:qHf net (.str a) (.str b) (.str d) (a,mnS b d,mxS b d):=⟨a,b,d,rfl,rfl,rfl,n1,n2,n3,no,rfl⟩;have X3:=X2.trans e3;refine⟨_,rfl,_,rfl,_,rfl,_,rfl,b,d,rfl,_,rfl,_,rfl,b,d,rfl,(by show 3<=sizeLine;decide),λT2 hT2=>⟨(by show 1<=sizeLine;decide),λL hL=>?_⟩⟩;have Z1:=Ext.new hT2 (.tup (trV (a,mnS b d,mxS b d)));have Z2:=Ext.new hL (.lst [V.ref T2]);refine⟨p,L,_,_,rfl,rfl,(X3.trans (Z1.trans Z2)) _ _ hp,upd_same,?_,λS hS=>?_⟩
 ·rw[hA1];exact hAz (qAf (by show as.length+1<=1000;omega))
 have Z3:=Ext.new hS (.lst (as.map V.ref++[V.ref T2]));have X4:=X3.trans (Z1.trans (Z2.trans Z3));have prS:Paired (λu t=>(upd (upd (upd H3 T2 (.tup (trV (a,mnS b d,mxS b d)))) L (.lst [V.ref T2])) S (.lst (as.map V.ref++[V.ref T2]))) u=some (.tup (trV t))) (as++[T2]) (net++[(a,mnS b d,mxS b d)]):=Paired.app (Paired.mapP pr λu t z=>X4 _ _ z) (.cons ((Z2.trans Z3) _ _ upd_same) .nil);have ndS:((net++[(a,mnS b d,mxS b d)]).map (·.1)).Nodup:=by
  rw[hA7,hDa];refine⟨qDw rs,(by simp),λu hu v hv e=>?_⟩;rw[hBc,hAa]at hv;rw[e,hv]at hu;exact no hu
 refine⟨S,as++[T2],(net++[(a,mnS b d,mxS b d)]).map qFw,rfl,SqL.of (by rw[hA7];exact upd_same),qHo prS,by rw[hAd];show as.length+1<64;omega,λr2 o r20 g sp=>?_⟩;obtain⟨net2,nt2,pm2,rs2⟩:=qHn prS ndS g sp r20;have e5:=Ext.new r20 (.lst ((o.toList.map λi=>(as++[T2]).getD i 0).map V.ref));have into:qWk net net2 (a,mnS b d,mxS b d):=⟨pm2,rs2⟩;have l13:net2.length<=13:=by rw[pm2.length_eq,hAd];show net.length+1<=13;omega
 refine⟨_,rfl,r2,net2,rfl,nt2,by omega,rs2,λbo H6 eb e6=>⟨bo,rfl,?_⟩⟩;have X6:=X4.trans (e5.trans e6);cases bo with
 |false=>exact iteT ⟨(by show 1<=sizeLine;decide),q2 _ net2 lay into (λz=>by have:=eb.mpr z;cases this) _ X6⟩
 |true =>
  refine qGz ⟨_,rfl,q3 _ net2 lay into (eb.mp rfl) r2 _ X6 ?_ (nt2.ext e6)⟩;exact X4.none r20
end
end My
namespace L2
open PySem PySem.Spec PyProof.Rows PySem.W
section
variable{X:Cx}
def qQ6(K:PySem.W.Frag):R2:=λx y H Q=>∃ds d,DR K H y (.list ds)/\DR K H x d/\SeqAt.shaped (.list ds)=true/\SeqAt.shaped d=true/\Q (.bl (!ds.any λz=>PyData.eqv z d)) H
theorem qRg(hu:X.A.units+65<cLine):OpR X (compareOp .NotIn) (qQ6 X.K):=by
 intro aB s σ H x y v u Q I rx ry h;obtain⟨ds,d,hy,hx,sy,sx,q⟩:=h;obtain⟨a1,r1⟩:=DR.reads I hx rx;obtain⟨a2,r2⟩:=DR.reads I hy ry;exact SeqAt.notIn_list_reads r2 r1 (SeqAt.canLay_of_shaped sy) (SeqAt.canLay_of_shaped sx) (room_in_shaped sx hu) ⟨.bl _,H,I,rfl,q⟩
end
end L2
namespace My
open PySem L2
theorem zAw{k:Nat}{A:Around}(hr:Room k A):A.units+65<cLine:=by have:=hr.un;omega
theorem qSz{D:PyData}(a:Str):∀ {ns:List Str},D = .str a->(ns.map PyData.str).any (λz=>PyData.eqv z D)=decide (a∈ns)
 |[],_=>rfl
 |n :: ns,e=>by
  have ih:=qSz a (ns:=ns) e;subst e;rw[hAv,hD9,ih];show(n == a || decide (a∈ns))=decide (a∈n :: ns);by_cases c:n=a
  ·subst c;simp
  ·rw[beq_false_of_ne c,Bool.false_or];have c':¬a=n:=λz=>c z.symm
   simp[c']
theorem qWi{D:PyData}(h:∀a,D≠.str a):∀ns:List Str,(ns.map PyData.str).any (λz=>PyData.eqv z D)=false
 |[]=>rfl
 |n :: ns=>by
  rw[hAv,hD9,qWi h ns,Bool.or_false];cases D with
  |str a=>exact absurd rfl (h a)
  |_=>rfl
theorem It3.str{K:PySem.W.Frag}{H:Hp}{x:V}{D:PyData}(h:It3 K H x D):(∃a,x = .str a/\D = .str a)\/((∀a,x≠.str a)/\∀a,D≠.str a):=by
 rcases h.it with ⟨rfl,rfl⟩|⟨b,rfl,rfl⟩|⟨i,rfl,rfl⟩|⟨s,rfl,rfl,_⟩|⟨a,ss,rfl,rfl,_⟩|⟨a,ss,rfl,rfl,_⟩
 ·exact .inr ⟨λ_ e=>(by cases e),λ_ e=>by cases e⟩
 ·exact .inr ⟨λ_ e=>(by cases e),λ_ e=>by cases e⟩
 ·exact .inr ⟨λ_ e=>(by cases e),λ_ e=>by cases e⟩
 ·exact .inl ⟨s,rfl,rfl⟩
 ·exact .inr ⟨λ_ e=>(by cases e),λ_ e=>by cases e⟩
 ·exact .inr ⟨λ_ e=>(by cases e),λ_ e=>by cases e⟩
theorem qD9{ss:List Str}(h:SOk ss):SeqAt.shaped (.list (ss.map .str))=true:=by
 obtain⟨h1,h2⟩:=qEt h;show(PyData.canLayAll0 (ss.map .str) && decide (PyData.depthAll (ss.map .str)+1<=64))=true;rw[h1,h2];rfl
theorem It3.shp{K:PySem.W.Frag}{H:Hp}{x:V}{D:PyData}(h:It3 K H x D):SeqAt.shaped D=true:=by
 rcases h.it with ⟨rfl,rfl⟩|⟨b,rfl,rfl⟩|⟨i,rfl,rfl⟩|⟨s,rfl,rfl,_,sm⟩|⟨a,ss,rfl,rfl,_,ok,_⟩|⟨a,ss,rfl,rfl,_,ok,_⟩
 ·rfl
 ·rfl
 ·rfl
 ·show(PyData.strOk s && _)=true;rw[sm.ok];rfl
 ·exact qD9 ok
 ·exact qD9 ok
def qE2(net:List Tr)(a:Str):List Tr:=net.filter λt=>!decide (t.1=a)
def zCw(net:List Tr)(x:V):Prop:=∃a,x = .str a/\a∈net.map (·.1)
def qF4(K:PySem.W.Frag)(CI:Addr):Sp:=λvs H Q E=>∃(p:Addr) (net:List Tr) (x:V) (D:PyData),vs=[.ref p,x]/\qA5 H p net/\net.length<=12/\SOk (net.map (·.1))/\It3 K H x D/\(¬zCw net x->∀H',Ext H H'->E (.ref CI) none H') /\
 ∀a,x = .str a->a∈net.map (·.1)->∀r H',Ext H H'->H r=none->qA5 H' r (qE2 net a)->Q (.ref r) H'
section
variable{P:Program}{w:World}{K:PySem.W.Frag}{mg:Str->Option Value}{base:Heap}{f f1 f2 f3 CI CT:Addr}{fd fd1 fd2 fd3:FuncData}{newId inN:String}{bmN:List Value}
theorem qQp:FnScope ["net","name"] ["net","name"] (qAa qC9):=fsk
theorem qO3(F:Fun K "without_tie" "without_tie" qC9 f fd)(Fn:ExcBaseFacts "ValueError" newId inN bmN)(FB:ExcBaseFacts "ValueError" "ValueError.__new__" "ValueError.__init__" vB)(OI:PyProof.Rows.OwnCls "NoTie" CI vB newId mg base)
  (G2:v8 1 f2 fd2 ["net"] qHm "ties_of"):FnOk P w K mg base (CXe P w) 2 f fd ["net","name"] (qF4 K CI):=by
 refine F.okE qQp (λvs H Q E h=>?_) (λcdv A outer s H vs Q E hr hh h=>?_)
 ·obtain⟨p,net,x,_,rfl,_⟩:=h;rfl
 obtain⟨p,net,x,D,rfl,nt,l12,sk,ix,q1,q2⟩:=h;refine⟨_,qAb (qBl (qAm (show OpR _ (compareOp .NotIn) (qQ6 K) from qRg (zAw hr)) (pv 1) (qA0 G2 hr rfl .nil qA2 (pa1 (pv 0))) (by with_unfolding_all rfl))
   (qAe (qEl hh Fn (by decide) FB OI (pa1 qA9) rfl (by decide))) qAw)
  (qAe (qAo (qDn (N:=["net","name"]) (sc:=qAa qC9) (N':=["tie","name"]) (sub:=[none,some 1]) rfl rfl (CmpOk.of (by decide +kernel)) rfl (qAx (pv 0))
     (λC s H fp=>⟨qAh (i:=0) (by show(["tie","name"]:List Str).Nodup;decide) rfl (Or.inl rfl),qC2 (qAm qEe (qA6 (show IxR _ (qLx K) from qA7) (pv 0) qAc (λ_ _=>rfl)) (pv 1) (qAu _)),pv 0⟩)))),?_⟩
 obtain⟨as,hp,pr⟩:=id nt;have la:as.length=net.length:=pr.length;refine⟨_,rfl,_,rfl,p,net,rfl,nt,by omega,λtl H1 e1 tl0 htl=>?_⟩;refine⟨(net.map (·.1)).map PyData.str,D,qH0 htl,(ix.ext e1).dr,qD9 sk,ix.shp,_,rfl,?_⟩;rcases ix.str with ⟨a,rfl,rfl⟩|⟨n1,n2⟩
 ·rw[qSz a rfl];refine qB1 (λc=>?_) (λc=>?_)
  ·refine⟨(by show 1<=sizeLine;decide),q1 ?_ _ e1⟩;rintro⟨a',e,m⟩;cases e;rw[hDp m]at c;cases c
  have m:a∈net.map (·.1):=by
   by_cases z:a∈net.map (·.1)
   ·exact z
   ·exact absurd (show(!decide (a∈net.map (·.1)))=true by rw[hDr z];rfl) c
  have hp1:=e1 _ _ hp;refine⟨_,rfl,p,rfl,⟨_,SqL.of hp1⟩,?_⟩;refine qA1 (xs:=as.map V.ref) (λi ys H'=>H'=H1/\∃bs:List Addr,ys=bs.map V.ref/\bs.length<=i/\Paired (λu t=>H1 u=some (.tup (trV t))) bs (qE2 (net.take i) a)) ⟨rfl,[],rfl,hA3 _,.nil⟩ (λi ys H' _ h=>by rw[h.1];exact SqL.of hp1) ?_ ?_
  ·rintro i y ys H' hy ⟨rfl,bs,rfl,lb,pb⟩;have hi:=(hAc.mp hy).1;rw[hA1]at hi;obtain⟨u,t,rfl,ht,hu⟩:=qDc pr hy;have hu1:=e1 _ _ hu;refine⟨sls,_,rfl,u,_,_,_,rfl,rfl,SqT.of hu1,(by exact qAv (j:=0) rfl),_,rfl,rfl,_,rfl,?_⟩;refine qB1 (λc2=>⟨_,rfl,?_,nxt (by rw[hA1];exact hi) ⟨rfl,bs++[u],by rw[hA7];rfl,by rw[hAd];exact hDe lb 1,?_⟩⟩) (λc2=>nxt (by rw[hA1];exact hi) ⟨rfl,bs,rfl,by omega,?_⟩)
   ·rw[hA1];exact qAf (by omega)
   ·have ne:t.1≠a:=λz=>by rw[z]at c2;simp at c2
    show Paired _ _ (qE2 (net.take (i+1)) a);unfold qE2 at pb ⊢;rw[qKg ht (by rw[hDr ne];rfl)];exact Paired.snoc pb hu1
   ·have eq:t.1=a:=by
     by_cases z:t.1=a
     ·exact z
     ·exact absurd (show(!decide (V.str t.1=V.str a))=true by rw[hDr (λy=>z (V.str.inj y))];rfl) c2
    show Paired _ _ (qE2 (net.take (i+1)) a);unfold qE2 at pb ⊢;rw[qKh ht (by rw[hDp eq];rfl)];exact pb
  ·rintro ys H' ⟨rfl,bs,rfl,lb,pb⟩ r hr';rw[hA1,la,hA9 (hA3 _)]at pb;exact q2 a rfl m r _ (e1.trans (Ext.new hr' _)) (e1.none hr') ⟨bs,upd_same,Paired.mapP pb λu t z=>Ext.new hr' _ _ _ z⟩
 ·rw[qWi n2];refine iteT ⟨(by show 1<=sizeLine;decide),q1 ?_ _ e1⟩;rintro⟨a,e,_⟩;exact n1 a e
end
def enT(t:Tr):List Str:=[t.2.1,t.2.2]
def exT(ties:List Str)(g:Str->Str)(t:Tr)(x:Str):Str:=if t.1∈ties then g x else x
def mvT(ties:List Str)(g:Str->Str)(t:Tr):Tr:=(t.1,mnS (exT ties g t t.2.1) (exT ties g t t.2.2),mxS (exT ties g t t.2.1) (exT ties g t t.2.2))
def qZn(net:List Tr)(ties:List Str)(g:Str->Str):List Tr:=net.map (mvT ties g)
def plD(pl:List (Str×Str)):List (Key×V):=pl.map λp=>(Sum.inr p.1,V.str p.2)
def gP(pl:List (Str×Str))(x:Str):Str:=((pl.find? λp=>decide (p.1=x)).map (·.2)).getD x
theorem qRa(x:Str):∀pl:List (Str×Str),(qPj (plD pl) (Sum.inr x)).getD (.str x) = .str (gP pl x)
 |[]=>rfl
 |p :: r=>by
  have ih:=qRa x r;unfold gP at ih ⊢;show(qPj ((Sum.inr p.1,V.str p.2) :: plD r) (Sum.inr x)).getD (.str x)=_;by_cases e:p.1=x
  ·rw[qH7 (by rw[e]),hC8,hDp e];rfl
  ·rw[qH8 (λz=>e (Sum.inr.inj z)),hC8,hDr e,ih]
def qP8:Sp:=λvs H Q _=>∃(p q d:Addr) (net:List Tr) (ties:List Str) (pl:List (Str×Str)),vs=[.ref p,.ref q,.ref d]/\qA5 H p net/\net.length<=12/\LsS H q ties/\H d=some (.dK (plD pl))/\∀r H',Ext H H'->H r=none->qA5 H' r (qZn net ties (gP pl))->Q (.ref r) H'
section
variable{P:Program}{w:World}{K:PySem.W.Frag}{mg:Str->Option Value}{base:Heap}{f f1 f2 f3:Addr}{fd fd1 fd2 fd3:FuncData}
abbrev moN:List Str:=["net","ties","places","told","tie","one","other","ends"]
theorem qE7:FnScope moN ["net","ties","places"] (qAa qFk):=fsk
theorem qT1(F:Fun K "moved" "moved" qFk f fd)(mmi:mg "min"=none)(mma:mg "max"=none):v7 1 f fd ["net","ties","places"] qP8:=by
 refine F.okA qE7 λcdv A outer s H vs Q E hr h=>?_
 obtain⟨p,q,d,net,ties,pl,rfl,nt,hl,hq,hd,qq⟩:=h;have hu1:A.units+3+1<cLine:=by have:=hr.un;have e:(A.deeper (PyProof.Rows.envOfC "moved" (qAa qFk) s.heap.objs.size f cdv)).units=A.units+3:=rfl;omega
 refine⟨_,qAb (v0 3 qE7 (qB9 qAs))
  (qAb (qCp PassesOwn.never rfl (qAx (pv 0)) (qCe rfl (qAi (v6 4 qE7) (qAi (v4 5 qE7) (qAi (v4 6 qE7) qBj))))
   (qAb (qQ8 (i:=7) (N:=moN) (sc:=qAa qFk) (N':=["end","tie","ties","places"]) (sub:=[none,some 4,some 1,some 2]) (qJv (qBk (qAd (pv 5) (pa1 (pv 6))))) (λC s H fp=>⟨qA4,qDy (qAm (show OpR _ (compareOp .In) (rIn K false) from qEo) (pv 1) (pv 2) (by with_unfolding_all rfl)) (qTt hu1 (pv 3) (pv 0) (pv 0) ⟨rfl,rfl,rfl,rfl⟩) (pv 0)⟩) qE7.nd rfl (Or.inl rfl))
   (qAe (qCa (qEm hAu hB6 hB7 qBt (pv 3) (pa1 (qBk (qAd (pv 4) (qAd (qAg (qSt rfl) rfl mmi qEz (pa1 (pv 7))) (pa1 (qAg (qSu rfl) rfl mma qKv (pa1 (pv 7)))))))))))))
  (qAe (qAo (pv 3)))),?_⟩
 obtain⟨as,hp,pr⟩:=id nt;have la:as.length=net.length:=pr.length;refine⟨hAq _,λto hto=>?_⟩;have X0:=Ext.new hto (.lst []);refine⟨_,rfl,p,rfl,⟨_,SqL.of (X0 _ _ hp)⟩,?_⟩;refine qCx (xs:=as.map V.ref) (λi σ H3=>∃(x4 x5 x6 x7:Option V),σ=[some (.ref p),some (.ref q),some (.ref d),some (.ref to),x4,x5,x6,x7]/\Ext H H3/\qA5 H3 to (qZn (net.take i) ties (gP pl))) ⟨_,_,_,_,rfl,X0,⟨[],upd_same,.nil⟩⟩ ?_ ?_ ?_
 ·rintro i σ H3 _ ⟨_,_,_,_,_,e3,_⟩;exact SqL.of (e3 _ _ hp)
 ·rintro i x σ H3 hx ⟨x4,x5,x6,x7,rfl,e3,nt3⟩;obtain⟨a,t,rfl,ht,ha⟩:=qDc pr hx;have hi:=qBq ht;obtain⟨bs,hb1,hb2⟩:=id nt3;have lb:bs.length=_:=hb2.length;unfold qZn at lb;rw[hA1,hAn]at lb;refine⟨a,_,rfl,SqT.of (e3 _ _ ha),rfl,_,_,rfl,_,_,rfl,_,_,rfl,rfl,?_⟩;refine⟨_,rfl,_,rfl,(by show 2<=sizeLine;decide),λT hT=>⟨T,rfl,⟨_,SqT.of upd_same⟩,?_⟩⟩;have X1:=Ext.new hT (.tup [V.str t.2.1,V.str t.2.2]);have hq1:=X1 _ _ (e3 _ _ hq);have hd1:=X1 _ _ (e3 _ _ hd);refine qE3 (xs:=[V.str t.2.1,V.str t.2.2]) (λj ys H2=>H2=upd H3 T (.tup [V.str t.2.1,V.str t.2.2])/\ys=((enT t).take j).map λx=>V.str (exT ties (gP pl) t x)) ⟨rfl,rfl⟩ (λj ys H2 _ h=>by rw[h.1];exact SqT.of upd_same) ?_ ?_
  ·rintro j y ys H2 hy ⟨rfl,rfl⟩;have hj:j<2:=qBq hy;obtain⟨z,rfl,hz⟩:∃z:Str,y = .str z/\(enT t).take (j+1)=(enT t).take j++[z]:=by
    rcases(show j=0\/j=1 by omega) with rfl|rfl
    ·cases hAr hy;exact⟨_,rfl,rfl⟩
    ·cases hAr hy;exact⟨_,rfl,rfl⟩
   have ll:(((enT t).take j).map λx=>V.str (exT ties (gP pl) t x)).length<sizeLine:=by
    rw[hA1,hAn];exact qAf (by show min j 2<=1000;omega)
   refine⟨sls,iteT (B:=False) ?_⟩;refine⟨_,rfl,_,rfl,q,_,rfl,.inl (SqL.of hq1),rfl,qDs ties,_,rfl,?_⟩;rw[show(if false=true then !inV (V.str t.1) (ties.map V.str) else inV (V.str t.1) (ties.map V.str))=decide (t.1∈ties) from qFe t.1 ties];refine qB1 (λc=>?_) (λc=>?_)
   ·have c':t.1∈ties:=hDs c;refine⟨_,rfl,d,rfl,.inl ⟨_,.inl hd1⟩,_,rfl,_,rfl,_,zCk.k (k:=Sum.inr z) hd1,ll,nxt hj ⟨rfl,?_⟩⟩;rw[qRa,hz,hA7];unfold exT;rw[hBc,hDu c']
   ·have c':¬t.1∈ties:=λy=>c (hDp y)
    refine⟨_,rfl,ll,nxt hj ⟨rfl,?_⟩⟩;rw[hz,hA7];unfold exT;rw[hBc,hDt c']
  ·rintro ys H2 ⟨rfl,rfl⟩ L hL;have X2:=X1.trans (Ext.new hL (.lst [V.str (exT ties (gP pl) t t.2.1),V.str (exT ties (gP pl) t t.2.2)]));refine⟨_,rfl,.inl ⟨rfl,_,SqL.of (X2 _ _ hb1)⟩,_,rfl,_,rfl,L,_,_,rfl,SqL.of upd_same,_,rfl,L,_,_,rfl,SqL.of upd_same,(by show 3<=sizeLine;decide),λT3 hT3=>?_⟩;have X3:=X2.trans (Ext.new hT3 (.tup (trV (mvT ties (gP pl) t))));refine⟨to,_,_,rfl,rfl,X3 _ _ hb1,by rw[hA1];exact qAf (by omega),?_⟩;refine⟨_,_,_,_,rfl,(e3.trans X3).over hto _,?_⟩;unfold qZn;rw[qAr ht,hA7];exact qA5.snoc hb1 hb2 X3 upd_same
 ·rintro σ H3 ⟨_,_,_,_,rfl,e3,nt3⟩;rw[hA1,la,hA9 (hA3 _)]at nt3;exact⟨_,rfl,qq to H3 e3 hto nt3⟩
end
def plN(net:List Tr)(a:Str):List (Str×Str):=(net.filter λt=>decide (t.1=a)).map λt=>(t.2.2,t.2.1)
def zAe(one other:Str)(t:Tr):Tr:=(t.1,mnS (if other=t.2.1 then one else t.2.1) (if other=t.2.2 then one else t.2.2),mxS (if other=t.2.1 then one else t.2.1) (if other=t.2.2 then one else t.2.2))
def qVi(net:List Tr)(a one other:Str):List Tr:=(qE2 net a).map (zAe one other)
theorem qEw:∀ {net:List Tr} {a one other:Str},(net.map (·.1)).Nodup->(a,one,other)∈net->(net.filter λt=>decide (t.1=a))=[(a,one,other)]
 |[],_,_,_,_,h=>by cases h
 |u :: r,a,one,other,nd,h=>by
  rw[hAv,hBq]at nd;rcases hA8.mp h with rfl|z
  ·rw[List.filter_cons_of_pos (by simp)];have:(r.filter λt=>decide (t.1=a))=[]:=List.filter_eq_nil_iff.mpr λt ht e=>nd.1 (by
    have e':t.1=a:=hDs e;exact hAe.mpr ⟨t,ht,e'⟩)
   rw[this]
  ·have ne:u.1≠a:=λe=>nd.1 (hAe.mpr ⟨_,z,e.symm⟩)
   rw[List.filter_cons_of_neg (by simp[ne])];exact qEw nd.2 z
theorem qV5(one other x:Str):gP [(other,one)] x=if other=x then one else x:=by
 unfold gP;by_cases e:other=x
 ·rw[hC8,hDp e,hDu e];rfl
 ·rw[hC8,hDr e,hDt e];rfl
theorem qYm{net:List Tr}{a one other:Str}:qZn (qE2 net a) ((qE2 net a).map (·.1)) (gP [(other,one)])=qVi net a one other:=by
 unfold qZn qVi;refine hBv λt ht=>?_
 have m:t.1∈(qE2 net a).map (·.1):=hBd ht;unfold mvT exT zAe;rw[hDu m,hDu m,qV5,qV5]
theorem qIw(net:List Tr)(a:Str):(qE2 net a).length<=net.length:=hC6 _ _
def qMv(K:PySem.W.Frag)(CI:Addr):Sp:=λvs H Q E=>∃(p:Addr) (net:List Tr) (x:V) (D:PyData),vs=[.ref p,x]/\qA5 H p net/\net.length<=12/\SOk (net.map (·.1))/\(net.map (·.1)).Nodup/\It3 K H x D/\(¬zCw net x->∀H',Ext H H'->E (.ref CI) none H') /\
 ∀a one other,x = .str a->(a,one,other)∈net->∀r H',Ext H H'->H r=none->qA5 H' r (qVi net a one other)->Q (.ref r) H'
section
variable{P:Program}{w:World}{K:PySem.W.Frag}{mg:Str->Option Value}{base:Heap}{f f1 f2 f3 CI CT:Addr}{fd fd1 fd2 fd3:FuncData}
abbrev shN:List Str:=["net","name","rest","places"]
theorem qIj:FnScope shN ["net","name"] (qAa qEa):=fsk
theorem qRk(F:Fun K "with_tie_shrunk" "with_tie_shrunk" qEa f fd)
  (G1:Cl P w K mg base (CXe P w) 2 f1 fd1 ["net","name"] (qF4 K CI) "without_tie")
  (G2:v8 1 f2 fd2 ["net"] qHm "ties_of")
  (G3:v8 1 f3 fd3 ["net","ties","places"] qP8 "moved"):FnOk P w K mg base (CXe P w) 3 f fd ["net","name"] (qMv K CI):=by
 refine F.okE qIj (λvs H Q E h=>?_) (λcdv A outer s H vs Q E hr hh h=>?_)
 ·obtain⟨p,net,x,_,rfl,_⟩:=h;rfl
 obtain⟨p,net,x,D,rfl,nt,l12,sk,nd,ix,q1,q2⟩:=h;have hr1:=hr.mono (j:=1) (by decide);refine⟨_,qAb (v0 2 qIj (qA0 G1 hr rfl .nil qRe (qAd (pv 0) (pa1 (pv 1)))))
  (qAb (zE3 (i:=3) qY1 (λ_=>rfl) (N:=shN) (sc:=qAa qEa) (N':=["tie","one","other","name"]) (sub:=[none,none,none,some 1]) rfl rfl (CmpOk.of (by decide +kernel)) rfl (qAx (pv 0))
    (λC s H fp=>⟨(show PG _ _ (qUp K 3 _) from qCe rfl (qAi (qAh (i:=0) (by show(["tie","one","other","name"]:List Str).Nodup;decide) rfl (Or.inl rfl)) (qAi (qAh (i:=1) (by show(["tie","one","other","name"]:List Str).Nodup;decide) rfl (Or.inl rfl)) (qAi (qAh (i:=2) (by show(["tie","one","other","name"]:List Str).Nodup;decide) rfl (Or.inl rfl)) qBj)))),
     qC2 (qAm qDb (pv 0) (pv 3) (qAu _)),λacc=>qTw rfl (pv 2) (pv 1)⟩) qIj.nd rfl (Or.inl rfl))
  (qAe (qAo (qA0 G3 hr1 rfl .nil qA2 (qAd (pv 2) (qAd (qA0 G2 hr1 rfl .nil qA2 (pa1 (pv 2))) (pa1 (pv 3)))))))),?_⟩
 obtain⟨as,hp,pr⟩:=id nt;have la:as.length=net.length:=pr.length;refine⟨_,rfl,_,rfl,p,net,x,D,rfl,nt,l12,sk,ix,λn H' e=>q1 n H' e,λa ex am r H1 e1 r0 nr=>?_⟩;subst ex;obtain⟨t,tm,ta⟩:=hAe.mp am;obtain⟨a',one,other⟩:=t;cases ta;have hp1:=e1 _ _ hp;refine⟨_,rfl,p,rfl,⟨_,SqL.of hp1⟩,?_⟩;refine qV4 (xs:=as.map V.ref) (λi kvs σ H2=>H2=H1/\(∃x0 x1 x2:Option V,σ=[x0,x1,x2,some (.str a')])/\kvs=plD (plN (net.take i) a')) ⟨rfl,⟨none,none,none,rfl⟩,rfl⟩ (λi kvs σ H2 _ h=>by rw[h.1];exact SqL.of hp1) ?_ ?_
 ·rintro i y kvs σ H2 hy ⟨rfl,⟨x0,x1,x2,rfl⟩,rfl⟩;obtain⟨u,t,rfl,ht,hu⟩:=qDc pr hy;have hu1:=e1 _ _ hu;have hi:=(hAc.mp hy).1;refine⟨u,_,rfl,SqT.of hu1,rfl,_,_,rfl,_,_,rfl,_,_,rfl,rfl,_,rfl,_,rfl,rfl,_,rfl,?_⟩;refine qB1 (λc=>?_) (λc=>?_)
  ·have eq:t.1=a':=V.str.inj (hDs c);have none0:(net.take i).filter (λt=>decide (t.1=a'))=[]:=List.filter_eq_nil_iff.mpr λv hv e=>by
    have ev:v.1=a':=hDs e;obtain⟨j,hj,rfl⟩:=hDm hv;rw[hAn]at hj;rw[List.getElem_take]at ev;have hi':i<net.length:=by rw[hA1]at hi;omega
    have e1':(net.map (·.1))[j]?=(net.map (·.1))[i]?:=by
     rw[hAj,hAj,hA2 (by omega),ht];show some net[j].1=some t.1;rw[ev,eq]
    have:=(List.getElem?_inj (by rw[hA1];omega) nd).mp e1';omega
   refine⟨_,rfl,_,rfl,Sum.inr t.2.2,rfl,?_,nxg hi ⟨rfl,⟨_,_,_,rfl⟩,?_⟩⟩
   ·unfold plN plD;rw[none0];exact qAf (by decide)
   ·unfold plN plD;rw[qKg ht (hDp eq),none0];rfl
  ·have ne:¬t.1=a':=λz=>c (hDp (congrArg V.str z))
   refine nxg hi ⟨rfl,⟨_,_,_,rfl⟩,?_⟩;unfold plN;rw[qKh ht (hDr ne)]
 ·rintro kvs σ H2 ⟨rfl,_,rfl⟩ d hd;rw[hA1,la,hA9 (hA3 _)];have Z:=Ext.new hd (.dK (plD (plN net a')));have nr2:=nr.ext Z;have lo:(qE2 net a').length<=12:=hAx (qIw net a') l12;refine⟨_,rfl,_,rfl,r,qE2 net a',rfl,nr2,by omega,λtl H3 e3 tl0 htl=>?_⟩;refine⟨_,rfl,r,tl,d,qE2 net a',(qE2 net a').map (·.1),plN net a',rfl,nr2.ext e3,lo,htl,e3 _ _ upd_same,λr4 H4 e4 r40 n4=>?_⟩;have X4:=e1.trans (Z.trans e3);refine q2 a' one other rfl tm r4 H4 (X4.trans e4) (X4.none r40) ?_;have:plN net a'=[(other,one)]:=by unfold plN;rw[qEw nd tm];rfl
  rw[this,qYm]at n4;exact n4
end
def Due(net:List Tr)(ys:List V)(w:Str)(net':List Tr):Prop :=
 (∃x y z,ys=[.str "lay",x,y,z]/\(((¬∃t,qHf net x y z t)/\w = "NoTie"/\net'=net)\/∃t n2,qHf net x y z t/\qWk net n2 t/\((qN9 n2/\w = ""/\net'=n2)\/(¬qN9 n2/\w = "TooMany"/\net'=net)))) \/
 (∃x,ys=[.str "take",x]/\((¬zCw net x/\w = "NoTie"/\net'=net)\/∃a,x = .str a/\a∈net.map (·.1)/\w = ""/\net'=qE2 net a)) \/
 ∃x,ys=[.str "shrink",x]/\((¬zCw net x/\w = "NoTie"/\net'=net)\/∃a one other,x = .str a/\(a,one,other)∈net/\w = ""/\net'=qVi net a one other)
structure DeedAt(K:PySem.W.Frag)(H:Hp)(st:Addr)(ys:List V):Prop where
 at_:H st=some (.tup ys)
 it:∀y∈ys.tail,∃D,It3 K H y D
theorem DeedAt.ext{K:PySem.W.Frag}{H H':Hp}{st:Addr}{ys:List V}(h:DeedAt K H st ys)(e:Ext H H'):DeedAt K H' st ys:=⟨e _ _ h.at_,λy hy=>by obtain⟨D,i⟩:=h.it y hy;exact⟨D,i.ext e⟩⟩
def qVb(K:PySem.W.Frag)(CI CT:Addr):Sp:=λvs H Q E=>∃(p st:Addr) (net:List Tr) (ys:List V) (w:Str) (net':List Tr),vs=[.ref p,.ref st]/\DeedAt K H st ys/\qA5 H p net/\net.length<=12/\qD5 (net.map (·.1))/\SOk (net.map (·.1))/\Due net ys w net' /\
 (w = "NoTie"->∀H',Ext H H'->E (.ref CI) none H')/\(w = "TooMany"->∀H',Ext H H'->E (.ref CT) none H')/\(w = ""->∀r H',Ext H H'->H r=none->qA5 H' r net'->Q (.ref r) H')
section
variable{P:Program}{w:World}{K:PySem.W.Frag}{mg:Str->Option Value}{base:Heap}{f f1 f2 f3 CI CT:Addr}{fd fd1 fd2 fd3:FuncData}
abbrev bdN:List Str:=["net","deed","word","things","tie","point","other"]
theorem qE8:FnScope bdN ["net","deed"] (qAa qHs):=fsk
theorem qT7(F:Fun K "done" "done" qHs f fd)
  (G1:Cl P w K mg base (CXe P w) 7 f1 fd1 ["net","tie","point","other"] (qU0 K CI CT) "with_tie")
  (G2:Cl P w K mg base (CXe P w) 2 f2 fd2 ["net","name"] (qF4 K CI) "without_tie")
  (G3:Cl P w K mg base (CXe P w) 3 f3 fd3 ["net","name"] (qMv K CI) "with_tie_shrunk")
  (ml:mg "len"=none) (mi:mg "isinstance"=none) (mt:mg "tuple"=none):FnOk P w K mg base (CXe P w) 8 f fd ["net","deed"] (qVb K CI CT):=by
 refine F.okE qE8 (λvs H Q E h=>?_) (λcdv A outer s H vs Q E hr hh h=>?_)
 ·obtain⟨p,st,_,_,_,_,rfl,_⟩:=h;rfl
 obtain⟨p,st,net,ys,w',net',rfl,da,nt,l12,rs,sk,due,qI,qT,qN⟩:=h;have hr2:=hr.mono (j:=2) (by decide);have hr3:=hr.mono (j:=3) (by decide);refine⟨_,(qAb (qXh (qGl (qDy (PW.pt (qGk (qBr (qAg qBd rfl mi qAz (qAd (pv 1) (pa1 (qCl (v:=.ty "tuple") rfl mt qCb rfl))))) (qEd (qTp (pv 1) (by intro _;rfl))))) (pv 1) zA1)
    (qTs rfl (qAi (v4 2 qE8) (qTr (v4 3 qE8) qBj)))))
  (qAb (qBl (PW.pt (qGk (qAm qDb (pv 2) qA9 (qAu _)) (qEd (qAm qDb (qAg qAt rfl ml hB1 (pa1 (pv 3))) qAc (qAu _)))))
    (qAb (qGl (pv 3) (qXk rfl (qAi (v4 4 qE8) (qAi (v4 5 qE8) (qAi (v4 6 qE8) qBj)))))
     (qAe (qAo (qA0 G1 hr rfl .nil qRe (qAd (pv 0) (qAd (pv 4) (qAd (pv 5) (pa1 (pv 6))))))))) qAw)
  (qAb (qBl (PW.pt (qGk (qAm qDb (pv 2) qA9 (qAu _)) (qEd (qAm qDb (qAg qAt rfl ml hB1 (pa1 (pv 3))) qAc (qAu _)))))
    (qAe (qAo (qA0 G2 hr2 rfl .nil qRe (qAd (pv 0) (pa1 (qA6 qBz (pv 3) qAc (λ_ _=>rfl))))))) qAw)
  (qAb (qBl (PW.pt (qGk (qAm qDb (pv 2) qA9 (qAu _)) (qEd (qAm qDb (qAg qAt rfl ml hB1 (pa1 (pv 3))) qAc (qAu _)))))
    (qAe (qAo (qA0 G3 hr3 rfl .nil qRe (qAd (pv 0) (pa1 (qA6 qBz (pv 3) qAc (λ_ _=>rfl))))))) qAw)
  qQ7)))),?_⟩
 obtain⟨w0,r,rfl⟩:∃(w0:Str) (r:List V),ys = .str w0 :: r:=by
  rcases due with ⟨x,y,z,rfl,_⟩|⟨x,rfl,_⟩|⟨x,rfl,_⟩ <;> exact⟨_,_,rfl⟩
 have hst:=da.at_;refine⟨λσ' H'=>∃l:Addr,σ'=[some (.ref p),some (.ref st),some (.str w0),some (.ref l),none,none,none]/\Ext H H'/\H' l=some (.lst r),?_,?_⟩
 ·refine⟨_,rfl,_,_,_,true,rfl,.tup hst,qB7 _ _,true,rfl,iteT ?_⟩;refine⟨_,rfl,true,.inr (.inl ⟨_,SqT.of hst,rfl⟩),iteT ⟨_,rfl,st,.str w0,r,rfl,SqT.of hst,λl hl=>?_⟩⟩;exact⟨_,_,rfl,_,_,rfl,rfl,l,rfl,Ext.new hl (.lst r),upd_same⟩
 rintro σ' H1 ⟨l,rfl,e1,hl⟩;have nt1:=nt.ext e1;have da1:=da.ext e1;have no:∀ {a b:Str} {G:Prop},¬a=b->decide (V.str a=V.str b)=true->G:=λn c=>absurd (V.str.inj (hDs c)) n
 rcases due with ⟨x,y,z,ey,dl⟩|⟨x,ey,dl⟩|⟨x,ey,dl⟩
 ·cases ey;refine⟨_,rfl,rfl,_,rfl,qB1 (λ_=>?_) (λc=>absurd (hDp rfl) c)⟩;refine⟨_,rfl,l,_,rfl,.inl (SqL.of hl),rfl,_,rfl,qB1 (λ_=>?_) (λc=>absurd (hDp rfl) c)⟩;obtain⟨Dx,ix⟩:=da1.it x (by simp);obtain⟨Dy,iy⟩:=da1.it y (by simp);obtain⟨Dz,iz⟩:=da1.it z (by simp);refine⟨_,rfl,l,_,rfl,SqL.of hl,rfl,_,_,rfl,_,_,rfl,_,_,rfl,rfl,?_⟩;refine⟨_,rfl,_,rfl,_,rfl,_,rfl,p,net,x,y,z,Dx,Dy,Dz,rfl,nt1,l12,rs,ix,iy,iz,λn H' e=>?_,λt n2 lo it nb H' e=>?_,λt n2 lo it nb r' H' e r0 n'=>?_⟩
  ·rcases dl with ⟨_,ew,_⟩|⟨t,_,lo,_⟩
   ·exact qI ew _ (e1.trans e)
   ·exact absurd ⟨t,lo⟩ n
  ·rcases dl with ⟨n,_⟩|⟨t',n2',lo',it',d3⟩
   ·exact absurd ⟨t,lo⟩ n
   ·cases lo.uniq lo';cases it.uniq it';rcases d3 with ⟨nb',_⟩|⟨_,ew,_⟩
    ·exact absurd nb' nb
    ·exact qT ew _ (e1.trans e)
  ·rcases dl with ⟨n,_⟩|⟨t',n2',lo',it',d3⟩
   ·exact absurd ⟨t,lo⟩ n
   ·cases lo.uniq lo';cases it.uniq it';rcases d3 with ⟨_,ew,en⟩|⟨nb',_⟩
    ·cases en;exact qN ew r' _ (e1.trans e) (e1.none r0) n'
    ·exact absurd nb nb'
 ·cases ey;refine⟨_,rfl,rfl,_,rfl,qB1 (λc=>no (by decide +kernel) c) (λ_=>?_)⟩;refine⟨_,rfl,rfl,_,rfl,qB1 (λ_=>?_) (λc=>absurd (hDp rfl) c)⟩;refine⟨_,rfl,l,_,rfl,.inl (SqL.of hl),rfl,_,rfl,qB1 (λ_=>?_) (λc=>absurd (hDp rfl) c)⟩;obtain⟨Dx,ix⟩:=da1.it x (by simp);refine⟨_,rfl,_,rfl,l,_,_,x,rfl,rfl,SqL.of hl,(by exact qAv (j:=0) rfl),p,net,x,Dx,rfl,nt1,l12,sk,ix,λn H' e=>?_,λa ex am r' H' e r0 n'=>?_⟩
  ·rcases dl with ⟨_,ew,_⟩|⟨a,ex,am,_⟩
   ·exact qI ew _ (e1.trans e)
   ·exact absurd ⟨a,ex,am⟩ n
  ·rcases dl with ⟨n,_⟩|⟨a',ex',am',ew,en⟩
   ·exact absurd ⟨a,ex,am⟩ n
   ·rw[ex]at ex';cases ex';cases en;exact qN ew r' _ (e1.trans e) (e1.none r0) n'
 ·cases ey;refine⟨_,rfl,rfl,_,rfl,qB1 (λc=>no (by decide +kernel) c) (λ_=>?_)⟩;refine⟨_,rfl,rfl,_,rfl,qB1 (λc=>no (by decide +kernel) c) (λ_=>?_)⟩;refine⟨_,rfl,rfl,_,rfl,qB1 (λ_=>?_) (λc=>absurd (hDp rfl) c)⟩;refine⟨_,rfl,l,_,rfl,.inl (SqL.of hl),rfl,_,rfl,qB1 (λ_=>?_) (λc=>absurd (hDp rfl) c)⟩;obtain⟨Dx,ix⟩:=da1.it x (by simp);have nd:=qDw rs;refine⟨_,rfl,_,rfl,l,_,_,x,rfl,rfl,SqL.of hl,(by exact qAv (j:=0) rfl),p,net,x,Dx,rfl,nt1,l12,sk,nd,ix,λn H' e=>?_,λa one other ex tm r' H' e r0 n'=>?_⟩
  ·rcases dl with ⟨_,ew,_⟩|⟨a,one,other,ex,tm,_⟩
   ·exact qI ew _ (e1.trans e)
   ·exact absurd ⟨a,ex,hAe.mpr ⟨_,tm,rfl⟩⟩ n
  ·rcases dl with ⟨n,_⟩|⟨a',one',other',ex',tm',ew,en⟩
   ·exact absurd ⟨a,ex,hAe.mpr ⟨_,tm,rfl⟩⟩ n
   ·rw[ex]at ex';cases ex';have h1:=qEw nd tm;rw[qEw nd tm']at h1;cases h1;cases en;exact qN ew r' _ (e1.trans e) (e1.none r0) n'
end
abbrev bF(l:Addr):List (Str×V):=qIp "kept" (.ref l) []
theorem qMj(l:Addr):(bF l).lookup ("kept" : Str)=some (.ref l):=by
 unfold bF;rw[qDd,hDu rfl]
theorem qZb(l:Addr){m:Str}(h:¬m = "kept"):(bF l).lookup m=none:=by
 unfold bF;rw[qDd,hDt h];rfl
structure BCls(K:PySem.W.Frag)(C:Addr):Prop where
 cl:Cls K C
 nk:qHe K C "kept"
def qQd(C CN CT:Addr):Sp:=λvs H Q E=>∃(p dx:Addr) (v:V) (d:Nd),vs=[.ref p,v]/\H p=some (.ins C dx [])/\Nt H v d /\
 (¬qPi d->∀H',Ext H H'->E (.ref CN) none H')/\(∀net,d=NdOf net->qPi d->¬qN9 net->∀H',Ext H H'->E (.ref CT) none H') /\
 ∀net,d=NdOf net->qPi d->qN9 net->∀l H',(∀b o,b≠p->H b=some o->H' b=some o)->H l=none->qA5 H' l net->H' p=some (.ins C dx (bF l))->Q .non H'
theorem zCe(l l':Addr):qIp "kept" (.ref l') (bF l)=bF l':=by
 unfold bF qIp;exact hDu rfl
def zD7(K:PySem.W.Frag)(C CI CT:Addr):Sp:=λvs H Q E=>∃(p dx l st:Addr) (net:List Tr) (ys:List V) (w:Str) (net':List Tr),vs=[.ref p,.ref st]/\H p=some (.ins C dx (bF l))/\DeedAt K H st ys/\qA5 H l net/\net.length<=12/\qD5 (net.map (·.1))/\SOk (net.map (·.1))/\Due net ys w net' /\
 (w = "NoTie"->∀H',Ext H H'->E (.ref CI) none H')/\(w = "TooMany"->∀H',Ext H H'->E (.ref CT) none H') /\
 (w = ""->∀l' H',(∀b o,b≠p->H b=some o->H' b=some o)->H l'=none->qA5 H' l' net'->H' p=some (.ins C dx (bF l'))->Q .non H')
def qVf(C:Addr):Sp:=λvs H Q _=>∃(p dx l:Addr) (xs:List V),vs=[.ref p]/\H p=some (.ins C dx (bF l))/\H l=some (.lst xs)/\∀r,H r=none->Q (.ref r) (upd H r (.lst xs))
def qVe(C:Addr):Sp:=λvs H Q _=>∃(p dx l:Addr) (net:List Tr),vs=[.ref p]/\H p=some (.ins C dx (bF l))/\qA5 H l net/\net.length<=12 /\
 ∀(T:Addr) (ps:List Str) (S M:List Nat) (H':Hp),Ext H H'->H T=none->qPm H H' T (net.map (·.1)) (M.map (rowM (net.map (·.1))))->qHd net ps->qD5 ps->S.Perm (red (ps.map λx=>maskF (net.map (·.1)) (metF net x)))->M.Perm (red (qEf S net.length))->M.Pairwise (λa b=>b<=a)->Q (.ref T) H'
section
variable{P:Program}{w:World}{K:PySem.W.Frag}{mg:Str->Option Value}{base:Heap}{f f1 f2 f3 C CN CT CI:Addr}{fd fd1 fd2 fd3:FuncData}{newId inN:String}{bmN:List Value}
theorem zAn:FnScope ["self","net"] ["self","net"] (qAa qOq):=fsk
theorem qX7(F:Fun K "__init__" "Bench.__init__" qOq f fd)(T:BCls K C)(Fn:ExcBaseFacts "ValueError" newId inN bmN)(FB:ExcBaseFacts "ValueError" "ValueError.__new__" "ValueError.__init__" vB)(ON:PyProof.Rows.OwnCls "NoNet" CN vB newId mg base)(OT:PyProof.Rows.OwnCls "TooMany" CT vB newId mg base)
  (G1:v8 3 f1 fd1 ["thing"] qU9 "has_net_form")
  (G2:v8 6 f2 fd2 ["net"] qWr "keeps_net_bounds") (mL:mg "list"=none):FnOk P w K mg base (CXe P w) 7 f fd ["self","net"] (qQd C CN CT):=by
 refine F.okE zAn (λvs H Q E h=>?_) (λcdv A outer s H vs Q E hr hh h=>?_)
 ·obtain⟨p,dx,v,d,rfl,_⟩:=h;rfl
 obtain⟨p,dx,v,d,rfl,hp,hN,q1,q2,q3⟩:=h;have hr3:=hr.mono (j:=3) (by decide);refine⟨_,qAb (qBl (qB0 (qBr (qA0 G1 hr3 rfl .nil qA2 (pa1 (pv 1))))) (qAe (qEl hh Fn (by decide) FB ON (pa1 qA9) rfl (by decide))) qAw)
  (qAb (qBl (qB0 (qBr (qA0 G2 hr rfl .nil qA2 (pa1 (pv 1))))) (qAe (qEl hh Fn (by decide) FB OT (pa1 qA9) rfl (by decide))) qAw)
  (qAe (qVr (pv 0) (qBf qCg rfl mL qBe (pa1 (pv 1))) rfl))),?_⟩
 refine⟨_,rfl,v,d,rfl,hN,λb H1 eb e1=>⟨b,rfl,?_⟩⟩;cases b with
 |false=>exact iteT ⟨(by show 1<=sizeLine;decide),q1 (λz=>by have:=eb.mpr z;cases this) _ e1⟩
 |true =>
  refine qGz ?_;have fm:=eb.mp rfl;obtain⟨net,rfl,tt,rp⟩:=id fm;rcases hN with ⟨z,_⟩|⟨a,xs,os,rfl,ha,e,pr,hl⟩
  ·cases z
  ·cases e;obtain⟨as,net',rfl,e',tt',pn⟩:=qIa pr λo ho=>by
    obtain⟨t,ht,rfl⟩:=hAe.mp ho;exact⟨t,rfl,tt t ht⟩
   have en:net=net':=NdOf.inj (congrArg some e');subst en;have ln:as.length=net.length:=pn.length;rw[hA1]at hl;refine⟨_,rfl,a,net,rfl,⟨as,e1 _ _ ha,Paired.mapP pn λa t z=>e1 _ _ z⟩,by omega,qM5 rp,λb2 H2 eb2 e2=>⟨b2,rfl,?_⟩⟩;cases b2 with
   |false=>exact iteT ⟨(by show 1<=sizeLine;decide),q2 net rfl fm (λz=>by have:=eb2.mpr z;cases this) _ (e1.trans e2)⟩
   |true =>
    refine qGz ?_;have e12:=e1.trans e2;refine⟨_,rfl,a,_,rfl,.inl (SqL.of (e12 _ _ ha)),λl hl=>?_⟩;have pl:p≠l:=qAq (e12 _ _ hp) hl;refine⟨_,rfl,p,C,dx,[],rfl,(by rw[qAj pl];exact e12 _ _ hp),T.cl,T.nk,(by show 0<1000;decide),?_⟩;have up:∀b o,b≠p->H b=some o->(upd (upd H2 l (.lst (as.map V.ref))) p (.ins C dx (bF l))) b=some o:=λb o hb e=>by
     rw[qAj hb,qAj (qAq (e12 _ _ e) hl)];exact e12 _ _ e
    refine q3 net rfl fm (eb2.mp rfl) l _ up ?_ ⟨as,by rw[qAj pl.symm,upd_same],Paired.mapP pn λa t z=>up _ _ (λy=>by rw[y,hp]at z;cases z) z⟩ upd_same;cases y:H l with
    |none=>rfl
    |some o=>rw[e12 _ _ y]at hl;cases hl
theorem zEs:FnScope ["self","deed"] ["self","deed"] (qAa sDo):=fsk
theorem zDn(F:Fun K "do" "Bench.do" sDo f fd)(T:BCls K C)(G1:Cl P w K mg base (CXe P w) 8 f1 fd1 ["net","deed"] (qVb K CI CT) "done") :
  FnOk P w K mg base (CXe P w) 9 f fd ["self","deed"] (zD7 K C CI CT):=by
 refine F.okE zEs (λvs H Q E h=>?_) (λcdv A outer s H vs Q E hr hh h=>?_)
 ·obtain⟨p,dx,l,st,_,_,_,_,rfl,_⟩:=h;rfl
 obtain⟨p,dx,l,st,net,ys,w',net',rfl,hp,da,nt,l12,rs,sk,due,qI,qT,qN⟩:=h;refine⟨_,qAe (qVr (pv 0) (qA0 G1 hr rfl .nil qRe (qAd (qRc (pv 0) rfl) (pa1 (pv 1)))) rfl),?_⟩;refine⟨_,rfl,p,C,dx,_,_,rfl,hp,T.cl,T.nk,qMj l,_,rfl,l,st,net,ys,w',net',rfl,da,nt,l12,rs,sk,due,qI,qT,λew r H' e r0 nr=>?_⟩;have hp':=e _ _ hp;refine⟨_,rfl,p,C,dx,bF l,rfl,hp',T.cl,T.nk,(by show 1<1000;decide),?_⟩;rw[zCe];have up:∀b o,b≠p->H' b=some o->(upd H' p (.ins C dx (bF r))) b=some o:=λb o hb z=>by rw[qAj hb];exact z
 obtain⟨as,h1,h2⟩:=nr;refine qN ew r _ (λb o hb z=>up b o hb (e _ _ z)) r0 ⟨as,up r _ (λy=>by rw[y,hp]at r0;cases r0) h1,Paired.mapP h2 λu t z=>up u _ (λy=>by rw[y,hp']at z;cases z) z⟩ upd_same
theorem zAr:FnScope ["self"] ["self"] (qAa qOu):=fsk
theorem qYe(F:Fun K "net" "Bench.net" qOu f fd)(T:BCls K C)(mL:mg "list"=none):v7 1 f fd ["self"] (qVf C):=by
 refine F.okA zAr λcdv A outer s H vs Q E hr h=>?_
 obtain⟨p,dx,l,xs,rfl,hp,hl,q⟩:=h;refine⟨_,qAe (qAo (qBf qCg rfl mL qBe (pa1 (qRc (pv 0) rfl)))),?_⟩;exact⟨_,rfl,p,C,dx,_,_,rfl,hp,T.cl,T.nk,qMj l,l,_,rfl,.inl (SqL.of hl),q⟩
theorem zAq:FnScope ["self"] ["self"] (qAa qOt):=fsk
theorem qYd(F:Fun K "table" "Bench.table" qOt f fd)(T:BCls K C)(G1:v8 5 f1 fd1 ["net"] qK9 "table_of"):v7 6 f fd ["self"] (qVe C):=by
 refine F.okA zAq λcdv A outer s H vs Q E hr h=>?_
 obtain⟨p,dx,l,net,rfl,hp,nt,l12,q⟩:=h;refine⟨_,qAe (qAo (qA0 G1 hr rfl .nil qA2 (pa1 (qRc (pv 0) rfl)))),?_⟩;exact⟨_,rfl,p,C,dx,_,_,rfl,hp,T.cl,T.nk,qMj l,l,net,rfl,nt,l12,q⟩
end
structure PSx(X:Cx)(st:Stmt)(t:TS):Prop where
 h:PS X st t
structure PSsx(X:Cx)(l:List Stmt)(t:TS):Prop where
 h:PSs X l t
theorem qLy{X:Cx}{st:Stmt}{t:TS}(h:PSx X st t):PSsx X [st] t:=⟨qAe h.h⟩
theorem qBv{X:Cx}{st:Stmt}{l:List Stmt}{t u:TS}(h:PSx X st t)(r:PSsx X l u):PSsx X (st :: l) (qK8 t u):=⟨qAb h.h r.h⟩
theorem qBy{X:Cx}{st:Stmt}{t t':TS}(h:PSx X st t)(i:∀D σ H,t' D σ H->t D σ H):PSx X st t':=⟨λaB s σ H D I hw=>h.h aB s σ H D I (i D σ H hw)⟩
theorem qXe{X:Cx}{e:Expr}{ta:TE}{q:Pos}(h:PEx X e ta):PSx X (.Return (some e) q) (zCm ta):=⟨qAo h.h⟩
def zAb(K:PySem.W.Frag):Sp:=λvs H Q _=>∃(p:Addr) (ss:List Str) (b:Int),vs=[.ref p,.int b]/\LsS H p ss/\(∀s∈ss,Sh s)/\SOk ss/\∀v D H',Ext H H'->It3 K H' v D->Q v H'
theorem qMe(ss:List Str):PyData.eqv (qFr ss) (.list [])=decide (ss=[]):=by
 cases ss with
 |nil=>rfl
 |cons _ _=>rfl
abbrev anN:List Str:=["_law_names_here","_law_big_here"]
theorem zDf:FnScope anN ["_law_names_here","_law_big_here"] (qAa qTe):=fsk
def aS(i:Nat):Stmt:=(qAk qTe).getD i (.Pass ⟨0,0,0,0⟩)
theorem hbA:qAk qTe=[aS 0,aS 1]:=rfl
abbrev AX(P:Program)(w:World)(K:PySem.W.Frag)(mg:Str->Option Value)(base:Heap)(f:Addr)(cdv:Value)(A:Around)(outer:List Env)(s:Shared)(H0:Hp)(E:XK):Cx:=(qSn CX0 P w K mg base anN "_law_any_name" (qAa qTe) f cdv A outer s H0 E).nox
def tA1(K:PySem.W.Frag):TS:=λD σ H=>∃(p:Addr) (b:Int),σ=[some (.ref p),some (.int b)]/\∀v Dv H',Ext H H'->It3 K H' v Dv->D.rt v H'
def tA0(K:PySem.W.Frag):TS:=λD σ H=>∃(p:Addr) (b:Int) (ss:List Str),σ=[some (.ref p),some (.int b)]/\LsS H p ss/\(∀s∈ss,Sh s)/\SOk ss/\(∀v Dv H',Ext H H'->It3 K H' v Dv->D.rt v H')/\∀H',Ext H H'->D.nx [some (.ref p),some (.int b)] H'
section
variable{P:Program}{w:World}{K:PySem.W.Frag}{mg:Str->Option Value}{base:Heap}{f f1:Addr}{fd fd1:FuncData}{cdv:Value}{A:Around}{outer:List Env}{s:Shared}{H0:Hp}{E:XK}
theorem zCg:∃c1 c2 c3 c4 c5 c6 c7 c8 c9 c10 c11 c12 i1 i2 i3 i4 i5 p p1 q k,aS 1 = .Return (some (.Subscript (.List [.Constant (.str "zz") 0 c1,.Constant (.str "q1") 0 c2,.Constant (.str "") 0 c3,.Constant (.str "A") 0 c4,.Constant (.str "a b") 0 c5,.Constant (.str "abcdefg") 0 c6,.Constant (.int 7) 0 c7,.Constant .none 0 c8,.List [.Constant (.str "a") 0 c10] c9,.Tuple [.Constant (.str "a") 0 c12] k c11] p1)
  (.BinOp (.BinOp (.Name "_law_big_here" i1) .FloorDiv (.Constant (.int 4) 0 i2) i3) .Mod (.Constant (.int 10) 0 i4) i5) p)) q:=⟨_,_,_,_,_,_,_,_,_,_,_,_,_,_,_,_,_,_,_,_,_,rfl⟩
theorem zFh{c1 c2 c3 c4 c5 c6 c7 c8 c9 c10 c11 c12 p1:Pos}{k:Nat}:PEx (AX P w K mg base f cdv A outer s H0 E) (.List [.Constant (.str "zz") 0 c1,.Constant (.str "q1") 0 c2,.Constant (.str "") 0 c3,.Constant (.str "A") 0 c4,.Constant (.str "a b") 0 c5,.Constant (.str "abcdefg") 0 c6,.Constant (.int 7) 0 c7,.Constant .none 0 c8,.List [.Constant (.str "a") 0 c10] c9,.Tuple [.Constant (.str "a") 0 c12] k c11] p1) (qZg (qBi (tC (.str "zz")) (qBi (tC (.str "q1")) (qBi (tC (.str "")) (qBi (tC (.str "A")) (qBi (tC (.str "a b")) (qBi (tC (.str "abcdefg")) (qBi (tC (.int 7)) (qBi (tC .non) (qBi (qZg (qBi (tC (.str "a")) qPk)) (qBi (qZx (qBi (tC (.str "a")) qPk)) qPk))))))))))):=(zDx (qVq (qVq (qVq (qVq (qVq (qVq (zE2 (zE0 (zE1 (zDx (qVq qNc)) (zEz (zFd (qVq qNc)) qNc)))))))))))
theorem zAf:∀x∈[("a" : Str)],Sh x:=λx hx=>by
 cases hAa.mp hx;exact shA
def tPl(n:Int):TE:=λσ H Q=>∃b:Int,σ[1]?=some (some (.int b))/\Q (.int (b / 4 % n)) H
theorem zFg{i1 i2 i3 i4 i5:Pos}:PEx (AX P w K mg base f cdv A outer s H0 E) (.BinOp (.BinOp (.Name "_law_big_here" i1) .FloorDiv (.Constant (.int 4) 0 i2) i3) .Mod (.Constant (.int 10) 0 i4) i5) (tPl 10):=by
 have h:=zDw (qAl qB4 (qAl qBs (pv 1) qAc) qAc:PE (AX P w K mg base f cdv A outer s H0 E) (.BinOp (.BinOp (.Name "_law_big_here" i1) .FloorDiv (.Constant (.int 4) 0 i2) i3) .Mod (.Constant (.int 10) 0 i4) i5) _);refine⟨λaB s σ H Q J hw=>h.h aB s σ H Q J ?_⟩;obtain⟨b,hb,q⟩:=hw;exact⟨_,hb,_,_,rfl,rfl,⟨by decide,by decide⟩,_,_,rfl,rfl,(by show(0:Int)<_;decide),q⟩
theorem zFf{i1 i2 i3 i4 i5:Pos}:qMn (.BinOp (.BinOp (.Name "_law_big_here" i1) .FloorDiv (.Constant (.int 4) 0 i2) i3) .Mod (.Constant (.int 10) 0 i4) i5):=λ_ _=>rfl
theorem zFe{c1 c2 c3 c4 c5 c6 c7 c8 c9 c10 c11 c12 i1 i2 i3 i4 i5 p p1 q:Pos}{k:Nat}:PSx (AX P w K mg base f cdv A outer s H0 E) (.Return (some (.Subscript (.List [.Constant (.str "zz") 0 c1,.Constant (.str "q1") 0 c2,.Constant (.str "") 0 c3,.Constant (.str "A") 0 c4,.Constant (.str "a b") 0 c5,.Constant (.str "abcdefg") 0 c6,.Constant (.int 7) 0 c7,.Constant .none 0 c8,.List [.Constant (.str "a") 0 c10] c9,.Tuple [.Constant (.str "a") 0 c12] k c11] p1) (.BinOp (.BinOp (.Name "_law_big_here" i1) .FloorDiv (.Constant (.int 4) 0 i2) i3) .Mod (.Constant (.int 10) 0 i4) i5) p)) q) (zCm (tOp (zCn K) (qZg (qBi (tC (.str "zz")) (qBi (tC (.str "q1")) (qBi (tC (.str "")) (qBi (tC (.str "A")) (qBi (tC (.str "a b")) (qBi (tC (.str "abcdefg")) (qBi (tC (.int 7)) (qBi (tC .non) (qBi (qZg (qBi (tC (.str "a")) qPk)) (qBi (qZx (qBi (tC (.str "a")) qPk)) qPk))))))))))) (tPl 10))):=qXe (zDy zFh zFg zFf)
theorem an1:PSx (AX P w K mg base f cdv A outer s H0 E) (aS 1) (tA1 K):=by
 obtain⟨c1,c2,c3,c4,c5,c6,c7,c8,c9,c10,c11,c12,i1,i2,i3,i4,i5,p,p1,q,k,e⟩:=zCg;rw[e];clear e;refine qBy zFe ?_;rintro D σ H ⟨p,b,rfl,q⟩;obtain⟨d1,d2⟩:=qMf (b / 4) (show(0:Int)<10 by decide);refine⟨(by show 1<=sizeLine;decide),λL1 h1=>⟨(by show 1<=sizeLine;decide),λT2 h2=>⟨(by show 10<=sizeLine;decide),λL hL=>?_⟩⟩⟩;have Z1:=Ext.new h1 (.lst [V.str "a"]);have Z2:=Ext.new h2 (.tup [V.str "a"]);have Z3:=Ext.new hL (.lst [V.str "zz",.str "q1",.str "",.str "A",.str "a b",.str "abcdefg",.int 7,.non,.ref L1,.ref T2]);have e1:=(Z2.trans Z3) _ _ upd_same;have e2:=Z3 _ _ upd_same;have X3:=Z1.trans (Z2.trans Z3);obtain⟨v,vm,va⟩:=qMk (xs:=[V.str "zz",.str "q1",.str "",.str "A",.str "a b",.str "abcdefg",.int 7,.non,.ref L1,.ref T2]) d1 d2;refine⟨b,rfl,L,_,_,_,rfl,rfl,SqL.of upd_same,va,?_⟩;clear va Z1 Z2 Z3;generalize upd _ L _=HH at *;simp only[hA8,hAo,hE0]at vm;have q':∀v Dv,It3 K HH v Dv->D.rt v HH:=λv Dv i=>q v Dv HH X3 i
 clear q X3;rcases vm with rfl|rfl|rfl|rfl|rfl|rfl|rfl|rfl|rfl|rfl
 ·exact q' _ _ (qDq (s:="zz") (qJq (by decide +kernel)))
 ·exact q' _ _ (qDq (s:="q1") (qJq (by decide +kernel)))
 ·exact q' _ _ (qDq (s:="") (qJq (by decide +kernel)))
 ·exact q' _ _ (qDq (s:="A") (qJq (by decide +kernel)))
 ·exact q' _ _ (qDq (s:="a b") (qJq (by decide +kernel)))
 ·exact q' _ _ (qDq (s:="abcdefg") (qJq (by decide +kernel)))
 ·exact q' _ _ qUg
 ·exact q' _ _ zBt
 ·exact q' _ _ (zBu (ss:=[("a" : Str)]) e1 zAf (by show 1<=2;decide))
 ·exact q' _ _ (zBs (ss:=[("a" : Str)]) e2 zAf (by show 1<=2;decide))
theorem an0(hr:Room 0 (AX P w K mg base f cdv A outer s H0 E).A)(ml:mg "len"=none):PSx (AX P w K mg base f cdv A outer s H0 E) (aS 0) (tA0 K):=by
 refine qBy ⟨qBl (PW.pt (qGk (qAm (qV0 (qQ0 hr)) (pv 0) (zDx qNc).h (qAu _)) (qEd (qAm qJ4 (qAl qB4 (pv 1) qAc) qAc (qAu _)))))
   (qAe (qAo (qA6 qBz (pv 0) (qAl qB4 (qAl qBs (pv 1) qAc) (qAg qAt rfl ml hB1 (pa1 (pv 0)))) (λ_ _=>rfl)))) qAw⟩ ?_
 rintro D σ H ⟨p,b,ss,rfl,hp,hs,sk,q,qn⟩;refine⟨_,rfl,hAq _,λl0 hl0=>?_⟩;have Z:=Ext.new hl0 (.lst []);refine⟨qFr ss,.list [],qH0 (Z _ _ hp),zB7 upd_same,qOi sk,qOj,_,rfl,?_⟩;rw[show(if true=true then !PyData.eqv (qFr ss) (.list []) else PyData.eqv (qFr ss) (.list []))=!decide (ss=[]) by rw[hDu rfl,qMe]];refine qB1 (λc=>?_) (λ_=>qn _ Z);have ne:ss≠[]:=λz=>by rw[hDp z]at c;cases c
 have hl:(0:Int)<((ss.map V.str).length:Nat):=by
  rw[hA1];have:=List.length_pos_iff.mpr ne;omega
 refine⟨_,rfl,_,_,rfl,rfl,(by show(0:Int)<_;decide),_,_,rfl,rfl,_,rfl,qB1 (λ_=>?_) (λ_=>qn _ Z)⟩;obtain⟨d1,d2⟩:=qMf (b / 4) hl;obtain⟨y,ym,va⟩:=qMk (xs:=ss.map V.str) d1 d2;obtain⟨nm,nmm,rfl⟩:=hAe.mp ym;exact⟨_,rfl,_,rfl,_,_,rfl,rfl,⟨by decide,by decide⟩,_,rfl,p,_,rfl,.inl (SqL.of (Z _ _ hp)),_,_,rfl,rfl,hl,p,_,_,_,rfl,rfl,SqL.of (Z _ _ hp),va,q _ _ _ Z (qDq (hs nm nmm))⟩
theorem zBf(F:Fun K "_law_any_name" "_law_any_name" qTe f fd)(ml:mg "len"=none):v7 1 f fd ["_law_names_here","_law_big_here"] (zAb K):=by
 refine F.okA zDf λcdv A outer s H vs Q E hr h=>?_
 obtain⟨p,ss,b,rfl,hp,hs,sk,q⟩:=h;have r0:PSx (AX P w K mg base f cdv A outer s H E) (aS 0) (tA0 K):=an0 hr ml;have r1:PSx (AX P w K mg base f cdv A outer s H E) (aS 1) (tA1 K):=an1;have r2:PSsx (AX P w K mg base f cdv A outer s H E) [aS 0,aS 1] (qK8 (tA0 K) (tA1 K)):=qBv r0 (qLy r1);rw[hbA];refine⟨_,r2.h,?_⟩;exact⟨p,b,ss,rfl,hp,hs,sk,q,λH' e=>⟨p,b,rfl,λv D H2 e2 i=>q v D H2 (e.trans e2) i⟩⟩
end
def qQa(K:PySem.W.Frag):Sp:=λvs H Q _=>∃(x:V) (D:PyData),vs=[x]/\It3 K H x D/\∀H',Ext H H'->Q (.bl (nmV x)) H'
section
variable{P:Program}{w:World}{K:PySem.W.Frag}{mg:Str->Option Value}{base:Heap}{f f1:Addr}{fd fd1:FuncData}
abbrev liN:List Str:=["_law_word_here","_law_letters"]
theorem zAm:FnScope liN ["_law_word_here"] (qAa qW5):=fsk
theorem zA9(F:Fun K "_law_is_name" "_law_is_name" qW5 f fd)(ml:mg "len"=none)(mi:mg "isinstance"=none)(ms:mg "str"=none)(ma:mg "all"=none):v7 1 f fd ["_law_word_here"] (qQa K):=by
 refine F.okA zAm λcdv A outer s H vs Q E hr h=>?_
 obtain⟨x,D,rfl,ix,q⟩:=h;refine⟨_,qAb (qBl (qB0 (qBr (qAg qBd rfl mi qAz (qAd (pv 0) (pa1 (qCl (v:=.ty "str") rfl ms qG8 rfl)))))) (qAe (qAo qFs)) qAw)
  (qAb (v5 1 zAm qA9)
  (qAe (qAo (qJw (qTu qJ2 qJ2 qAc (qAg qCy rfl ml hB1 (pa1 (pv 0))) qAc)
   (qNe (qAg (qCh rfl) rfl ma qCi (qAd
    (qCr (N:=liN) (sc:=qAa qW5) (N':=["_law_sign","_law_letters"]) (sub:=[none,some 1]) (qVv (pv 0)) (λC s H fp=>⟨qA4,qCk qJ3 (pv 0) (pv 1) (by with_unfolding_all rfl)⟩)) qAs))))))),?_⟩
 rcases Item.ty (K:=K) ix.it with ⟨z,rfl,hz,sm⟩|⟨hn,t,ty,kt⟩
 ·have wl:z.length<=sizeLine:=hAz (qAf (by omega));have nf:∀b:Bool,qBg z=b->∀H',Ext H H'->Q (.bl b) H':=λb e H' he=>by subst e;exact q H' he
  refine⟨_,rfl,_,_,_,true,rfl,.str z,qB7 _ _,true,rfl,qGz ?_⟩;refine⟨_,rfl,z,rfl,wl,_,_,rfl,rfl,_,rfl,?_⟩;refine qB1 (λc=>?_) (λc=>?_)
  ·have c':(0:Int)<z.length:=hDs c;refine⟨_,_,rfl,rfl,_,rfl,?_⟩;refine qB1 (λd=>?_) (λd=>?_)
   ·have d':(z.length:Int)<7:=hDs d;refine⟨_,rfl,z,rfl,?_⟩;refine qJl (λi ys H'=>H'=H/\ys=(List.range i).map λi=>V.bl (inB (sgn z i))) ⟨rfl,rfl⟩ ?_ ?_
    ·rintro i ys H' hi ⟨rfl,rfl⟩;refine⟨sls,iteT (B:=False) ⟨_,rfl,_,rfl,_,_,rfl,rfl,?_,nxt hi ⟨rfl,?_⟩⟩⟩
     ·rw[hA1,hBi];exact qAf (by have:z.cps.size=z.length:=rfl;omega)
     ·rw[hCd,hA7];rfl
    ·rintro ys H' ⟨rfl,rfl⟩ r hr';refine⟨r,qZi z,rfl,?_,nf _ ?_ _ (Ext.new hr' _)⟩
     ·refine SqL.of ?_;rw[upd_same];unfold qZi;rw[hB3];rfl
     ·unfold qBg;rw[hDp (by omega),hDp (by omega)];rfl
   ·have d':¬(z.length:Int)<7:=λy=>by rw[hDp y]at d;exact absurd rfl d
    refine nf false ?_ H (Ext.refl _);unfold qBg;rw[hDp (by omega),hDr (by omega)];rfl
  ·have c':¬(0:Int)<z.length:=λy=>c (hDp y)
   refine⟨_,rfl,qGz (nf false ?_ H (Ext.refl _))⟩;unfold qBg;rw[hDr (by omega)];rfl
 ·refine⟨_,rfl,_,_,_,false,rfl,ty,kt,false,rfl,iteT ?_⟩;have:=q H (Ext.refl _);rw[hn]at this;exact this
end
def qKe(k:Nat):Str:="n"++Str.ofString (toString (0+(k:Int)))
theorem qUq:∀i<30,shB (qKe i)=true:=by decide +kernel
theorem qUr:∀i<30,∀j<30,i≠j->qKe i≠qKe j:=by decide +kernel
def qBo:List Str:=(List.range 30).map qKe
theorem qR8:qBo.Nodup:=by
 unfold qBo;refine hCa.mpr ?_;refine hCi (λ{a b} ha hb h=>qUr a (hB4.mp ha) b (hB4.mp hb) h) List.nodup_range
theorem qR6{ties:List Str}(h:ties.length<=12):9<=(qBo.filter λn=>!decide (n∈ties)).length:=by
 have h1:(qBo.filter λn=>decide (n∈ties)).length<=ties.length:=by
  have nd:(qBo.filter λn=>decide (n∈ties)).Nodup:=qR8.filter _;refine nd.length_le_of_subset ?_;intro x hx;exact hDs (hBb.mp hx).2
 have h2:=(List.filter_append_perm (λn=>decide (n∈ties)) qBo).length_eq;rw[hAd]at h2;have h3:qBo.length=30:=by unfold qBo;rw[hA1,hBi]
 omega
theorem qWt(i:Nat)(h:i<30):(0+(i:Int)).natAbs.log2<1920:=by
 have:∀i<30,(0+((i:Nat):Int)).natAbs.log2<1920:=by decide +kernel
 exact this i h
theorem zDq(i:Nat)(h:i<30):(Str.ofString "n").length+(Str.ofString (toString (0+(i:Int)))).length<=sizeLine:=by
 have:∀i<30,(Str.ofString "n").length+(Str.ofString (toString (0+((i:Nat):Int)))).length<=7:=by decide +kernel
 exact hAx (this i h) (by decide)
theorem qR7{s:Str}(h:s∈qBo):Sh s:=by
 obtain⟨i,hi,rfl⟩:=hAe.mp h;exact qJq (qUq i (hB4.mp hi))
def zCj(ys:List V):Prop:=(∃x y z,ys=[.str "lay",x,y,z])\/(∃x,ys=[.str "take",x])\/∃x,ys=[.str "shrink",x]
def qVc(K:PySem.W.Frag):Sp:=λvs H Q _=>∃(p:Addr) (net:List Tr) (b:Int),vs=[.ref p,.int b]/\qA5 H p net/\net.length<=12/\(∀t∈net,ShT t)/\∀st ys H',Ext H H'->H st=none->DeedAt K H' st ys->zCj ys->Q (.ref st) H'
theorem qQk{ss:List Str}(h:∀s∈ss,Sh s):SOk ss:=λx hx=>(h x hx).ok
section
variable{P:Program}{w:World}{K:PySem.W.Frag}{mg:Str->Option Value}{base:Heap}{f f1:Addr}{fd fd1:FuncData}
abbrev deN:List Str:=["_law_net_here","_law_big_here","_law_ties","_law_knots","_law_one","_law_other","_law_name","_law_fresh"]
theorem qFj:FnScope deN ["_law_net_here","_law_big_here"] (qAa qGf):=fsk
theorem qYb(F:Fun K "_law_deed" "_law_deed" qGf f fd)
  (G1:v8 1 f1 fd1 ["_law_names_here","_law_big_here"] (zAb K) "_law_any_name")
  (mso:mg "sorted"=none) (mst:mg "set"=none) (mr:mg "range"=none) (mstr:mg "str"=none):v7 2 f fd ["_law_net_here","_law_big_here"] (qVc K):=by
 refine F.okA qFj λcdv A outer s H vs Q E hr h=>?_
 obtain⟨p,net,b,rfl,nt,hl,sh,q⟩:=h;refine⟨_,qAb (v5 2 qFj (qCr (N:=deN) (sc:=qAa qGf) (N':=["_law_tie"]) (sub:=[none]) (qAx (pv 0)) (λC s H fp=>⟨qA4,qA6 (show IxR _ (qLx K) from qA7) (pv 0) qAc (λ_ _=>rfl)⟩)))
  (qAb (qVs (λσ H1=>∃(tl kn:Addr) (ps:List Str),σ=[some (.ref p),some (.int b),some (.ref tl),some (.ref kn),none,none,none,none]/\Ext H H1/\LsS H1 tl (net.map (·.1))/\LsS H1 kn ps/\∀x∈ps,Sh x) (v0 3 qFj (qAg (qC3 rfl) rfl mso qBa (pa1 (qBf (qKq rfl) rfl mst qKu (pa1 (qAl qHu
  (qCr (N:=deN) (sc:=qAa qGf) (N':=["_law_tie"]) (sub:=[none]) (qAx (pv 0)) (λC s H fp=>⟨qA4,qA6 (show IxR _ (qLx K) from qA7) (pv 0) qAc (λ_ _=>rfl)⟩))
  (qCr (N:=deN) (sc:=qAa qGf) (N':=["_law_tie"]) (sub:=[none]) (qAx (pv 0)) (λC s H fp=>⟨qA4,qA6 (show IxR _ (qLx K) from qA7) (pv 0) qAc (λ_ _=>rfl)⟩)))))))))
  (qAb (v0 4 qFj (qA0 G1 hr rfl .nil qA2 (qD4 (pv 3) (pa1 (qAl qBs (pv 1) qAc)))))
  (qAb (v0 5 qFj (qA0 G1 hr rfl .nil qA2 (qD4 (pv 3) (pa1 (qAl qBs (pv 1) qAc)))))
  (qAb (v0 6 qFj (qA0 G1 hr rfl .nil qA2 (qD4 (pv 2) (pa1 (qAl qBs (pv 1) qAc)))))
  (qAb (qBl (qAm qJ2 (qAl qB4 (pv 1) qAc) qAc (qAu _))
    (qAb (qQ8 (i:=7) (N:=deN) (sc:=qAa qGf) (N':=["_law_name","_law_ties"]) (sub:=[none,some 2]) (qAx (qCr (N:=deN) (sc:=qAa qGf) (N':=["_law_k"]) (sub:=[none]) (qCq rfl mr (qJy qAc qAs)) (λC s H fp=>⟨qA4,qAl qDz qA9 (qBf qKp rfl mstr qG8 (qD4 (pv 0) qAs))⟩))) (λC s H fp=>⟨qC2 (qAm (show OpR _ (compareOp .NotIn) (rIn K true) from qJ1) (pv 0) (pv 1) (by with_unfolding_all rfl)),pv 0⟩) qFj.nd rfl (Or.inl rfl))
    (qAb (qBl (qAm qJ4 (qAl qB4 (qAl qBs (pv 1) qAc) qAc) qAc (qAu _)) (qAe (v0 6 qFj (qA6 qBz (pv 7) (qAl qB4 (qAl qBs (pv 1) qAc) qAc) (λ_ _=>rfl)))) qAw)
    (qAe (qAo (qBk (qJy qA9 (qD4 (pv 6) (qD4 (pv 4) (qD4 (pv 5) qAs))))))))) qAw)
  (qAb (qBl (qAm qJ2 (qAl qB4 (pv 1) qAc) qAc (qAu _)) (qAe (qAo (qBk (qJy qA9 (qD4 (pv 6) qAs))))) qAw)
  (qAe (qAo (qBk (qJy qA9 (qD4 (pv 6) qAs))))))))))),?_⟩
 obtain⟨as,hp,pr⟩:=id nt;have la:as.length=net.length:=pr.length;refine⟨_,rfl,p,rfl,⟨_,SqL.of hp⟩,?_⟩;refine qCd (λt=>t.1) hp pr (by omega) (λa t ha C B c=>⟨sls,?_⟩) ?_
 ·exact iteT (B:=B H) ⟨_,rfl,a,_,_,_,rfl,rfl,SqT.of ha,(by exact qAv (j:=0) rfl),c⟩
 intro tl htl;have T1:=Ext.new htl (.lst ((net.map λt=>t.1).map V.str));have hp1:=T1 _ _ hp;have pr1:Paired (λa t=>(upd H tl (.lst ((net.map λt=>t.1).map V.str))) a=some (.tup (trV t))) as net:=Paired.mapP pr λa t z=>T1 _ _ z
 have htl1:LsS (upd H tl (.lst ((net.map λt=>t.1).map V.str))) tl (net.map (·.1)):=upd_same;have none1:∀ {b},(upd H tl (.lst ((net.map λt=>t.1).map V.str))) b=none->H b=none:=λh=>T1.none h
 revert hp1 pr1 htl1 T1 none1;generalize upd H tl (.lst ((net.map λt=>t.1).map V.str))=H1;intro T1 hp1 pr1 htl1 none1;refine⟨?_,?_⟩
 ·refine⟨_,rfl,p,rfl,⟨_,SqL.of hp1⟩,?_⟩;refine qCd (λt=>t.2.1) hp1 pr1 (by omega) (λa t ha C B c=>⟨sls,?_⟩) ?_
  ·exact iteT (B:=B H1) ⟨_,rfl,a,_,_,_,rfl,rfl,SqT.of ha,(by exact qAv (j:=1) rfl),c⟩
  intro l1 hl1;have n1:=Ext.new hl1 (.lst ((net.map λt=>t.2.1).map V.str));refine⟨_,rfl,p,rfl,⟨_,SqL.of (n1 _ _ hp1)⟩,?_⟩;refine qCd (λt=>t.2.2) (n1 _ _ hp1) (Paired.mapP pr1 λa t z=>n1 _ _ z) (by omega) (λa t ha C B c=>⟨sls,?_⟩) ?_
  ·exact iteT (B:=B (upd H1 l1 (.lst ((net.map λt=>t.2.1).map V.str)))) ⟨_,rfl,a,_,_,_,rfl,rfl,SqT.of ha,(by exact qAv (j:=2) rfl),c⟩
  intro l2 hl2;have n2:=n1.trans (Ext.new hl2 (.lst ((net.map λt=>t.2.2).map V.str)));refine⟨l1,l2,_,_,rfl,rfl,(Ext.new hl2 _) _ _ upd_same,upd_same,?_,λl3 hl3=>?_⟩
  ·simp only[hA1];exact hAz (qAf (by omega))
  have n3:=n2.trans (Ext.new hl3 (.lst ((net.map λt=>t.2.1).map V.str++(net.map λt=>t.2.2).map V.str)));refine⟨l3,(net.map λt=>t.2.1)++(net.map λt=>t.2.2),rfl,SqL.of (by rw[upd_same,hA7]),?_,λr1 ss hr1 nd ln mem=>?_⟩
  ·simp only[hAd,hA1];omega
  simp only[hAd,hA1]at ln;refine⟨r1,ss,rfl,upd_same,by omega,λkn ps hkn pm srt=>?_⟩;have E1:=(n3.trans (Ext.new hr1 _)).trans (Ext.new hkn (.lst (ps.map V.str)));refine⟨tl,kn,ps,rfl,T1.trans E1,E1 _ _ htl1,upd_same,λx hx=>?_⟩;have hx':=(mem x).mp (pm.mem_iff.mp hx);rcases hAh.mp hx' with z|z
  ·obtain⟨t,ht,rfl⟩:=hAe.mp z;exact(sh t ht).2.1
  ·obtain⟨t,ht,rfl⟩:=hAe.mp z;exact(sh t ht).2.2
 rintro σ H2 ⟨tl,kn,ps,rfl,X2,ht2,hk2,sp⟩;have st:∀s∈net.map (·.1),Sh s:=λs hs=>by
  obtain⟨t,ht,rfl⟩:=hAe.mp hs;exact(sh t ht).1
 refine⟨_,rfl,_,rfl,_,_,rfl,rfl,⟨by decide,by decide⟩,kn,ps,_,rfl,hk2,sp,qQk sp,λv1 D1 H3 e3 i1=>?_⟩;refine⟨_,rfl,_,rfl,_,_,rfl,rfl,⟨by decide,by decide⟩,kn,ps,_,rfl,e3 _ _ hk2,sp,qQk sp,λv2 D2 H4 e4 i2=>?_⟩;refine⟨_,rfl,_,rfl,_,_,rfl,rfl,⟨by decide,by decide⟩,tl,_,_,rfl,e4 _ _ (e3 _ _ ht2),st,qQk st,λv3 D3 H5 e5 i3=>?_⟩;have X5:=X2.trans (e3.trans (e4.trans e5));have ht5:=e5 _ _ (e4 _ _ (e3 _ _ ht2));have i2':=i2.ext e5;have i1':=i1.ext (e4.trans e5);clear i1 i2 e3 e4 e5 sp hk2 ht2 X2;refine⟨_,rfl,_,_,rfl,rfl,(by show(0:Int)<_;decide),_,_,rfl,rfl,_,rfl,qB1 (λ_=>?_) (λ_=>?_)⟩
 ·-- a tie is laid
  refine⟨30,rfl,by decide,by decide,?_⟩;refine qF1 (lo:=0) (n:=30) (λi ys H6=>H6=H5/\ys=((List.range i).map qKe).map V.str) ⟨rfl,rfl⟩ ?_ ?_
  ·rintro i ys H6 hi ⟨rfl,rfl⟩;refine⟨sls,iteT (B:=False) ⟨_,rfl,_,rfl,qWt i hi,_,_,rfl,rfl,zDq i hi,?_,nxt hi ⟨rfl,?_⟩⟩⟩
   ·rw[hA1,hA1,hBi];exact qAf (by omega)
   ·rw[hCd,hA7,hA7];rfl
  rintro ys H6 ⟨rfl,rfl⟩ fl hfl;have Z1:=Ext.new hfl (.lst (qBo.map V.str));refine⟨fl,rfl,⟨_,SqL.of upd_same⟩,?_⟩;refine qA1 (xs:=qBo.map V.str) (λi ys H7=>H7=upd H6 fl (.lst (qBo.map V.str))/\ys=((qBo.take i).filter λn=>!decide (n∈net.map λt:Tr=>t.1)).map V.str) ⟨rfl,rfl⟩ (λi ys H7 _ h=>by rw[h.1];exact SqL.of upd_same) ?_ ?_
  ·rintro i y ys H7 hy ⟨rfl,rfl⟩;have hi:=(hAc.mp hy).1;rw[hAj]at hy;obtain⟨n,hn,rfl⟩:=Option.map_eq_some_iff.mp hy;have ll:(((qBo.take i).filter λn=>!decide (n∈net.map λt:Tr=>t.1)).map V.str).length<sizeLine:=by
    rw[hA1];have h1:=hC6 (λn=>!decide (n∈net.map λt:Tr=>t.1)) (qBo.take i);have h2:=List.length_take_le i qBo;rw[hA1]at hi;have h3:qBo.length=30:=by unfold qBo;rw[hA1,hBi]
    rw[hAn]at h1;exact qAf (by omega)
   refine⟨sls,_,rfl,_,rfl,tl,_,rfl,.inl (SqL.of (Z1 _ _ ht5)),rfl,qDs _,_,rfl,?_⟩;rw[show(if true=true then !inV (V.str n) ((net.map λt:Tr=>t.1).map V.str) else inV (V.str n) ((net.map λt:Tr=>t.1).map V.str))=!decide (n∈net.map λt:Tr=>t.1) by rw[hDu rfl,qFe]];refine qB1 (λc=>⟨_,rfl,ll,nxt hi ⟨rfl,?_⟩⟩) (λc=>nxt hi ⟨rfl,?_⟩)
   ·rw[qKg hn c,hA7];rfl
   ·have c':(!decide (n∈net.map λt:Tr=>t.1))=false:=by
     cases h3:(!decide (n∈net.map λt:Tr=>t.1)) with
     |true=>exact absurd h3 c
     |false=>rfl
    rw[qKh hn c']
  rintro ys H7 ⟨rfl,rfl⟩ gl hgl;rw[hA1,hA9 (hA3 _)];have Z2:=Ext.new hgl (.lst ((qBo.filter λn=>!decide (n∈net.map λt:Tr=>t.1)).map V.str));have l9:=qR6 (ties:=net.map λt:Tr=>t.1) (by rw[hA1];exact hl);have X7:=X5.trans (Z1.trans Z2);have j1:=i1'.ext (Z1.trans Z2);have j2:=i2'.ext (Z1.trans Z2);have j3:=i3.ext (Z1.trans Z2);have told:∀ {v D},It3 K _ v D->∀st,(upd (upd H6 fl (.lst (qBo.map V.str))) gl (.lst ((qBo.filter λn=>!decide (n∈net.map λt:Tr=>t.1)).map V.str))) st=none->Q (.ref st) (upd (upd (upd H6 fl (.lst (qBo.map V.str))) gl (.lst ((qBo.filter λn=>!decide (n∈net.map λt:Tr=>t.1)).map V.str))) st (.tup [.str "lay",v,v1,v2])):=λ{v D} iv st hst=>by
   have Z3:=Ext.new hst (.tup [.str "lay",v,v1,v2]);refine q st [.str "lay",v,v1,v2] _ (X7.trans Z3) (X7.none hst) ⟨upd_same,λy hy=>?_⟩ (.inl ⟨v,v1,v2,rfl⟩);simp only[List.tail_cons,hA8,hAo,hE0]at hy;rcases hy with rfl|rfl|rfl
   ·exact⟨_,iv.ext Z3⟩
   ·exact⟨_,j1.ext Z3⟩
   ·exact⟨_,j2.ext Z3⟩
  refine⟨_,rfl,_,_,rfl,rfl,⟨by decide,by decide⟩,_,_,rfl,rfl,(by show(0:Int)<_;decide),_,_,rfl,rfl,_,rfl,qB1 (λ_=>?_) (λ_=>?_)⟩
  ·obtain⟨d1,d2⟩:=qMf (b / 64) (show(0:Int)<9 by decide);obtain⟨y,ym,va⟩:=qMk (xs:=(qBo.filter λn=>!decide (n∈net.map λt:Tr=>t.1)).map V.str) d1 (by rw[hA1];omega);obtain⟨nm,nmm,rfl⟩:=hAe.mp ym;have sn:Sh nm:=qR7 (hBb.mp nmm).1;refine⟨_,rfl,_,rfl,_,_,rfl,rfl,⟨by decide,by decide⟩,_,_,rfl,rfl,(by show(0:Int)<_;decide),gl,_,_,_,rfl,rfl,SqL.of upd_same,va,?_⟩;exact⟨_,rfl,_,rfl,_,rfl,(by show 4<=sizeLine;decide),λst hst=>told (qDq sn) st hst⟩
  ·exact⟨_,rfl,_,rfl,_,rfl,(by show 4<=sizeLine;decide),λst hst=>told j3 st hst⟩
 refine⟨_,rfl,_,_,rfl,rfl,(by show(0:Int)<_;decide),_,_,rfl,rfl,_,rfl,qB1 (λ_=>?_) (λ_=>?_)⟩
 ·refine⟨_,rfl,(by show 2<=sizeLine;decide),λst hst=>?_⟩;have Z3:=Ext.new hst (.tup [.str "take",v3]);refine q st _ _ (X5.trans Z3) (X5.none hst) ⟨upd_same,λy hy=>?_⟩ (.inr (.inl ⟨v3,rfl⟩));rw[List.tail_cons,hAa]at hy;subst hy;exact⟨_,i3.ext Z3⟩
 ·refine⟨_,rfl,(by show 2<=sizeLine;decide),λst hst=>?_⟩;have Z3:=Ext.new hst (.tup [.str "shrink",v3]);refine q st _ _ (X5.trans Z3) (X5.none hst) ⟨upd_same,λy hy=>?_⟩ (.inr (.inr ⟨v3,rfl⟩));rw[List.tail_cons,hAa]at hy;subst hy;exact⟨_,i3.ext Z3⟩
end
end My
namespace L2
open PySem PySem.Spec PyProof.Rows
def qK1(A:Around)(h:Heap):Prop:=A.handled=none\/∃(x:Addr) (o:Obj) (vs:Array Value),A.handled=some (.ref x)/\h.get? x=some o/\o.data = .fields vs/\vs[2]?=some .none
theorem qK1.keeps{h h':Heap}(q:qK1 A h)(k:∀b o,h.get? b=some o->h'.get? b=some o):qK1 A h':=by
 rcases q with q|⟨x,o,vs,q1,q2,q3⟩
 ·exact .inl q
 ·exact .inr ⟨x,o,vs,q1,k _ _ q2,q3⟩
theorem qK1.but{h h':Heap}{it:Addr}(q:qK1 A h)(k:Heap.ExtBut it h h')(hi:A.handled≠some (.ref it)):qK1 A h':=by
 rcases q with q|⟨x,o,vs,q1,q2,q3⟩
 ·exact .inl q
 ·exact .inr ⟨x,o,vs,q1,k _ _ (λz=>hi (by rw[<-z];exact q1)) q2,q3⟩
theorem qK1.ne{h:Heap}{b:Addr}(q:qK1 A h)(hb:h.get? b=none):A.handled≠some (.ref b):=by
 intro z;rcases q with q|⟨x,o,vs,q1,q2,_⟩
 ·rw[z]at q;cases q
 ·rw[z]at q1;cases q1;rw[hb]at q2;cases q2
theorem qI6:entryFor table "proto.unchain"=some Builtin.«proto.unchain»:=entryFor_of_tree (by kernel_rfl)
theorem qIt:plainId "proto.unchain"=true:=by decide +kernel
section
variable{prog:Program}{w:World}{A:Around}{E:Value->Shared->Prop}{s:Shared}
theorem qOz{α:Type}{a:Addr}{o:Obj}{vs:Array Value}{Q:α->Shared->Prop}(q:qK1 A s.heap)(ho:s.heap.get? a=some o)(hd:o.data = .fields vs)(h2:2<vs.size)(na:A.handled≠some (.ref a))
  (hE:∀h',(∃o',h'.get? a=some o'/\o'.cls=o.cls)->Heap.SameBut a s.heap h'->E (.ref a) { s with heap:=h' }):wpAny (model prog w) A (raiseNew (.ref a):Sem α) Q E s:=by
 simp only[raiseNew];refine hDo (wpAny_handled ?_);rcases q with q|⟨x,ox,xs,q1,q2,q3,q4⟩
 ·rw[q];exact hDo (hDq (wpAny_throw (hE _ ⟨o,ho,rfl⟩ (Heap.SameBut.refl ..))))
 ·rw[q1];have ne:((Value.ref x != Value.ref a):Bool)=true:=by
   simp only[bne_iff_ne,ne_eq];intro z;exact na (by rw[q1,z])
  dsimp only;rw[hDu ne];refine hDo (hDv (hEz (hE1 qI6 ?_)));rw[Around.under_plainId qIt _];show wpAny _ _ (field (.ref x) 2 >>= _) _ _ s;refine hDo (hE2 q2 q3 q4 ?_);rw[hDu (show((Value.none == Value.none):Bool)=true from rfl)];refine hDq ?_;refine hDo (?_:wpAny _ _ (setField (.ref a) 2 (.ref x)) _ _ s);refine hEt ho hd h2 (wpAny_throw (hE _ ?_ (Heap.SameBut.update ..)));exact⟨_,Heap.get?_update_self _ ho (Obj.isFreed_of_fields (Obj.data_mapFields hd _)),Obj.cls_mapFields ..⟩
theorem qJo{α:Type}{it:Addr}{o:Obj}{vs:Array Value}{Q:α->Shared->Prop}(q:qK1 A s.heap)(ni:A.handled≠some (.ref it))(ho:s.heap.get? it=some o)(hd:o.data = .fields vs)(h0:0<vs.size)
  (hE:∀h' e,Heap.ExtBut it s.heap h'->(∃o',h'.get? e=some o'/\o'.cls = .type "StopIteration")->E (.ref e) { s with heap:=h' }) :
  wpAny (model prog w) A (do setField (.ref it) 0 .none;raiseNew (← newExc (.type "StopIteration") []):Sem α) Q E s:=by
 refine hDo (hEt ho hd h0 (hDo ?_));simp only[newExc,newTuple];refine hDo (hDw ?_ (by size_fits));refine hDo (m:=firstArgMember _ _) (wpAny_of_eq (a:=Value.none) (by first|rfl|(simp only[firstArgMember];rfl)) ?_);refine hDw ?_ (by size_fits);have xb:=(((Heap.SameBut.update (h:=s.heap) (a:=it) (f:=Obj.mapFields (·.setIfInBounds 0 Value.none))).extBut.push { cls:=.type "tuple",data:=.seq ([]:List Value).toArray }));generalize ((s.heap.update it (Obj.mapFields (·.setIfInBounds 0 Value.none))).push { cls:=.type "tuple",data:=.seq ([]:List Value).toArray })=g at *;have q2:=q.but xb ni;have hn:A.handled≠some (.ref g.objs.size):=q2.ne (by
  cases e:g.get? g.objs.size with
  |none=>rfl
  |some o=>exact absurd (Heap.lt_size e) (hBe _))
 exact qOz (q2.keeps λb o e=>Heap.get?_push_of_some _ e) (Heap.get?_push_size g rfl) rfl (by rw[Array.size_append];exact hAl (by decide:2<6) (hCl _ _)) hn λh' ho' sb=>hE h' _ (λb o' hb e=>by
  have e1:=xb b o' hb e;exact(sb.2 b (hAi (Heap.lt_size e1))).trans (Heap.get?_push_of_some _ e1)) ho'
theorem qL2{it l:Addr}{i:Nat}{items:Array Value}{Q:Value->Shared->Prop}(q:qK1 A s.heap)(hit:s.heap.IsListIter it l i)(hl:s.heap.IsList l items)(hx:items[i]?=none)(ni:A.handled≠some (.ref it))
  (hE:∀h' e,Heap.ExtBut it s.heap h'->(∃o,h'.get? e=some o/\o.cls = .type "StopIteration")->E (.ref e) { s with heap:=h' }):wpAny (model prog w) A (Builtin.SmallTypes.nextOf (.ref it)) Q E s:=by
 obtain⟨oi,g1,gc,g2⟩:=id hit;obtain⟨ol,g3,_,nl,g4⟩:=hl;unfold Builtin.SmallTypes.nextOf;refine hDo (wpAny_callSpecial?_slot (name:=Str.ofString "__next__") hit.typeIs slot_listiter_next (hDx slot_listiter_next hit.typeIs entry_listiter_next ?_ (args_listiter_next _)));refine hDo (m:=field (.ref it) 0) (hE2 g1 g2 (x:=.ref l) rfl ?_);refine(?_:wpAny _ _ (if (Value.ref l == Value.none)=true then _ else _) _ _ s);rw[hDt (show ¬((Value.ref l == Value.none)=true) from hAm)];refine hDo (m:=field (.ref it) 1) (hE2 g1 g2 (x:=.int i 0) rfl (hDo (m:=seqItems? (.ref l)) (hEs g3 g4 ?_)));simp only[hBr,hx];exact hDo (hEu (qJo (E:=E) q ni g1 g2 (by simp) hE))
theorem qGr{it t:Addr}{i:Nat}{items:Array Value}{Q:Option Value->Shared->Prop}(q:qK1 A s.heap)(hit:IsTupIter s.heap it t i)(ht:IsTup s.heap t items)(hx:items[i]?=none)(ni:A.handled≠some (.ref it))
  (hQ:∀h',Heap.ExtBut it s.heap h'->Q none { s with heap:=h' }):wpAny (model prog w) A (pyNext (.ref it)) Q E s:=by
 obtain⟨oi,g1,gc,g2⟩:=id hit;obtain⟨ol,g3,_,nl,g4⟩:=ht;unfold pyNext;refine hDo (hEd (wpAny_callSpecial?_slot (name:=Str.ofString "__next__") hit.typeIs slot_tupleiter_next (hDx slot_tupleiter_next hit.typeIs entry_tupleiter_next ?_ (args_tupleiter_next _))));refine hDo (m:=field (.ref it) 0) (hE2 g1 g2 (x:=.ref t) rfl ?_);refine(?_:wpAny _ _ (if (Value.ref t == Value.none)=true then _ else _) _ _ s);rw[hDt (show ¬((Value.ref t == Value.none)=true) from hAm)];refine hDo (m:=field (.ref it) 1) (hE2 g1 g2 (x:=.int i 0) rfl (hDo (m:=seqItems? (.ref t)) (hEs g3 g4 ?_)));simp only[hBr,hx];refine hDo (hEu (qJo q ni g1 g2 (by simp) λh' e xb he=>?_));exact hDo (hEj (T:="StopIteration") (b:=true) he hF1 (hDq (hQ _ xb)))
theorem qK7{t:Addr}{items:Array Value}{Q:List Value->Shared->Prop}(q:qK1 A s.heap)(ht:IsTup s.heap t items)
  (hQ:∀h',Heap.ExtBut s.heap.objs.size s.heap h'->Q items.toList { s with heap:=h' }):wpAny (model prog w) A (unpackItems (.ref t) items.size none) Q E s:=by
 have hlt:t≠s.heap.objs.size:=by obtain⟨o,ho,_⟩:=ht;exact hAi (Heap.lt_size ho)
 have ni:A.handled≠some (.ref s.heap.objs.size):=q.ne (by
  cases e:s.heap.get? s.heap.objs.size with
  |none=>rfl
  |some o=>exact absurd (Heap.lt_size e) (hBe _))
 unfold unpackItems;refine hDo ?_;unfold notIterableAtAll;refine hDo (hEy ht.typeIs slot_tuple_iter.lookup (hDq ?_));simp only[hCg,hEr];refine hDo (hDv (iter_tuple ht (hDo (hDv (draw_tuple hlt items.size 0 _ _ ⟨_,Heap.get?_push_size _ rfl,rfl,rfl⟩ (ht.push _) (by omega) λg1 it1 sb1=>?_)))));rw[show List.take items.size (List.drop 0 items.toList)=items.toList by rw[List.drop_zero];exact hA9 (by simp),hDt (by simp)];have q1:qK1 A g1:=(q.keeps λb o e=>Heap.get?_push_of_some _ e).but sb1.extBut ni;refine hDo (hDv (qGr q1 it1 ((ht.push _).extBut sb1.extBut hlt) (by simp) ni λg2 xb2=>?_));simp only[Option.isSome_none,hCg,hEr];exact hDq (hQ g2 λb o hb e=>xb2 b o hb (sb1.extBut b o hb (Heap.get?_push_of_some _ e)))
theorem qMm{env:Env}{elts:List Expr}{x1:Nat}{pos:Pos}{t:Addr}{items:Array Value}{Q:Unit->Shared->Prop}(q:qK1 A s.heap)(ht:IsTup s.heap t items)(hn:(assignEach elts env).length=items.size)(hstar:(assignEach elts env).findIdx? (·.1)=none)
  (h:∀h',Heap.ExtBut s.heap.objs.size s.heap h'->wpAny (model prog w) A (assignInOrder ((assignEach elts env).map (·.2)) items.toList) Q E { s with heap:=h' }):wpAny (model prog w) A (assign (.Tuple elts x1 pos) env (.ref t)) Q E s:=by
 rw[assign_Tuple];refine hDo (hE3 ?_);unfold unpack;rw[hn,hstar];exact hDo (hDv (qK7 q ht h))
theorem qS3{z TI TO i1 i2 l1 l2:Addr}{k:Nat}{xs ys:Array Value}{a b:Value}{Q:Option Value->Shared->Prop}(q:qK1 A s.heap)(nz:∀c∈[z,TO,i1,i2],A.handled≠some (.ref c))(D:ZipApart z TI TO i1 i2 l1 l2)
  (hz:IsZip s.heap z TI TO .none) (hTI:IsPair s.heap TI (.ref i1) (.ref i2)) (hTO:IsPair s.heap TO a b) (h1:s.heap.IsListIter i1 l1 k) (h2:s.heap.IsListIter i2 l2 k) (hl1:s.heap.IsList l1 xs) (hl2:s.heap.IsList l2 ys) (he1:xs[k]?=none)
  (hQ:∀h',(∀c o,c∉[z,TO,i1,i2]->s.heap.get? c=some o->h'.get? c=some o)->Q none { s with heap:=h' }):wpAny (model prog w) A (pyNext (.ref z)) Q E s:=by
 have hT:s.TypeIs (.ref z) "zip":=⟨_,hz,rfl⟩;unfold pyNext;refine hDo (hEd (wpAny_callSpecial?_slot (name:=Str.ofString "__next__") hT F.slot_zip_next (hDx F.slot_zip_next hT F.entry_zip_next ?_ (F.args_zip_next_1 _))));refine hDo (m:=field (.ref z) 2) (hE2 hz rfl (x:=.bool false) rfl ?_);refine hDo (m:=field (.ref z) 3) (hE2 hz rfl (x:=.ref TI) rfl (hDo (hEs hTI rfl ?_)));refine hDo (m:=Builtin.SmallTypes.ownedTupleIsFree (.ref z)) ?_;unfold Builtin.SmallTypes.ownedTupleIsFree;refine hDo (hE2 hz rfl (x:=.none) rfl (hDq ?_));simp only[if_true];refine hDo (hEu (hDo (hE2 hz rfl (x:=.ref TO) rfl (hDo (hE5 hz (by simp) λg1 z1 sb1=>hDo ?_)))))
 replace z1:IsZip g1 z TI TO .ellipsis:=z1
 simp only[List.zipIdx_cons,List.zipIdx_nil,List.forIn_cons,List.forIn_nil];refine hDo (hDo (wpAny_onRaise (hDo (m:=Builtin.SmallTypes.nextOf (.ref i1)) ?_)));refine qL2 (q.but sb1.extBut (nz z (by simp))) (h1.extBut sb1.extBut D.i1z) (hl1.extBut sb1.extBut D.l1z) he1 (nz i1 (by simp)) λg2 e xb2 he=>?_
 obtain⟨oe,hoe,hce⟩:=he;have z2:IsZip g2 z TI TO .ellipsis:=xb2 _ _ D.i1z.symm z1;have ez:e≠z:=λy=>by rw[y,z2]at hoe;cases hoe;simp at hce
 refine hE5 z2 (by simp) λg3 _ sb3=>?_
 refine hDo (hEj (T:="StopIteration") (b:=true) ⟨oe,sb3.extBut _ _ ez hoe,hce⟩ hF1 (hDq (hQ _ λc o hc x=>?_)));simp only[hA8,hAo,hE0,not_or]at hc;exact sb3.extBut _ _ hc.1 (xb2 _ _ hc.2.2.1 (sb1.extBut _ _ hc.1 x))
end
theorem qYx{X:Cx}{ea:Addr}{cls:Value}(I:Inv X aB σ H s)(hA:X.A.handled=some (.ref ea))(he:H ea=some (exO ea cls)):qK1 X.A s.heap:=by
 obtain⟨o,h1,_,vs,h2,h3⟩:=(I.hok ea _ he).1;exact .inr ⟨ea,o,vs,hA,h1,h2,h3⟩
theorem zEi{prog:Program}{w:World}{A:Around}{z TI TO i1 i2 l1 l2 x:Addr}(hA:A.handled=some (.ref x))(nx:x∉[z,TI,TO,i1,i2])(D:ZipApart z TI TO i1 i2 l1 l2)(xs ys:Array Value)(hl:xs.size=ys.size) :
  WalksT prog w A z [z,TI,TO,i1,i2,l1,l2,x] [z,TO,i1,i2] xs.size (λi vals=>∃u v,xs[i]?=some u/\ys[i]?=some v/\vals=#[u,v])
   (λi h=>IsZip h z TI TO .none/\IsPair h TI (.ref i1) (.ref i2)/\(∃a b,IsPair h TO a b)/\h.IsListIter i1 l1 i/\h.IsListIter i2 l2 i/\h.IsList l1 xs/\h.IsList l2 ys/\∃o vs,h.get? x=some o/\o.data = .fields vs/\vs[2]?=some .none)
   (λi T h=>IsZip h z TI TO (rawInt T)/\IsPair h TI (.ref i1) (.ref i2)/\(∃a b,IsPair h TO a b)/\h.IsListIter i1 l1 (i+1)/\h.IsListIter i2 l2 (i+1)/\h.IsList l1 xs/\h.IsList l2 ys/\(∃o vs,h.get? x=some o/\o.data = .fields vs/\vs[2]?=some .none)/\T∉[z,TO,i1,i2]) where
 sub:=λc hc=>by simp only[hA8,hAo,hE0]at hc ⊢;rcases hc with rfl|rfl|rfl|rfl <;> simp
 frame:=λi h h' ⟨a1,a2,⟨a,b,a3⟩,a4,a5,a6,a7,o,vs,a8,a9⟩ k=>⟨k z (by simp) _ a1,k TI (by simp) _ a2,⟨a,b,k TO (by simp) _ a3⟩,a4.at λo e=>k i1 (by simp) o e,a5.at λo e=>k i2 (by simp) o e,a6.at λo e=>k l1 (by simp) o e,a7.at λo e=>k l2 (by simp) o e,o,vs,k x (by simp) _ a8,a9⟩
 item:=λi s Q E hi ⟨a1,a2,⟨a,b,a3⟩,a4,a5,a6,a7,o,vs,a8,a9⟩ hQ=>by
  have hy:i<ys.size:=by omega
  refine wpAny_pyNext_zip_item D a1 a2 a3 a4 a5 a6 a7 (hBp hi) (hBp hy) λh' b1 b2 b3 b4 b5 b6 hk=>?_
  have lt:∀ {c o},s.heap.get? c=some o->s.heap.objs.size≠c:=λe=>hCw (Heap.lt_size e)
  simp only[hA8,hAo,hE0,not_or]at nx;refine hQ s.heap.objs.size #[xs[i],ys[i]] h' s.toks ⟨_,_,hBp hi,hBp hy,rfl⟩ (hA3 _) ⟨_,b5,rfl,_,rfl⟩
   ⟨b1,hk _ _ D.TIz D.TITO D.TIi1 D.TIi2 a2,⟨_,_,b2⟩,b3,b4,a6.at λo e=>hk _ o D.l1z D.l1TO D.l1i1 D.l1i2 e,a7.at λo e=>hk _ o D.l2z D.l2TO D.l2i1 D.l2i2 e,⟨o,vs,hk _ _ nx.1 nx.2.2.1 nx.2.2.2.1 nx.2.2.2.2 a8,a9⟩,?_⟩
   λc o hc e=>?_
  ·simp only[hA8,hAo,hE0,not_or];exact⟨lt a1,lt a3,(by obtain⟨_,e,_⟩:=a4;exact lt e),(by obtain⟨_,e,_⟩:=a5;exact lt e)⟩
  ·simp only[hA8,hAo,hE0,not_or]at hc;exact hk c o hc.1 hc.2.1 hc.2.2.1 hc.2.2.2 e
 go:=λelts k pos i T s Q E ⟨a1,a2,⟨a,b,a3⟩,a4,a5,a6,a7,⟨o,vs,a8,a9⟩,_⟩ hQ=>by
  simp only[hA8,hAo,hE0,not_or]at nx;refine wpAny_letOwnedTupleGo_zip a1 λh' hz' hs'=>hQ h' ⟨hz',hs'.extBut _ _ D.TIz a2,⟨a,b,hs'.extBut _ _ D.TOz a3⟩,a4.extBut hs'.extBut D.i1z,a5.extBut hs'.extBut D.i2z,a6.extBut hs'.extBut D.l1z,a7.extBut hs'.extBut D.l2z,o,vs,hs'.extBut _ _ nx.1 a8,a9⟩ λc o hc e=>hs'.extBut _ _ (λx=>hc (by simp[x])) e
 apart:=λi T h hm hT=>hm.2.2.2.2.2.2.2.2 hT
 done:=λs Q E ⟨a1,a2,⟨a,b,a3⟩,a4,a5,a6,a7,o,vs,a8,a9⟩ hQ=>by
  refine qS3 (.inr ⟨x,o,vs,hA,a8,a9⟩) (λc hc z=>?_) D a1 a2 a3 a4 a5 a6 a7 (Array.getElem?_eq_none (hA3 _)) λh' hk=>hQ h' s.toks λc o hc e=>hk c o hc e
  rw[hA]at z;cases z;simp only[hA8,hAo,hE0,not_or]at hc nx;rcases hc with h|h|h|h
  ·exact nx.1 h
  ·exact nx.2.2.1 h
  ·exact nx.2.2.2.1 h
  ·exact nx.2.2.2.2 h
 self:=λi s Q E hst hQ=>hEk hst.1 hQ
section
variable{X:Cx}{ea:Addr}
def qY3(ea:Addr)(K:PySem.W.Frag)(n:Nat)(t:TGs):TG:=λv σ H Q=>(∃cls,H ea=some (exO ea cls))/\qUp K n t v σ H Q
theorem qXl{es:List Expr}{k:Nat}{t:TGs}{n:Nat}{pos:Pos}(hA:X.A.handled=some (.ref ea))(h:PGs X es t)
  (hn:(assignEach es X.env).length=n:=by rfl) (hst:(assignEach es X.env).findIdx? (·.1)=none:=by rfl):PG X (.Tuple es k pos) (qY3 ea X.K n t):=by
 intro aB s σ H v u Q I r ⟨⟨cls,he⟩,a,xs,e1,hq,hl,hw⟩;subst e1;cases r;obtain⟨its,rv,ht,hz⟩:=I.tuple hq;refine qMm (qYx I hA he) ht (by simp[hn,<-hl,rv.length]) hst λh' hx=>?_
 have I1:Inv X aB σ H { s with heap:=h' }:=I.kept (t':=s.toks) λb o e=>hx b o (hAi (Heap.lt_size e)) e
 exact h aB _ σ H xs _ Q I1 (by simpa using rv) hw
def zBy(ea:Addr)(K:PySem.W.Frag)(ta:TA):TI:=λσ H R=>ta σ H λvs H1=>∃(a b:Addr) (xs ys:List V) (cls:Value),vs=[.ref a,.ref b]/\SqL K H1 a xs/\SqL K H1 b ys/\xs.length=ys.length/\H1 ea=some (exO ea cls) /\
 R (Itp xs.length (λH=>SqL K H a xs/\SqL K H b ys/\H ea=some (exO ea cls)) (λi=>[xs.getD i .non,ys.getD i .non])) H1
theorem qXm{a b elt:Expr}{ta:TA}{p pos tpos cpos:Pos}{elts ifs:List Expr}{ct:Nat}{scope:Scope}{N':List Str}{sub:List (Option Nat)}{g:TG}{tt:TT}{te:TE}(hA:X.A.handled=some (.ref ea))(O:CmpOk X.N X.env.scope N' scope sub)(hg:Gl X "zip")(hm:X.mg "zip"=none)(ha:PA X [a,b] ta)
  (B:∀C s H fp,PG (qBc X scope N' C s H fp) (.Tuple elts ct tpos) g/\PTs (qBc X scope N' C s H fp) ifs tt/\PE (qBc X scope N' C s H fp) elt te)
  (hs:starEach [a,b] X.env=[(false,eval a X.env),(false,eval b X.env)]:=by rfl) (hs2:starEach [b] X.env=[(false,eval b X.env)]:=by rfl)
  (hs3:∀x,foldedSetIterable (.Call (.Name "zip" p) [a,b] [] pos) X.env x=pure x:=by intro _;rfl) :
  PE X (.ListComp elt [⟨.Tuple elts ct tpos,.Call (.Name "zip" p) [a,b] [] pos,ifs,0⟩] scope cpos) (qJn sub (zBy ea X.K ta) g tt te):=by
 intro aB s σ H Q I h;rw[eval_ListComp];refine hE4 (use:=none) rfl hs3 (qG5 I O) O.kind (qEp O) ?_;refine Call_ (qFn I hg hm qN5 (hC7 (thn (ha pos aB s σ H _ I h) λus s1 ⟨vs,H1,I1,r1,q1⟩=>?_) (by rw[hs,hs2]) (by rw[hs2];rfl)));obtain⟨l1,l2,xs,ys,cls,e,hx,hy,hlen,he,rd⟩:=q1;subst e;obtain⟨u1,u2,rfl,r1,r2⟩:=qH6 r1;cases r1;cases r2;obtain⟨it1,rv1,pl1,hz1⟩:=I1.list hx;obtain⟨it2,rv2,pl2,hz2⟩:=I1.list hy;have n1:=rv1.length;have n2:=rv2.length;have b1:l1<s1.heap.objs.size:=by obtain⟨o,n,e,_⟩:=pl1;exact Heap.lt_size e
 have b2:l2<s1.heap.objs.size:=by obtain⟨o,n,e,_⟩:=pl2;exact Heap.lt_size e
 have b3:ea<s1.heap.objs.size:=by obtain⟨o,e,_⟩:=(I1.hok ea _ he).1;exact Heap.lt_size e
 refine call_zip_2 pl1.isList pl2.isList λh1 z1 z2 z3 z4 z5 z6 z7=>?_
 refine hEk z1 ?_;have D:=qJh s1.heap.objs.size l1 l2 b1 b2;have hfp:∀b∈[s1.heap.objs.size+4,s1.heap.objs.size+2,s1.heap.objs.size+3,s1.heap.objs.size,s1.heap.objs.size+1],s1.heap.objs.size<=b:=λb hb=>by
  simp only[hA8,hAo,hE0]at hb;rcases hb with rfl|rfl|rfl|rfl|rfl <;> first|exact hCl _ _|exact hA3 _
 refine qG4 (c:=λX'=>X'.A.handled=some (.ref ea)) (RR:=λacc C=>compPost (model X.prog X.w) X.A X.xe none (EP X aB σ Q) acc C) (λX' e _=>by rw[e];exact hA) (I1.kept (t':=s1.toks) z7) O (fp:=[s1.heap.objs.size+4,s1.heap.objs.size+2,s1.heap.objs.size+3,s1.heap.objs.size,s1.heap.objs.size+1])
  (tn:=λi h=>IsZip h (s1.heap.objs.size+4) (s1.heap.objs.size+2) (s1.heap.objs.size+3) .none/\IsPair h (s1.heap.objs.size+2) (.ref s1.heap.objs.size) (.ref (s1.heap.objs.size+1))/\(∃a b,IsPair h (s1.heap.objs.size+3) a b)/\h.IsListIter s1.heap.objs.size l1 i/\h.IsListIter (s1.heap.objs.size+1) l2 i)
  (qE4 (s1.heap.objs.size+4) _ [s1.heap.objs.size+4,s1.heap.objs.size+2,s1.heap.objs.size+3,s1.heap.objs.size,s1.heap.objs.size+1,l1,l2,ea] [s1.heap.objs.size+4,s1.heap.objs.size+3,s1.heap.objs.size,s1.heap.objs.size+1] _ _ _ _ (by simp) (λb hb=>?_) (λi h st b hb=>?_) (λi h h' st k=>?_) (λi=>by show 2<=sizeLine;decide) ?_ (λA i s' Q E st hQ=>hEk st.1 hQ))
  ⟨z1,z2,⟨_,_,z3⟩,z4,z5⟩ (λb hb=>I1.fpOk (hfp b hb) (I1.hok.fresh (hfp b hb))) B rd ?_
 ·simp only[hA8,hAo,hE0]at hb ⊢;rcases hb with h|h|h|h
  ·exact .inl h
  ·exact .inr (.inr (.inl h))
  ·exact .inr (.inr (.inr (.inl h)))
  ·exact .inr (.inr (.inr (.inr h)))
 ·obtain⟨a1,a2,⟨c,d,a3⟩,⟨o4,a4,c4,d4⟩,⟨o5,a5,c5,d5⟩⟩:=st;simp only[hA8,hAo,hE0]at hb;rcases hb with rfl|rfl|rfl|rfl|rfl
  ·exact⟨_,a1,λv z=>by cases z⟩
  ·exact⟨_,a2,λv z=>by cases z⟩
  ·exact⟨_,a3,λv z=>by cases z⟩
  ·exact⟨_,a4,λv z=>by rw[d4]at z;cases z⟩
  ·exact⟨_,a5,λv z=>by rw[d5]at z;cases z⟩
 ·obtain⟨a1,a2,⟨c,d,a3⟩,a4,a5⟩:=st;exact⟨k _ (by simp) _ a1,k _ (by simp) _ a2,⟨c,d,k _ (by simp) _ a3⟩,a4.at λo e=>k _ (by simp) o e,a5.at λo e=>k _ (by simp) o e⟩
 ·intro X' hP hw hK hc pins' s' σ' H' I' ⟨hx',hy',he'⟩;rw[<-hK]at hx' hy';obtain⟨jt1,sv1,ql1,_⟩:=I'.list hx';obtain⟨jt2,sv2,ql2,_⟩:=I'.list hy';have m1:=sv1.length;have m2:=sv2.length;have nx:ea∉[s1.heap.objs.size+4,s1.heap.objs.size+2,s1.heap.objs.size+3,s1.heap.objs.size,s1.heap.objs.size+1]:=λhb=>absurd b3 (Nat.not_lt.mpr (hfp _ hb))
  have Wz:=zEi (prog:=X.prog) (w:=X.w) hc nx D jt1.toArray jt2.toArray (by show jt1.length=jt2.length;omega);rw[show jt1.toArray.size=xs.length from m1.symm]at Wz;obtain⟨o,g1,_,vs,g2,g3⟩:=(I'.hok ea _ he').1;refine⟨_,_,_,Wz,λi st=>?_,λi h st=>?_,λi vals pv=>?_⟩
  ·obtain⟨a1,a2,a3,a4,a5⟩:=st;exact⟨a1,a2,a3,a4,a5,ql1.isList,ql2.isList,o,vs,g1,g2,g3⟩
  ·obtain⟨a1,a2,a3,a4,a5,_⟩:=st;exact⟨a1,a2,a3,a4,a5⟩
  ·obtain⟨x,y,e1,e2,rfl⟩:=pv;have e1:jt1[i]?=some x:=by simpa using e1
   have e2:jt2[i]?=some y:=by simpa using e2
   have c1:i<xs.length:=by rw[m1];exact(hAc.mp e1).1
   have c2:i<ys.length:=by rw[m2];exact(hAc.mp e2).1
   obtain⟨u,d1,d2⟩:=sv1.get (hA2 c1);obtain⟨v,f1,f2⟩:=sv2.get (hA2 c2);rw[e1]at d1;rw[e2]at f1;cases d1;cases f1;show qBh [xs.getD i .non,ys.getD i .non] [x,y];rw[hA5,hA2 c1,hA5,hA2 c2];exact .cons d2 (.cons f2 .nil)
 ·intro acc C ys' H' s' I' fC hn na q;obtain⟨m,hn⟩:=hn;obtain⟨f0,f1,f3,f4,f5,f6⟩:=fC;refine⟨m,hn,λh' sb=>?_⟩;exact⟨.ref acc,upd H' acc (.lst ys'),I'.turned (t':=s'.toks) (it:=C) (λb o hb e=>(sb.2 b hb).trans e) f0 f1 f4 f5 f6,rfl,q acc na⟩
end
theorem zDl{X:Cx}{ea:Addr}{a b elt:Expr}{ta:TA}{p pos tpos cpos:Pos}{elts ifs:List Expr}{ct:Nat}{scope sc:Scope}{N N':List Str}{sub:List (Option Nat)}{g:TG}{tt:TT}{te:TE}(hN:X.N=N)(hsc:X.env.scope=sc)(O:CmpOk N sc N' scope sub)(hA:X.A.handled=some (.ref ea))(hg:Gl X "zip")(hm:X.mg "zip"=none)(ha:PA X [a,b] ta)
  (B:∀C s H fp,PG (qBc X scope N' C s H fp) (.Tuple elts ct tpos) g/\PTs (qBc X scope N' C s H fp) ifs tt/\PE (qBc X scope N' C s H fp) elt te)
  (hs:starEach [a,b] X.env=[(false,eval a X.env),(false,eval b X.env)]:=by rfl) (hs2:starEach [b] X.env=[(false,eval b X.env)]:=by rfl)
  (hs3:∀x,foldedSetIterable (.Call (.Name "zip" p) [a,b] [] pos) X.env x=pure x:=by intro _;rfl) :
  PE X (.ListComp elt [⟨.Tuple elts ct tpos,.Call (.Name "zip" p) [a,b] [] pos,ifs,0⟩] scope cpos) (qJn sub (zBy ea X.K ta) g tt te):=qXm hA (by rw[hN,hsc];exact O) hg hm ha B hs hs2 hs3
end L2
namespace My
open PySem L2
def qPl(ws:List Str)(bs:List Bool):List Str:=((ws.zip bs).filter (·.2)).map (·.1)
theorem qTb{ws:List Str}{bs:List Bool}{i:Nat}{x:Str}{b:Bool}(h1:ws[i]?=some x)(h2:bs[i]?=some b):qPl (ws.take (i+1)) (bs.take (i+1))=qPl (ws.take i) (bs.take i)++(if b=true then [x] else []):=by
 have l1:(ws.take i).length=(bs.take i).length:=by
  rw[hAn,hAn,Nat.min_eq_left (hAz (hAc.mp h1).1),Nat.min_eq_left (hAz (hAc.mp h2).1)]
 unfold qPl;rw[hCv,hCv,h1,h2,Option.toList,Option.toList,List.zip_append l1,hCk,hA7];cases b <;> rfl
theorem qWz(ws:List Str)(bs:List Bool):(qPl ws bs).length<=ws.length:=by
 unfold qPl;rw[hA1];refine hAx (hC6 _ _) ?_;rw[List.length_zip];exact Nat.min_le_left _ _
theorem qQn{K:PySem.W.Frag}{H1:Hp}{ea a b:Addr}{cls:Value}{ws:List Str}{bs:List Bool}{Q:List V->Hp->Prop}(ha:H1 a=some (.lst (ws.map V.str)))(hb:H1 b=some (.lst (bs.map V.bl)))(he:H1 ea=some (exO ea cls))(hl:ws.length=bs.length)(h64:ws.length<=20)
  (q:∀H',Ext H1 H'->Q ((qPl ws bs).map V.str) H') :
  qDj (Itp (ws.map V.str).length (λH=>SqL K H a (ws.map V.str)/\SqL K H b (bs.map V.bl)/\H ea=some (exO ea cls)) (λi=>[(ws.map V.str).getD i .non,(bs.map V.bl).getD i .non])) [none,none] (qY3 ea K 2 (qPc (qFu 0) (qPc (qFu 1) zDv))) (tB (qZf 1)) (qZf 0) Q H1:=by
 refine qEi (λi ys H=>Ext H1 H/\ys=(qPl (ws.take i) (bs.take i)).map V.str) ⟨Ext.refl _,rfl⟩ (λi ys H _ h=>⟨SqL.of (h.1 _ _ ha),SqL.of (h.1 _ _ hb),h.1 _ _ he⟩) ?_ ?_
 ·rintro i ys H T hi ⟨e,rfl⟩ hT;rw[hA1]at hi ⊢;have g1:ws[i]?=some ws[i]:=hA2 hi;have hi2:i<bs.length:=by omega
  have g2:bs[i]?=some bs[i]:=hA2 hi2;have v1:(ws.map V.str).getD i .non = .str ws[i]:=by rw[hA5,hAj,g1];rfl
  have v2:(bs.map V.bl).getD i .non = .bl bs[i]:=by rw[hA5,hAj,g2];rfl
  have e1:=Ext.new hT (.tup [(ws.map V.str).getD i .non,(bs.map V.bl).getD i .non]);have sn:=qTb g1 g2;refine⟨⟨cls,e1 _ _ (e _ _ he)⟩,T,_,rfl,SqT.of upd_same,rfl,_,_,rfl,_,_,rfl,rfl,⟨rfl,λj v z=>?_⟩,_,rfl,bs[i],v2,?_⟩
  ·match j,z with
   |0,z=>cases z
   |1,z=>cases z
  ·refine qB1 (λc=>⟨_,rfl,?_,nxt (by rw[hA1];exact hi) ⟨e.trans e1,?_⟩⟩) (λc=>nxt (by rw[hA1];exact hi) ⟨e.trans e1,?_⟩)
   ·have:=qWz (ws.take i) (bs.take i);rw[hAn]at this;exact qAf (by omega)
   ·rw[sn,hDu c,hA7,v1];rfl
   ·rw[sn,hDt c,hCo]
 ·rintro ys H ⟨e,rfl⟩;rw[hA1,hA9 (hA3 _),hA9 (by omega)];exact q H e
theorem qY9:bootBuiltins "ValueError"=some (.type "ValueError"):=by decide +kernel
theorem Due.word{net net':List Tr}{ys:List V}{w:Str}(h:Due net ys w net'):w = ""\/(w = "NoTie"/\net'=net)\/(w = "TooMany"/\net'=net):=by
 rcases h with ⟨x,y,z,_,h⟩|⟨x,_,h⟩|⟨x,_,h⟩
 ·rcases h with ⟨_,rfl,rfl⟩|⟨t,n2,_,_,h⟩
  ·exact .inr (.inl ⟨rfl,rfl⟩)
  ·rcases h with ⟨_,rfl,_⟩|⟨_,rfl,rfl⟩
   ·exact .inl rfl
   ·exact .inr (.inr ⟨rfl,rfl⟩)
 ·rcases h with ⟨_,rfl,rfl⟩|⟨a,_,_,rfl,_⟩
  ·exact .inr (.inl ⟨rfl,rfl⟩)
  ·exact .inl rfl
 ·rcases h with ⟨_,rfl,rfl⟩|⟨a,b,c,_,_,rfl,_⟩
  ·exact .inr (.inl ⟨rfl,rfl⟩)
  ·exact .inl rfl
structure Refs(K:PySem.W.Frag)(mg:Str->Option Value)(CN CT CS CI R:Addr):Prop where
 zT:XCls K CT
 zI:XCls K CI
 re:mg "RoundError"=some (.ref R)
 mN:mg "NoNet"=some (.ref CN)
 mT:mg "TooMany"=some (.ref CT)
 mS:mg "NoStep"=some (.ref CS)
 mI:mg "NoTie"=some (.ref CI)
 ve:mg "ValueError"=none
 is:mg "isinstance"=none
 xT:PySem.W.exmOne K (.ref CT) (.ref R)=some true
 xI:PySem.W.exmOne K (.ref CI) (.ref R)=some true
 vT:PySem.W.kitOne K (.ref CT) (.type "ValueError")=some true
 vI:PySem.W.kitOne K (.ref CI) (.type "ValueError")=some true
 tn:PySem.W.kitOne K (.ref CT) (.ref CN)=some false
 tt:PySem.W.kitOne K (.ref CT) (.ref CT)=some true
 ts:PySem.W.kitOne K (.ref CT) (.ref CS)=some false
 ti:PySem.W.kitOne K (.ref CT) (.ref CI)=some false
 i_n:PySem.W.kitOne K (.ref CI) (.ref CN)=some false
 i_t:PySem.W.kitOne K (.ref CI) (.ref CT)=some false
 i_s:PySem.W.kitOne K (.ref CI) (.ref CS)=some false
 i_i:PySem.W.kitOne K (.ref CI) (.ref CI)=some true
theorem qUh{K:PySem.W.Frag}{C:Addr}{H:Hp}{ea c:Addr}{b:Bool}{Q:VK}(Z:XCls K C)(he:H ea=some (exO ea (.ref C)))(k:PySem.W.kitOne K (.ref C) (.ref c)=some b)(q:Q (.bl b) H):qVp K [.ref ea,.ref c] H Q :=
 ⟨ea,C,.ref c,.ref c,b,rfl,he,Z,λu r=>r,k,q⟩
theorem zDp{α:Type}{l:List α}(h:l.length=6):∃a b c d e f,l=[a,b,c,d,e,f]:=match l,h with | [a,b,c,d,e,f],_=>⟨a,b,c,d,e,f,rfl⟩
abbrev wdW:List Str:=["NoTie","TooMany","NoStep","NoNet"]
abbrev wdN:List Str:=["_law_bench","_law_deed_here","_law_told","e","_law_kinds","_law_words"]
def qUz(K:PySem.W.Frag)(C:Addr):Sp:=λvs H Q _=>∃(p dx l st:Addr) (net:List Tr) (ys:List V) (w:Str) (net':List Tr),vs=[.ref p,.ref st]/\H p=some (.ins C dx (bF l))/\DeedAt K H st ys/\qA5 H l net/\net.length<=12/\qD5 (net.map (·.1))/\SOk (net.map (·.1))/\Due net ys w net' /\
 ∀l' H',(∀b o,b≠p->H b=some o->H' b=some o)->qA5 H' l' net'->H' p=some (.ins C dx (bF l'))->Q (.str w) H'
section
variable{P:Program}{w:World}{K:PySem.W.Frag}{mg:Str->Option Value}{base:Heap}{f f1 C CN CT CS CI R:Addr}{fd fd1:FuncData}
theorem qJr:FnScope wdN ["_law_bench","_law_deed_here"] (qAa qLf):=fsk
theorem qXv(F:Fun K "_law_word" "_law_word" qLf f fd)(Z:Refs K mg CN CT CS CI R)(T:BCls K C)(hm:Meth K C "do" f1)(mz:mg "zip"=none)(mi:mg "int"=none)
  (G1:FnOk P w K mg base (CXe P w) 9 f1 fd1 ["self","deed"] (zD7 K C CI CT)) (bG1:qE1 K fd1 ["self","deed"] []) :
  v7 10 f fd ["_law_bench","_law_deed_here"] (qUz K C):=by
 refine F.okA qJr λcdv A outer s H vs Q E hr h=>?_
 obtain⟨p,dx,l,st,net,ys,wo,net',rfl,hp,da,nt,l12,rs,sk,due,q⟩:=h;refine⟨_,qAb (qXf (C:=R) (i:=3) (E:=λcls _ H'=>((cls = .ref CI/\wo = "NoTie")\/(cls = .ref CT/\wo = "TooMany"))/\Ext H H')
   (λxe pn hP=>qAe (v0 2 qJr (qXo (pv 0) T.cl hm G1 hr bG1 .nil hP (pa1 (pv 1)))))
   rfl Z.re
   (λev=>qAb (v0 4 qJr (qB9 (qAd (qAg (show qB2 _ _ (qVp K) from qEy) rfl Z.is qAz (qAd (pv 3) (pa1 (qCs (v:=.ref CI) rfl Z.mI rfl))))
     (qAd (qAg (show qB2 _ _ (qVp K) from qEy) rfl Z.is qAz (qAd (pv 3) (pa1 (qCs (v:=.ref CT) rfl Z.mT rfl))))
     (qAd (qAg (show qB2 _ _ (qVp K) from qEy) rfl Z.is qAz (qAd (pv 3) (pa1 (qCs (v:=.ref CS) rfl Z.mS rfl))))
     (pa1 (qAg (show qB2 _ _ (qVp K) from qEy) rfl Z.is qAz (qAd (pv 3) (pa1 (qCs (v:=.ref CN) rfl Z.mN rfl))))))))))
    (qAb (v0 5 qJr (qB9 (qJy qA9 (qJy qA9 (qJy qA9 (qJy qA9 qAs))))))
    (qAe (qAo (qAl qO2 (qEm PySem.F.plainAttrs_str PySem.F.slot_str_join PySem.F.type_str_join qYk qA9 (qAd
     (zDl (N:=wdN) (sc:=qAa qLf) (N':=["_law_word_here","_law_kind"]) (sub:=[none,none]) (ea:=ev) rfl rfl (CmpOk.of (by decide +kernel)) rfl rfl mz (qD4 (pv 5) (qD4 (pv 4) qAs))
      (λC s H fp=>⟨(show PG _ _ (qY3 ev K 2 (qPc (qFu 0) (qPc (qFu 1) zDv))) from qXl rfl (qAi (qAh (i:=0) (by show(["_law_word_here","_law_kind"]:List Str).Nodup;decide) rfl (Or.inl rfl)) (qAi (qAh (i:=1) (by show(["_law_word_here","_law_kind"]:List Str).Nodup;decide) rfl (Or.inl rfl)) qBj))),qC2 (qBr (pv 1)),pv 0⟩)) qAs))
     (qBf qSv rfl mi qSw (pa1 (qAg (show qB2 _ _ (qVp K) from qEy) rfl Z.is qAz (qAd (pv 3) (pa1 (qCl (v:=.ty "ValueError") rfl Z.ve qY9 rfl)))))))))))
   qJr.nd rfl rfl rfl rfl rfl)
  (qAb (qBl (qAm qXt (pv 2) qNf (qAu _)) (qAe (qAo qA9)) qAw) (qAe (qAo qA9))),?_⟩
 try dsimp only[Cx.wish,qSn]
 refine⟨?_,λcls H' ea σ' hE he hl=>?_⟩
 ·refine⟨_,rfl,p,dx,_,rfl,hp,qZb l (by decide +kernel),_,rfl,p,dx,l,st,net,ys,wo,net',rfl,hp,da,nt,l12,rs,sk,due,λew H' e=>⟨.inl ⟨rfl,ew⟩,e⟩,λew H' e=>⟨.inr ⟨rfl,ew⟩,e⟩,λew l' H' up l0 nr hp'=>?_⟩;subst ew;refine⟨_,rfl,rfl,_,rfl,qB1 (λc=>absurd c (by simp)) (λ_=>?_)⟩;exact q l' H' up nr hp'
 obtain⟨hE,e1⟩:=hE;obtain⟨s0,s1,s2,s3,s4,s5,rfl⟩:=zDp hl;have back:wo = "NoTie"\/wo = "TooMany"->net'=net:=λh=>by
  rcases due.word with rfl|⟨_,e⟩|⟨_,e⟩
  ·rcases h with h|h
   ·exact absurd h (by decide +kernel)
   ·exact absurd h (by decide +kernel)
  ·exact e
  ·exact e
 have en:net'=net:=back (by rcases hE with ⟨_,e⟩|⟨_,e⟩;exact .inl e;exact .inr e);subst en;obtain⟨CC,b1,b2,b3,b4,rfl,ZC,xr,k1,k2,k3,k4,kv,hs,hj,h100⟩:∃(CC:Addr) (b1 b2 b3 b4:Bool),cls = .ref CC/\XCls K CC/\PySem.W.exmOne K (.ref CC) (.ref R)=some true/\PySem.W.kitOne K (.ref CC) (.ref CI)=some b1/\PySem.W.kitOne K (.ref CC) (.ref CT)=some b2/\PySem.W.kitOne K (.ref CC) (.ref CS)=some b3/\PySem.W.kitOne K (.ref CC) (.ref CN)=some b4/\PySem.W.kitOne K (.ref CC) (.type "ValueError")=some true /\
   ((qPl wdW [b1,b2,b3,b4]).map (·.length)).sum+(qPl wdW [b1,b2,b3,b4]).length*Str.length ""<=16777216/\Txt.mul (Txt.join "" (qPl wdW [b1,b2,b3,b4])) (if true=true then 1 else 0)=wo/\(Txt.join "" (qPl wdW [b1,b2,b3,b4])).length<=100:=by
  rcases hE with ⟨rfl,rfl⟩|⟨rfl,rfl⟩
  ·exact⟨CI,true,false,false,false,rfl,Z.zI,Z.xI,Z.i_i,Z.i_t,Z.i_s,Z.i_n,Z.vI,(by decide +kernel),(by decide +kernel),(by decide +kernel)⟩
  ·exact⟨CT,false,true,false,false,rfl,Z.zT,Z.xT,Z.ti,Z.tt,Z.ts,Z.tn,Z.vT,(by decide +kernel),(by decide +kernel),(by decide +kernel)⟩
 refine⟨xr,?_⟩;have hx:upd H' ea (exO ea (.ref CC)) ea=some (exO ea (.ref CC)):=upd_same;have E1:Ext H (upd H' ea (exO ea (.ref CC))):=e1.trans (Ext.new he _);revert hx E1;generalize upd H' ea (exO ea (.ref CC))=H1;intro hx E1;have hd:∀ {c:Addr} {b:Bool} {Q:VK} {H:Hp} {σ:St} (he:H ea=some (exO ea (.ref CC))) (hσ:σ[3]?=some (some (.ref ea))) (k:PySem.W.kitOne K (.ref CC) (.ref c)=some b) (q:Q (.bl b) H),tCB (qVp K) (qBi (qZf 3) (qBi (tC (V.ref c)) qPk)) σ H Q:=λhe hσ k q=>⟨_,hσ,qUh ZC he k q⟩
 refine hd hx rfl k1 (hd hx rfl k2 (hd hx rfl k3 (hd hx rfl k4 ⟨(by show 4<=sizeLine;decide),λl1 hl1=>?_⟩)));have n1:=Ext.new hl1 (.lst [V.bl b1,V.bl b2,V.bl b3,V.bl b4]);refine⟨(by show 4<=sizeLine;decide),λl2 hl2=>?_⟩;have n2:=n1.trans (Ext.new hl2 (.lst (wdW.map V.str)));refine⟨rfl,_,rfl,_,rfl,l2,l1,wdW.map V.str,[b1,b2,b3,b4].map V.bl,.ref CC,rfl,SqL.of upd_same,SqL.of ((Ext.new hl2 _) _ _ upd_same),rfl,n2 _ _ hx,?_⟩;refine qQn (cls:=.ref CC) (ws:=wdW) (bs:=[b1,b2,b3,b4]) upd_same ((Ext.new hl2 _) _ _ upd_same) (n2 _ _ hx) rfl (by decide) λH5 e5 r5 hr5=>?_
 have e6:=n2.trans (e5.trans (Ext.new hr5 (.lst ((qPl wdW [b1,b2,b3,b4]).map V.str))));refine⟨r5,_,"",rfl,rfl,upd_same,hs,?_⟩;refine⟨_,rfl,⟨ea,CC,.ty "ValueError",.type "ValueError",true,rfl,e6 _ _ hx,ZC,λu r=>r,kv,.inr ⟨true,rfl,?_⟩⟩⟩;refine⟨_,_,rfl,rfl,h100,(by decide),(by decide),?_⟩;rw[hj];have X6:=E1.trans e6;exact q l _ (λb o _ z=>X6 b o z) (nt.ext X6) (X6 _ _ hp)
end
def qU8(C:Addr):Sp:=λvs H Q _=>∃(p dx l q:Addr) (net:List Tr),vs=[.ref p,.ref q]/\H p=some (.ins C dx (bF l))/\qA5 H l net/\qA5 H q net/\net.length<=12/\(∀t∈net,ShT t)/\qD5 (net.map (·.1))/\∀H',Ext H H'->Q (.bl true) H'
theorem qNt:∀ {net:List Tr},(∀t∈net,ShT t)->PyData.canLayAll0 (net.map trD)=true/\PyData.depthAll (net.map trD)<=1
 |[],_=>⟨rfl,by decide⟩
 |t :: r,h=>by
  obtain⟨h1,h2⟩:=qNt (net:=r) λy hy=>h y (hA4 _ hy)
  obtain⟨t1,t2,t3⟩:=h t hA6;refine⟨?_,?_⟩
  ·show((PyData.strOk t.1 && (PyData.strOk t.2.1 && (PyData.strOk t.2.2 && true))) && PyData.canLayAll0 (r.map trD))=true;rw[h1,t1.ok,t2.ok,t3.ok];rfl
  ·show max (max 0 (max 0 (max 0 0))+1) (PyData.depthAll (r.map trD))<=1;omega
theorem qF7{net:List Tr}(h:∀t∈net,ShT t):SeqAt.shaped (zCr net)=true:=by
 obtain⟨h3,h4⟩:=qNt h;show(PyData.canLayAll0 (net.map trD) && decide (PyData.depthAll (net.map trD)+1<=64))=true;rw[h3,hDp (by omega)];rfl
section
variable{P:Program}{w:World}{K:PySem.W.Frag}{mg:Str->Option Value}{base:Heap}{f f1 f2 f3 f4 f5 C:Addr}{fd fd1 fd2 fd3 fd4 fd5:FuncData}
abbrev gdN:List Str:=["_law_bench","_law_net_here","_law_found","_law_table"]
theorem qQs:FnScope gdN ["_law_bench","_law_net_here"] (qAa qLo):=fsk
theorem qX8(F:Fun K "_law_good" "_law_good" qLo f fd)(T:BCls K C)(hm1:Meth K C "net" f1)(hm2:Meth K C "table" f2)
  (G1:v7 1 f1 fd1 ["self"] (qVf C)) (bG1:qE1 K fd1 ["self"] [])
  (G2:v7 6 f2 fd2 ["self"] (qVe C)) (bG2:qE1 K fd2 ["self"] [])
  (G3:v8 2 f3 fd3 ["_law_names_here","_law_numbers"] qMy "_law_steps")
  (G4:v8 1 f4 fd4 ["_law_net_here"] qF5 "_law_even")
  (G5:v8 1 f5 fd5 ["_law_found","_law_due_here"] qP9 "_law_same_table")
  (mi:mg "isinstance"=none) (mL:mg "list"=none):v7 7 f fd ["_law_bench","_law_net_here"] (qU8 C):=by
 refine F.okA qQs λcdv A outer s H vs Q E hr h=>?_
 obtain⟨p,dx,l,r,net,rfl,hp,nl,nr,ln,tx,rs,q⟩:=h;have hr1:=hr.mono (j:=1) (by decide);have hr2:=hr.mono (j:=2) (by decide);refine⟨_,qAb (v0 2 qQs (qNg (pv 0) T.cl hm1 G1 hr1 bG1 .nil qA2))
  (qAb (qBl (PW.pt (qD3 (qB0 (qBr (qAg qBd rfl mi qAz (qAd (pv 2) (pa1 (qCl (v:=.ty "list") rfl mL qBe rfl)))))) (qDi (qAm (qV0 (qQ0 hr)) (pv 2) (pv 1) (qAu _))))) (qAe (qAo qFs)) qAw)
  (qAb (v0 3 qQs (qNg (pv 0) T.cl hm2 G2 hr bG2 .nil qA2))
  (qAb (qBl (qB0 (qBr (qA0 G5 hr1 rfl .nil qA2 (qD4 (pv 3) (pa1 (qA0 G3 hr2 rfl .nil qA2 (qAd
    (qCr (N:=gdN) (sc:=qAa qLo) (N':=["_law_tie"]) (sub:=[none]) (qAx (pv 1)) (λC s H fp=>⟨qA4,qA6 (show IxR _ (qLx K) from qA7) (pv 0) qAc (λ_ _=>rfl)⟩))
    (pa1 (qA0 G4 hr1 rfl .nil qA2 (qD4 (pv 1) qAs)))))))))) (qAe (qAo qFs)) qAw)
  (qAb (qCa (qEm hAu hB6 hB7 qBt (pv 2) (pa1 qNf)))
  (qAb (qCa (qEm hAu hB6 hB7 qBt (qA6 qA7 (pv 3) qAc (λ_ _=>rfl)) (pa1 qA9)))
  (qAb (qCa (qRd hAu PySem.F.slot_list_clear PySem.F.type_list_clear qT9 (qA6 qA7 (pv 3) qAc (λ_ _=>rfl))))
  (qAe (qAo qFs)))))))),?_⟩
 obtain⟨as0,hl0,pr0⟩:=id nl;refine⟨_,rfl,p,dx,_,rfl,hp,qZb l (by decide +kernel),p,dx,l,_,rfl,hp,hl0,λfo hfo=>?_⟩;have Z1:=Ext.new hfo (.lst (as0.map V.ref));have nf:qA5 (upd H fo (.lst (as0.map V.ref))) fo net:=⟨as0,upd_same,Paired.mapP pr0 λa t z=>Z1 _ _ z⟩;have nr1:=nr.ext Z1;have nl1:=nl.ext Z1;have hp1:=Z1 _ _ hp;have hf1:(upd H fo (.lst (as0.map V.ref))) fo=some (.lst (as0.map V.ref)):=upd_same;revert Z1 nf nr1 nl1 hp1 hf1;generalize upd H fo (.lst (as0.map V.ref))=H1;intro Z1 nf nr1 nl1 hp1 hf1;refine⟨_,rfl,_,_,_,true,rfl,.lst hf1,qB7 _ _,true,rfl,qGz ?_⟩;refine⟨_,rfl,_,rfl,_,_,qWc nf,qWc nr1,qF7 tx,qF7 tx,_,rfl,?_⟩;rw[hDu rfl,qSc];refine qGz ?_;refine⟨_,rfl,p,dx,_,rfl,hp1,qZb l (by decide +kernel),p,dx,l,net,rfl,hp1,nl1,ln,λTf ps S M H2 e2 tf0 tf pk psr pS pM dM=>?_⟩;have nr2:=nr1.ext e2;obtain⟨bs,hnh,prh⟩:=id nr2;refine⟨_,rfl,_,rfl,r,rfl,⟨_,SqL.of hnh⟩,?_⟩;refine qCd (λt=>t.1) hnh prh (by omega) (λa t ha C B c=>⟨sls,?_⟩) ?_
 ·exact iteT (B:=B H2) ⟨_,rfl,a,_,_,_,rfl,rfl,SqT.of ha,(by exact qAv (j:=0) rfl),c⟩
 intro tl htl;have Xt:=Ext.new htl (.lst ((net.map λt=>t.1).map V.str));refine⟨_,rfl,r,net,rfl,nr2.ext Xt,by omega,λev F Kp ps' H3 e3 ev0 hev pok' ei kw=>?_⟩;have lF:F.length<=12:=by have:=ei.len;omega
 have fl:∀x∈F,x<2^net.length:=λx hx=>(ei.f1 x hx).1
 refine⟨tl,ev,nmS net,F,net.length,rfl,e3 _ _ upd_same,by rw[hA1];exact ln,hev,by omega,fl,λT2 rows H4 e4 T20 ti srt pmr=>?_⟩;have E4:=Xt.trans (e3.trans e4);have okN:SOk (nmS net):=λx hx=>by
  obtain⟨t,ht,rfl⟩:=hAe.mp hx;exact(tx t ht).1.ok
 have okR:∀rw∈rows,SOk rw:=λrw hrw x hx=>by
  obtain⟨y,_,rfl⟩:=hAe.mp (pmr.mem_iff.mp hrw);unfold qS1 at hx;obtain⟨i,_,e⟩:=hD5.mp hx;split at e
  ·exact okN x (hAs e)
  ·cases e
 have lrows:rows.length<=12:=by
  rw[pmr.length_eq,hA1];exact hAx (qLv F) lF
 have md:Made net ps ps' S M Kp F:=⟨rs,pk,pok',pS,pM,dM,ei,kw⟩;have er:=md.rows srt pmr;rw[<-er]at tf;refine⟨Tf,T2,nmS net,rows,rfl,tf.tin.ext E4,ti,okN,okR,by omega,λH5 e5=>⟨true,rfl,qGz ?_⟩⟩;have E5:=E4.trans e5;obtain⟨fa,fb,hTf,hfa,fa0,⟨gs,hfb,pgs⟩,fb0⟩:=tf.ext E5;have lgs:gs.length=rows.length:=pgs.length;have hf5:=E5 _ _ (e2 _ _ hf1);have E05:Ext H H5:=Z1.trans (e2.trans E5);have fa00:H fa=none:=Z1.none fa0;have fb00:H fb=none:=Z1.none fb0;have nfa:fa≠fo:=λz=>by rw[z,hf1]at fa0;cases fa0
 have nfb:fb≠fo:=λz=>by rw[z,hf1]at fb0;cases fb0
 have nTo:Tf≠fo:=λz=>by rw[z,hf5]at hTf;cases hTf
 have nTa:Tf≠fa:=λz=>by rw[z]at hTf;rw[show H5 fa=_ from hfa]at hTf;cases hTf
 have l0:as0.length=net.length:=pr0.length;refine⟨_,rfl,.inl ⟨rfl,_,SqL.of hf5⟩,fo,_,_,rfl,rfl,hf5,by rw[hA1];exact qAf (by omega),?_⟩;have X6:=E05.over hfo (.lst (as0.map V.ref++[V.non]));have hT6:(upd H5 fo (.lst (as0.map V.ref++[V.non]))) Tf=_:=(qAj nTo).trans hTf;have ha6:(upd H5 fo (.lst (as0.map V.ref++[V.non]))) fa=_:=(qAj nfa).trans hfa;have hb6:(upd H5 fo (.lst (as0.map V.ref++[V.non]))) fb=_:=(qAj nfb).trans hfb;revert X6 hT6 ha6 hb6;generalize upd H5 fo (.lst (as0.map V.ref++[V.non]))=H6;intro X6 hT6 ha6 hb6;refine⟨_,rfl,Tf,_,_,V.ref fa,rfl,rfl,SqT.of hT6,(by exact qAv (j:=0) rfl),.inl ⟨rfl,_,SqL.of ha6⟩,fa,_,_,rfl,rfl,ha6,by rw[hA1,hA1];exact qAf (by omega),?_⟩;have X7:=X6.over fa00 (.lst ((nmS net).map V.str++[V.str "zz"]));have hT7:(upd H6 fa (.lst ((nmS net).map V.str++[V.str "zz"]))) Tf=_:=(qAj nTa).trans hT6;obtain⟨xb,hb7⟩:∃xb,(upd H6 fa (.lst ((nmS net).map V.str++[V.str "zz"]))) fb=some (.lst xb):=by
  by_cases z:fb=fa
  ·rw[z];exact⟨_,upd_same⟩
  ·exact⟨_,(qAj z).trans hb6⟩
 refine⟨_,rfl,Tf,_,_,V.ref fb,rfl,rfl,SqT.of hT7,(by exact qAv (j:=1) rfl),.inl ⟨rfl,_,SqL.of hb7⟩,fb,_,rfl,rfl,hb7,?_⟩;exact q _ (X7.over fb00 _)
end
theorem zBl{a b:Str}(ha:Sh a)(hb:Sh b):Sh (mnS a b):=by
 unfold mnS;split
 ·exact hb
 ·exact ha
theorem zBk{a b:Str}(ha:Sh a)(hb:Sh b):Sh (mxS a b):=by
 unfold mxS;split
 ·exact hb
 ·exact ha
theorem qRo{s:Str}(h:qBg s=true):s.length<=6:=by
 unfold qBg at h;rw[hB9,hB9]at h;exact hDs h.2.1
theorem It3.sh{K:PySem.W.Frag}{H:Hp}{s:Str}{D:PyData}(h:It3 K H (.str s) D)(n:qBg s=true):Sh s:=⟨(qNv h.it).2,by have:=qRo n;omega⟩
theorem qGo(net:List Tr)(a:Str):(qE2 net a).Sublist net:=hDn
theorem qQi(net:List Tr)(a one other:Str):(qVi net a one other).map (·.1)=(qE2 net a).map (·.1):=by
 unfold qVi;rw[hB3];rfl
theorem qNi{net:List Tr}{a:Str}(h:qD5 (net.map (·.1))):qD5 ((qE2 net a).map (·.1)):=List.Pairwise.sublist ((qGo net a).map _) h
theorem Due.rise{net net':List Tr}{ys:List V}{w:Str}(h:qD5 (net.map (·.1)))(d:Due net ys w net'):qD5 (net'.map (·.1)):=by
 rcases d with ⟨x,y,z,_,d⟩|⟨x,_,d⟩|⟨x,_,d⟩
 ·rcases d with ⟨_,_,rfl⟩|⟨t,n2,_,it,d⟩
  ·exact h
  ·rcases d with ⟨_,_,rfl⟩|⟨_,_,rfl⟩
   ·exact it.2
   ·exact h
 ·rcases d with ⟨_,_,rfl⟩|⟨a,_,_,_,rfl⟩
  ·exact h
  ·exact qNi h
 ·rcases d with ⟨_,_,rfl⟩|⟨a,one,other,_,_,_,rfl⟩
  ·exact h
  ·rw[qQi];exact qNi h
theorem Due.len{net net':List Tr}{ys:List V}{w:Str}(h:net.length<=12)(d:Due net ys w net'):net'.length<=12:=by
 rcases d with ⟨x,y,z,_,d⟩|⟨x,_,d⟩|⟨x,_,d⟩
 ·rcases d with ⟨_,_,rfl⟩|⟨t,n2,_,it,d⟩
  ·exact h
  ·rcases d with ⟨nb,_,rfl⟩|⟨_,_,rfl⟩
   ·exact nb.1
   ·exact h
 ·rcases d with ⟨_,_,rfl⟩|⟨a,_,_,_,rfl⟩
  ·exact h
  ·exact hAx (qIw _ _) h
 ·rcases d with ⟨_,_,rfl⟩|⟨a,one,other,_,_,_,rfl⟩
  ·exact h
  ·unfold qVi;rw[hA1];exact hAx (qIw _ _) h
theorem Due.nm{net net':List Tr}{ys:List V}{w:Str}(h:∀t∈net,qBg t.1=true)(d:Due net ys w net'):∀t∈net',qBg t.1=true:=by
 rcases d with ⟨x,y,z,e,d⟩|⟨x,_,d⟩|⟨x,_,d⟩
 ·rcases d with ⟨_,_,rfl⟩|⟨t,n2,lo,it,d⟩
  ·exact h
  ·rcases d with ⟨_,_,rfl⟩|⟨_,_,rfl⟩
   ·intro u hu;rcases hAh.mp (it.1.mem_iff.mp hu) with m|m
    ·exact h u m
    ·rw[hAa.mp m];obtain⟨a,b,c,rfl,rfl,rfl,n1,n2,n3,_,rfl⟩:=lo;exact n1
   ·exact h
 ·rcases d with ⟨_,_,rfl⟩|⟨a,_,_,_,rfl⟩
  ·exact h
  ·exact λu hu=>h u ((qGo _ _).mem hu)
 ·rcases d with ⟨_,_,rfl⟩|⟨a,one,other,_,tm,_,rfl⟩
  ·exact h
  ·intro u hu;obtain⟨t,ht,rfl⟩:=hAe.mp hu;exact h t ((qGo _ _).mem ht)
theorem Due.sh{K:PySem.W.Frag}{H:Hp}{st:Addr}{net net':List Tr}{ys:List V}{w:Str}(da:DeedAt K H st ys)(h:∀t∈net,ShT t)(d:Due net ys w net'):∀t∈net',ShT t:=by
 rcases d with ⟨x,y,z,e,d⟩|⟨x,_,d⟩|⟨x,_,d⟩
 ·rcases d with ⟨_,_,rfl⟩|⟨t,n2,lo,it,d⟩
  ·exact h
  ·rcases d with ⟨_,_,rfl⟩|⟨_,_,rfl⟩
   ·intro u hu;rcases hAh.mp (it.1.mem_iff.mp hu) with m|m
    ·exact h u m
    ·rw[hAa.mp m];obtain⟨a,b,c,rfl,rfl,rfl,n1,n2,n3,_,rfl⟩:=lo;subst e;obtain⟨D1,i1⟩:=da.it (.str a) (by simp);obtain⟨D2,i2⟩:=da.it (.str b) (by simp);obtain⟨D3,i3⟩:=da.it (.str c) (by simp);exact⟨i1.sh n1,zBl (i2.sh n2) (i3.sh n3),zBk (i2.sh n2) (i3.sh n3)⟩
   ·exact h
 ·rcases d with ⟨_,_,rfl⟩|⟨a,_,_,_,rfl⟩
  ·exact h
  ·exact λu hu=>h u ((qGo _ _).mem hu)
 ·rcases d with ⟨_,_,rfl⟩|⟨a,one,other,_,tm,_,rfl⟩
  ·exact h
  ·intro u hu;obtain⟨t,ht,rfl⟩:=hAe.mp hu;obtain⟨h1,h2,h3⟩:=h t ((qGo _ _).mem ht);have ho:Sh one:=(h _ tm).2.1;have g:∀x,Sh x->Sh (if other=x then one else x):=λx hx=>by
    split
    ·exact ho
    ·exact hx
   exact⟨h1,zBl (g _ h2) (g _ h3),zBk (g _ h2) (g _ h3)⟩
def qZ9(K:PySem.W.Frag):Sp:=λvs H Q _=>∃(p st:Addr) (net:List Tr) (ys:List V),vs=[.ref p,.ref st]/\qA5 H p net/\net.length<=12/\qD5 (net.map (·.1))/\(∀t∈net,ShT t)/\(∀t∈net,qBg t.1=true)/\DeedAt K H st ys/\zCj ys /\
 ∀T r' w net' H',Ext H H'->H' T=some (.tup [.str w,.ref r'])->qA5 H' r' net'->Due net ys w net'->Q (.ref T) H'
theorem qTh{ss:List Str}(r:qD5 ss)(n:∀s∈ss,qBg s=true):zAv (ss.map V.str):=by
 have at_:∀i (h:i<ss.length),(ss.map V.str).getD i .non = .str ss[i]:=λi h=>by
  rw[hA5,hAj,hA2 h];rfl
 refine⟨λi hi=>?_,λi hi=>?_⟩
 ·rw[hA1]at hi;rw[at_ i hi];exact n _ (hBf hi)
 ·rw[hA1]at hi;rw[at_ i (by omega),at_ (i+1) hi];exact qM6 r (hAt i) (hA2 (by omega)) (hA2 hi)
theorem zBx:∀v∈sg.cps.toList,inB ⟨#[v]⟩=true:=by decide +kernel
theorem qDk.nm{s:Str}(h:qDk s):qBg s=true:=by
 unfold qBg;rw[hDp h.2.1,hDp h.2.2,hCn,hCn];unfold qZi;rw[List.all_map,hBx];intro i hi;have hi':i<s.cps.toList.length:=by simpa using hB4.mp hi
 show inB (sgn s i)=true;have e:sgn s i=⟨#[s.cps.toList[i]]⟩:=by
  unfold sgn;rw[hA5,hA2 hi'];rfl
 rw[e];exact zBx _ (h.1 _ (hBf hi'))
theorem TxT.tie{t:Tr}(h:TxT t):zCt t:=⟨qDk.nm h.1,qDk.nm h.2.1,qDk.nm h.2.2.1,h.2.2.2⟩
theorem qT8{net:List Tr}(tx:TxN net)(rs:qD5 (net.map (·.1))):qPi (NdOf net) :=
 ⟨net,rfl,λt ht=>TxT.tie (tx t ht),qTh rs λs hs=>by
  obtain⟨t,ht,rfl⟩:=hAe.mp hs;exact qDk.nm (tx t ht).1⟩
theorem zBg{H:Hp}{p:Addr}{net:List Tr}(h:qA5 H p net)(s:∀t∈net,ShT t)(l:net.length<=18)(K:PySem.W.Frag):Nt H (.ref p) (NdOf net):=by
 obtain⟨D,od⟩:=qYg (K:=K) h s l;exact od.nt
theorem qYv{p dx C CN CT:Addr}{v:V}{net:List Tr}{H:Hp}{Q:VK}{E:XK}(hp:H p=some (.ins C dx []))(nt:Nt H v (NdOf net))(fm:qPi (NdOf net))(nb:qN9 net)
  (q:∀l H',(∀b o,b≠p->H b=some o->H' b=some o)->H l=none->qA5 H' l net->H' p=some (.ins C dx (bF l))->Q .non H'):qQd C CN CT [.ref p,v] H Q E:=by
 refine⟨p,dx,v,_,rfl,hp,nt,λnf=>absurd fm nf,λn2 e _ nb2=>?_,λn2 e _ _ l H' up hl na hq=>?_⟩
 ·cases NdOf.inj e;exact absurd nb nb2
 ·cases NdOf.inj e;exact q l H' up hl na hq
theorem qWq{K:PySem.W.Frag}{H H':Hp}{p C dx a:Addr}{fs:List (Str×V)}{xs:List V}(hp:H p=some (.ins C dx fs))(up:∀b o,b≠p->H b=some o->H' b=some o)(h:SqL K H a xs):SqL K H' a xs:=by
 have ne:∀ {o},H a=some o->(∀C dx fs,o≠.ins C dx fs)->a≠p:=λe n z=>by rw[z,hp]at e;exact n _ _ _ (hAr e).symm
 rcases h with (h|⟨o,h⟩)|h
 ·exact .inl (.inl (up _ _ (ne h (by intro _ _ _ z;cases z)) h))
 ·exact .inl (.inr ⟨o,up _ _ (ne h (by intro _ _ _ z;cases z)) h⟩)
 ·exact .inr h
theorem qYj{H H':Hp}{p C dx q:Addr}{fs:List (Str×V)}{net:List Tr}(hp:H p=some (.ins C dx fs))(up:∀b o,b≠p->H b=some o->H' b=some o)(h:qA5 H q net):qA5 H' q net:=by
 obtain⟨as,h1,h2⟩:=h;exact⟨as,up _ _ (λz=>by rw[z,hp]at h1;cases h1) h1,Paired.mapP h2 λa t z=>up _ _ (λy=>by rw[y,hp]at z;cases z) z⟩
def qS7(K:PySem.W.Frag):Sp:=λvs H Q _=>∃(a:Addr) (ns:List Int),vs=[.ref a]/\SqL K H a (ns.map V.int)/\ns.length<=63/\∀H',Q (.bl true) H'
abbrev lgN:List Str:=["_law_script","_law_net_here","_law_handed","_law_bench","_law_k","_law_deed_here","_law_word_here","_law_made"]
theorem qIk:FnScope lgN ["_law_script"] (qAa qTd):=fsk
structure LI(K:PySem.W.Frag)(H:Hp)(a:Addr)(ns:List Int)(np bp C dx l:Addr)(net:List Tr):Prop where
 sc:SqL K H a (ns.map V.int)
 nt:qA5 H np net
 bn:H bp=some (.ins C dx (bF l))
 kp:qA5 H l net
 l12:net.length<=12
 sh:∀t∈net,ShT t
 rs:qD5 (net.map (·.1))
 nm:∀t∈net,qBg t.1=true
theorem LI.ext{K:PySem.W.Frag}{H H':Hp}{a:Addr}{ns:List Int}{np bp C dx l:Addr}{net:List Tr}(h:LI K H a ns np bp C dx l net)(e:Ext H H'):LI K H' a ns np bp C dx l net:=⟨e.sqL h.sc,h.nt.ext e,e _ _ h.bn,h.kp.ext e,h.l12,h.sh,h.rs,h.nm⟩
section
variable{P:Program}{w:World}{K:PySem.W.Frag}{mg:Str->Option Value}{base:Heap}{f f1 f2 f3 f4 f5 f6 f7 C CN CT:Addr}{fd fd1 fd2 fd3 fd4 fd5 fd6 fd7:FuncData}
theorem zBa(F:Fun K "law" "law" qTd f fd)(mk:Mk K C f6)(mC:mg "Bench"=some (.ref C))
  (G1:v8 3 f1 fd1 ["_law_script","_law_at"] (qZ7 K) "_law_net")
  (G2:v8 2 f2 fd2 ["_law_script","_law_k"] (qWs K) "_law_big")
  (G3:v8 2 f3 fd3 ["_law_net_here","_law_big_here"] (qVc K) "_law_deed")
  (G4:v8 2 f4 fd4 ["_law_net_here","_law_deed_here"] (qZ9 K) "_law_due")
  (G5:v8 10 f5 fd5 ["_law_bench","_law_deed_here"] (qUz K C) "_law_word")
  (G6:FnOk P w K mg base (CXe P w) 7 f6 fd6 ["self","net"] (qQd C CN CT)) (bG6:qE1 K fd6 ["self","net"] [])
  (G7:v8 7 f7 fd7 ["_law_bench","_law_net_here"] (qU8 C) "_law_good")
  (mL:mg "list"=none) (mr:mg "range"=none):v7 11 f fd ["_law_script"] (qS7 K):=by
 refine F.okA qIk λcdv A outer s H vs Q E hr h=>?_
 obtain⟨a,ns,rfl,hS,hl,q⟩:=h;have hr2:=hr.mono (j:=2) (by decide);have hr3:=hr.mono (j:=3) (by decide);have hr7:=hr.mono (j:=7) (by decide);have hr8:=hr.mono (j:=8) (by decide);refine⟨_,qAb (v0 1 qIk (qA0 G1 hr3 rfl .nil qA2 (qAd (pv 0) (pa1 qAc))))
  (qAb (v0 2 qIk (qBf qCg rfl mL qBe (pa1 (pv 1))))
  (qAb (v0 3 qIk (qXp mk G6 hr8 rfl mC bG6 .nil zA4 (pa1 (pv 2))))
  (qAb (qCa (qRd hAu PySem.F.slot_list_reverse PySem.F.type_list_reverse qO5 (pv 2)))
  (qAb (qCa (qEm hAu hB6 hB7 qBt (pv 2) (pa1 qNf)))
  (qAb (qBl (qB0 (qBr (qA0 G7 hr7 rfl .nil qA2 (qAd (pv 3) (pa1 (pv 1)))))) (qAe (qAo qFs)) qAw)
  (qAb (qCp PassesOwn.never rfl (qCq rfl mr (pa1 qAc)) (v4 4 qIk)
   (qAb (v0 5 qIk (qA0 G3 hr2 rfl .nil qA2 (qAd (pv 1) (pa1 (qAl qCf (qA0 G2 hr2 rfl .nil qA2 (qAd (pv 0) (pa1 (qAl qCf qAc (pv 4))))) (pv 4))))))
   (qAb (qGl (qA0 G4 hr2 rfl .nil qA2 (qAd (pv 1) (pa1 (pv 5)))) (qCe rfl (qAi (v4 6 qIk) (qAi (v4 7 qIk) qBj))))
   (qAb (qBl (PW.pt (qD3 (qAm qEe (qA0 G5 hr rfl .nil qA2 (qAd (pv 3) (pa1 (pv 5)))) (pv 6) (qAu _)) (qDi (qB0 (qBr (qA0 G7 hr7 rfl .nil qA2 (qAd (pv 3) (pa1 (pv 7))))))))) (qAe (qAo qFs)) qAw)
   (qAe (v0 1 qIk (pv 7)))))))
  (qAe (qAo (qA0 G7 hr7 rfl .nil qA2 (qAd (pv 3) (pa1 (pv 1)))))))))))),?_⟩
 refine⟨_,rfl,a,ns,rfl,hS,λnp net H1 e1 np0 nt l12 tx rs w8 l8=>?_⟩;have fm:=qT8 tx rs;have nb:qN9 net:=⟨l12,w8,l8⟩;have sh:∀t∈net,ShT t:=λt ht=>TxT.sh (tx t ht)
 have nm:∀t∈net,qBg t.1=true:=λt ht=>qDk.nm (tx t ht).1
 obtain⟨as,hn,pn⟩:=id nt;have la:as.length=net.length:=pn.length;refine⟨_,rfl,np,_,rfl,.inl (SqL.of hn),λhd hhd=>?_⟩;have X1:=Ext.new hhd (.lst (as.map V.ref));refine⟨_,rfl,λx dx hx hdx hne=>?_⟩;have hx':upd (upd H1 hd (.lst (as.map V.ref))) dx (.own x) x=none:=by rw[qAj (Ne.symm hne)];exact hx
 have X2:=(Ext.new hdx (.own x)).trans (Ext.new hx' (.ins C dx []));have n1:qA5 (upd H1 hd (.lst (as.map V.ref))) hd net:=⟨as,upd_same,Paired.mapP pn λa t z=>X1 _ _ z⟩;refine qYv (net:=net) upd_same (zBg (n1.ext X2) sh (by omega) K) fm nb λl H3 up hl3 na hb=>⟨rfl,?_⟩
 have hdx0:hd≠x:=λz=>by rw[<-z,upd_same]at hx;cases hx
 have h3:H3 hd=some (.lst (as.map V.ref)):=up _ _ hdx0 (X2 _ _ upd_same);have hdl:hd≠l:=λz=>by
  have e:=X2 hd _ upd_same;rw[<-z]at hl3;rw[hl3]at e;cases e
 have e3:Ext H1 H3:=λb o z=>by
  have z2:=X1 _ _ z;exact up b o (λy=>by rw[y]at z2;rw[hx]at z2;cases z2) (X2 _ _ z2)
 have off:∀ {b o},H1 b=some o->b≠hd:=λz y=>by rw[y,hhd]at z;cases z
 obtain⟨as3,hl31,pr3⟩:=na;have ntu:∀ {G:Hp},(∀b o,b≠hd->H3 b=some o->G b=some o)->LI K G a ns np x C dx l net:=λ{G} k=>by
  have hS1:=e1.sqL hS;refine⟨?_,⟨as,k _ _ (off hn) (e3 _ _ hn),Paired.mapP pn λu t z=>k _ _ (off z) (e3 _ _ z)⟩,k _ _ (Ne.symm hdx0) hb,⟨as3,k _ _ (Ne.symm hdl) hl31,Paired.mapP pr3 λu t z=>k _ _ (λy=>by rw[y,h3]at z;cases z) z⟩,l12,sh,rs,nm⟩;rcases hS1 with (z|⟨o,z⟩)|z
  ·exact .inl (.inl (k _ _ (off z) (e3 _ _ z)))
  ·exact .inl (.inr ⟨o,k _ _ (off z) (e3 _ _ z)⟩)
  ·exact .inr z
 refine⟨_,rfl,.inl ⟨rfl,_,SqL.of h3⟩,hd,_,rfl,rfl,h3,?_⟩;refine⟨_,rfl,.inl ⟨rfl,_,SqL.of upd_same⟩,hd,_,_,rfl,rfl,upd_same,by rw[List.length_reverse,hA1];exact qAf (by omega),?_⟩;have li:=ntu (G:=upd (upd H3 hd (.lst (as.map V.ref).reverse)) hd (.lst ((as.map V.ref).reverse++[V.non]))) (λb o hb z=>by rw[qAj hb,qAj hb];exact z);revert li;generalize upd (upd H3 hd (.lst (as.map V.ref).reverse)) hd (.lst ((as.map V.ref).reverse++[V.non]))=H4;intro li;clear ntu off e3 hdl h3 hdx0 X2 n1 up hl3 hx' hb pr3 hl31;refine⟨_,rfl,_,rfl,x,dx,l,np,net,rfl,li.bn,li.kp,li.nt,li.l12,li.sh,li.rs,λH5 e5=>⟨true,rfl,qGz ?_⟩⟩;have li5:=li.ext e5;refine⟨20,rfl,by decide,by decide,qDr (lo:=0) (n:=20) (λi σ H'=>∃(np l:Addr) (net:List Tr) (x4 x5 x6 x7:Option V),σ=[some (.ref a),some (.ref np),some (.ref hd),some (.ref x),x4,x5,x6,x7]/\LI K H' a ns np x C dx l net) ⟨np,l,net,_,_,_,_,rfl,li5⟩ ?_ ?_⟩
 ·rintro i σ H6 hi ⟨np,l,net,x4,x5,x6,x7,rfl,li⟩;refine⟨_,rfl,_,rfl,_,rfl,_,_,rfl,rfl,a,ns,_,rfl,li.sc,by omega,by omega,λv=>⟨_,rfl,_,_,rfl,rfl,?_⟩⟩;refine⟨np,net,_,rfl,li.nt,li.l12,li.sh,λst ys H7 e7 st0 da fo=>?_⟩;have li7:=li.ext e7;refine⟨_,rfl,_,rfl,np,st,net,ys,rfl,li7.nt,li7.l12,li7.rs,li7.sh,li7.nm,da,fo,λT r' wo net' H8 e8 hT nr due=>?_⟩;have li8:=li7.ext e8;have da8:=da.ext e8;refine⟨T,_,rfl,SqT.of hT,rfl,_,_,rfl,_,_,rfl,rfl,?_⟩;have sok:SOk (net.map (·.1)):=λy hy=>by
   obtain⟨t,ht,rfl⟩:=hAe.mp hy;exact(li8.sh t ht).1.ok
  refine⟨_,rfl,_,rfl,x,dx,l,st,net,ys,wo,net',rfl,li8.bn,da8,li8.kp,li8.l12,li8.rs,sok,due,λl' H9 up nl' hb'=>?_⟩;have nr9:=qYj li8.bn up nr;have sc9:=qWq li8.bn up li8.sc;have l12':=due.len li8.l12;have sh':=due.sh da li8.sh;have rs':=due.rise li8.rs;refine⟨_,rfl,rfl,_,rfl,qB1 (λc=>absurd c (by simp)) (λ_=>?_)⟩;refine⟨_,rfl,_,rfl,x,dx,l',r',net',rfl,hb',nl',nr9,l12',sh',rs',λH10 e10=>⟨true,rfl,qGz ?_⟩⟩;have li':LI K H9 a ns r' x C dx l' net':=⟨sc9,nr9,hb',nl',l12',sh',rs',due.nm li8.nm⟩;exact⟨_,rfl,r',l',net',_,_,_,_,rfl,li'.ext e10⟩
 ·rintro σ H6 ⟨np,l,net,x4,x5,x6,x7,rfl,li⟩;exact⟨_,rfl,_,rfl,x,dx,l,np,net,rfl,li.bn,li.kp,li.nt,li.l12,li.sh,li.rs,λH7 e7=>q _⟩
end
section
variable{P:Program}{w:World}{K:PySem.W.Frag}{mg:Str->Option Value}{base:Heap}{f f1 f2:Addr}{fd fd1 fd2:FuncData}
abbrev duN:List Str:=["_law_net_here","_law_deed_here","_law_ties","_law_rest","_law_made","_law_low","_law_gone","_law_found","_law_tie","_law_one","_law_other"]
theorem qHh:FnScope duN ["_law_net_here","_law_deed_here"] (qAa qOr):=fsk
def uS(i:Nat):Stmt:=(qAk qOr).getD i (.Pass ⟨0,0,0,0⟩)
theorem hbU:qAk qOr=[uS 0,uS 1,uS 2,uS 3,uS 4,uS 5,uS 6,uS 7,uS 8]:=rfl
abbrev UX(P:Program)(w:World)(K:PySem.W.Frag)(mg:Str->Option Value)(base:Heap)(f:Addr)(cdv:Value)(A:Around)(outer:List Env)(s:Shared)(H0:Hp)(E:XK):Cx:=(qSn CX0 P w K mg base duN "_law_due" (qAa qOr) f cdv A outer s H0 E).nox
structure UI(K:PySem.W.Frag)(H:Hp)(p st:Addr)(net:List Tr)(ys:List V):Prop where
 nt:qA5 H p net
 l12:net.length<=12
 rs:qD5 (net.map (·.1))
 sh:∀t∈net,ShT t
 nm:∀t∈net,qBg t.1=true
 da:DeedAt K H st ys
 fo:zCj ys
theorem UI.ext{K:PySem.W.Frag}{H H':Hp}{p st:Addr}{net:List Tr}{ys:List V}(h:UI K H p st net ys)(e:Ext H H'):UI K H' p st net ys:=⟨h.nt.ext e,h.l12,h.rs,h.sh,h.nm,h.da.ext e,h.fo⟩
def qPg(H:Hp)(net:List Tr)(ys:List V)(R:VK):Prop:=∀T r' w net' H',Ext H H'->H' T=some (.tup [.str w,.ref r'])->qA5 H' r' net'->Due net ys w net'->R (.ref T) H'
abbrev USt(p st:Addr)(x2 x3 x4 x5 x6 x7 x8 x9 x10:Option V):St:=[some (.ref p),some (.ref st),x2,x3,x4,x5,x6,x7,x8,x9,x10]
def tU0(K:PySem.W.Frag):TS:=λD σ H=>∃p st net ys,σ=USt p st none none none none none none none none none/\UI K H p st net ys/\∀tl H',Ext H H'->LsS H' tl (net.map (·.1))->D.nx (USt p st (some (.ref tl)) none none none none none none none none) H'
variable{cdv:Value}{A:Around}{outer:List Env}{s:Shared}{H0:Hp}{E:XK}
theorem us0:PSx (UX P w K mg base f cdv A outer s H0 E) (uS 0) (tU0 K):=by
 refine qBy ⟨qXg (i:=2) (N:=duN) (sc:=qAa qOr) (N':=["_law_tie"]) (sub:=[none]) rfl rfl (CmpOk.of (by decide +kernel)) rfl (qAx (pv 0)) (λC s H fp=>⟨qAh (i:=0) (by show(["_law_tie"]:List Str).Nodup;decide) rfl (Or.inl rfl),qA4,qA6 (show IxR _ (qLx K) from qA7) (pv 0) qAc (λ_ _=>rfl)⟩) qHh.nd rfl (Or.inl rfl)⟩ ?_;rintro D σ H ⟨p,st,net,ys,rfl,ui,q⟩;obtain⟨as,hp,pr⟩:=ui.nt;have l12:=ui.l12;refine⟨_,rfl,p,rfl,⟨_,SqL.of hp⟩,?_⟩;refine qCd (λt=>t.1) hp pr (by omega) (λa t ha C B c=>⟨sls,?_⟩) ?_
 ·exact iteT (B:=B H) ⟨_,rfl,a,_,_,_,rfl,rfl,SqT.of ha,(by exact qAv (j:=0) rfl),c⟩
 intro tl htl;exact q tl _ (Ext.new htl _) upd_same
theorem qMd{ys:List V}(h:zCj ys):∃(w0:Str) (x:V) (r:List V),ys = .str w0 :: x :: r:=by
 rcases h with ⟨x,y,z,rfl⟩|⟨x,rfl⟩|⟨x,rfl⟩ <;> exact⟨_,_,_,rfl⟩
theorem zB5{net:List Tr}{ys:List V}{w0:Str}{x:V}{r:List V}(e:ys = .str w0 :: x :: r)(f:zCj ys)(nm:∀t∈net,qBg t.1=true)(h:¬∃a,x = .str a/\qBg a=true/\(a∈net.map (·.1)↔w0≠"lay")):Due net ys "NoTie" net:=by
 have hn:∀a,a∈net.map (·.1)->qBg a=true:=λa ha=>by
  obtain⟨t,ht,rfl⟩:=hAe.mp ha;exact nm t ht
 rcases f with ⟨x',y,z,rfl⟩|⟨x',rfl⟩|⟨x',rfl⟩
 ·cases e;refine .inl ⟨x,y,z,rfl,.inl ⟨?_,rfl,rfl⟩⟩;rintro⟨t,a,b,c,rfl,_,_,n1,_,_,no,_⟩;exact h ⟨a,rfl,n1,λz=>absurd z no,λz=>absurd rfl z⟩
 ·cases e;refine .inr (.inl ⟨x,rfl,.inl ⟨?_,rfl,rfl⟩⟩);rintro⟨a,rfl,m⟩;exact h ⟨a,rfl,hn a m,λ_=>by decide +kernel,λ_=>m⟩
 ·cases e;refine .inr (.inr ⟨x,rfl,.inl ⟨?_,rfl,rfl⟩⟩);rintro⟨a,rfl,m⟩;exact h ⟨a,rfl,hn a m,λ_=>by decide +kernel,λ_=>m⟩
def zCi(net:List Tr)(ys:List V):Prop:=∃(w0 a:Str) (r:List V),ys = .str w0 :: .str a :: r/\qBg a=true/\(a∈net.map (·.1)↔w0≠"lay")
def tU1(K:PySem.W.Frag):TS:=λD σ H=>∃p st net ys tl,σ=USt p st (some (.ref tl)) none none none none none none none none/\UI K H p st net ys/\LsS H tl (net.map (·.1))/\qPg H net ys D.rt/\∀H',Ext H H'->zCi net ys->D.nx (USt p st (some (.ref tl)) none none none none none none none none) H'
theorem us1(hr:Room 1 (UX P w K mg base f cdv A outer s H0 E).A)(G1:v8 1 f1 fd1 ["_law_word_here"] (qQa K) "_law_is_name"):PSx (UX P w K mg base f cdv A outer s H0 E) (uS 1) (tU1 K):=by
 refine qBy ⟨qBl (PW.pt (qD3 (qB0 (qBr (qA0 G1 hr rfl .nil qA2 (zA5 (qA6 qA7 (pv 1) qAc (λ_ _=>rfl)) qAs))))
   (qDi (qAm qEe (qCk (show OpR _ (compareOp .In) (rIn K false) from qEo) (qA6 qA7 (pv 1) qAc (λ_ _=>rfl)) (pv 2) (by with_unfolding_all rfl)) (qCk qEe (qA6 qA7 (pv 1) qAc (λ_ _=>rfl)) qA9 (qAu _)) (qAu _)))))
   (qAe (qAo (qBk (qJy qA9 (qD4 (pv 0) qAs))))) qAw⟩ ?_
 rintro D σ H ⟨p,st,net,ys,tl,rfl,ui,htl,td,q⟩;obtain⟨w0,x,r,rfl⟩:=qMd ui.fo;have hst:=ui.da.at_;obtain⟨Dx,ix⟩:=ui.da.it x (by simp);have no:∀H1,Ext H H1->(¬∃a,x = .str a/\qBg a=true/\(a∈net.map (·.1)↔w0≠"lay"))->∀T,H1 T=none->D.rt (.ref T) (upd H1 T (.tup [.str "NoTie",.ref p])):=λH1 e h T hT =>
  td T p "NoTie" net _ (e.trans (Ext.new hT _)) upd_same (ui.nt.ext (e.trans (Ext.new hT _))) (zB5 rfl ui.fo ui.nm h)
 refine⟨_,rfl,st,_,_,x,rfl,rfl,SqT.of hst,(by exact qAv (j:=1) rfl),x,Dx,rfl,ix,λH1 e1=>⟨nmV x,rfl,?_⟩⟩;cases hb:nmV x with
 |false =>
  refine iteT ⟨_,rfl,(by show 2<=sizeLine;decide),λT hT=>no H1 e1 ?_ T hT⟩;rintro⟨a,rfl,n,_⟩;rw[show nmV (.str a)=qBg a from rfl,n]at hb;cases hb
 |true =>
  obtain⟨a,rfl⟩:=qCt hb;refine qGz ?_;have hst1:=e1 _ _ hst;refine⟨_,rfl,st,_,_,.str a,rfl,rfl,SqT.of hst1,(by exact qAv (j:=1) rfl),_,rfl,tl,_,rfl,.inl (SqL.of (e1 _ _ htl)),rfl,qDs _,?_⟩;rw[show(if false=true then !inV (V.str a) ((net.map (·.1)).map V.str) else inV (V.str a) ((net.map (·.1)).map V.str))=decide (a∈net.map (·.1)) from qFe a _];refine⟨_,rfl,st,_,_,.str w0,rfl,rfl,SqT.of hst1,(by exact qAv (j:=0) rfl),rfl,rfl,_,rfl,?_⟩;have key:(decide (a∈net.map (·.1))=!decide (V.str w0=V.str "lay"))↔(a∈net.map (·.1)↔w0≠"lay"):=by
   by_cases m:a∈net.map (·.1)
   ·by_cases e:w0 = "lay"
    ·rw[hDp m,hDp (congrArg V.str e)];exact⟨λz=>(by cases z),λz=>absurd e (z.mp m)⟩
    ·rw[hDp m,hDr (λy=>e (V.str.inj y))];exact⟨λ_=>⟨λ_=>e,λ_=>m⟩,λ_=>rfl⟩
   ·by_cases e:w0 = "lay"
    ·rw[hDr m,hDp (congrArg V.str e)];exact⟨λ_=>⟨λz=>absurd z m,λz=>absurd e z⟩,λ_=>rfl⟩
    ·rw[hDr m,hDr (λy=>e (V.str.inj y))];exact⟨λz=>(by cases z),λz=>absurd (z.mpr e) m⟩
  refine qB1 (λc=>?_) (λc=>?_)
  ·refine⟨_,rfl,(by show 2<=sizeLine;decide),λT hT=>no H1 e1 ?_ T hT⟩;rintro⟨a',e,_,k⟩;cases e;rw[hDp (congrArg V.bl (key.mpr k))]at c;cases c
  ·refine q H1 e1 ⟨w0,a,r,rfl,hb,key.mp ?_⟩;by_cases z:decide (a∈net.map (·.1))=!decide (V.str w0=V.str "lay")
   ·exact z
   ·exact absurd (show(!decide (V.bl (decide (a∈net.map (·.1)))=V.bl (!decide (V.str w0=V.str "lay"))))=true by rw[hDr (λy=>z (V.bl.inj y))];rfl) c
end
def tU2(K:PySem.W.Frag):TS:=λD σ H=>∃(p st tl:Addr) (net:List Tr) (w0 a:Str) (r:List V),σ=USt p st (some (.ref tl)) none none none none none none none none/\UI K H p st net (.str w0 :: .str a :: r)/\∀rt H',Ext H H'->H rt=none->qA5 H' rt (qE2 net a)->D.nx (USt p st (some (.ref tl)) (some (.ref rt)) none none none none none none none) H'
section
variable{P:Program}{w:World}{K:PySem.W.Frag}{mg:Str->Option Value}{base:Heap}{f f1 f2:Addr}{fd fd1 fd2:FuncData}{cdv:Value}{A:Around}{outer:List Env}{s:Shared}{H0:Hp}{E:XK}
theorem us2:PSx (UX P w K mg base f cdv A outer s H0 E) (uS 2) (tU2 K):=by
 refine qBy ⟨qXg (i:=3) (N:=duN) (sc:=qAa qOr) (N':=["_law_tie","_law_deed_here"]) (sub:=[none,some 1]) rfl rfl (CmpOk.of (by decide +kernel)) rfl (qAx (pv 0)) (λC s H fp=>⟨qAh (i:=0) (by show(["_law_tie","_law_deed_here"]:List Str).Nodup;decide) rfl (Or.inl rfl),qC2 (qAm qEe (qA6 (show IxR _ (qLx K) from qA7) (pv 0) qAc (λ_ _=>rfl)) (qA6 (show IxR _ (qLx K) from qA7) (pv 1) qAc (λ_ _=>rfl)) (qAu _)),pv 0⟩) qHh.nd rfl (Or.inl rfl)⟩ ?_;rintro D σ H ⟨p,st,tl,net,w0,a,r,rfl,ui,q⟩;obtain⟨as,hp,pr⟩:=ui.nt;have la:as.length=net.length:=pr.length;have l12:=ui.l12;have hst:=ui.da.at_;refine⟨_,rfl,p,rfl,⟨_,SqL.of hp⟩,?_⟩;refine qA1 (xs:=as.map V.ref) (λi ys H'=>H'=H/\∃bs:List Addr,ys=bs.map V.ref/\bs.length<=i/\Paired (λu t=>H u=some (.tup (trV t))) bs (qE2 (net.take i) a)) ⟨rfl,[],rfl,hA3 _,.nil⟩ (λi ys H' _ h=>by rw[h.1];exact SqL.of hp) ?_ ?_
 ·rintro i y ys H' hy ⟨rfl,bs,rfl,lb,pb⟩;have hi:=(hAc.mp hy).1;rw[hA1]at hi;obtain⟨u,t,rfl,ht,hu⟩:=qDc pr hy;refine⟨sls,_,rfl,u,_,_,_,rfl,rfl,SqT.of hu,(by exact qAv (j:=0) rfl),_,rfl,st,_,_,.str a,rfl,rfl,SqT.of hst,(by exact qAv (j:=1) rfl),rfl,_,rfl,?_⟩;refine qB1 (λc2=>⟨_,rfl,?_,nxt (by rw[hA1];exact hi) ⟨rfl,bs++[u],by rw[hA7];rfl,by rw[hAd];exact hDe lb 1,?_⟩⟩) (λc2=>nxt (by rw[hA1];exact hi) ⟨rfl,bs,rfl,by omega,?_⟩)
  ·rw[hA1];exact qAf (by omega)
  ·have ne:t.1≠a:=λz=>by rw[z]at c2;simp at c2
   show Paired _ _ (qE2 (net.take (i+1)) a);unfold qE2 at pb ⊢;rw[qKg ht (by rw[hDr ne];rfl)];exact Paired.snoc pb hu
  ·have eq:t.1=a:=by
    by_cases z:t.1=a
    ·exact z
    ·exact absurd (show(!decide (V.str t.1=V.str a))=true by rw[hDr (λy=>z (V.str.inj y))];rfl) c2
   show Paired _ _ (qE2 (net.take (i+1)) a);unfold qE2 at pb ⊢;rw[qKh ht (by rw[hDp eq];rfl)];exact pb
 ·rintro ys H' ⟨rfl,bs,rfl,lb,pb⟩ rt hr';rw[hA1,la,hA9 (hA3 _)]at pb;exact q rt _ (Ext.new hr' _) hr' ⟨bs,upd_same,Paired.mapP pb λu t z=>Ext.new hr' _ _ _ z⟩
def tU3(K:PySem.W.Frag):TS:=λD σ H=>∃(p st tl rt:Addr) (net:List Tr) (w0 a:Str) (r:List V),σ=USt p st (some (.ref tl)) (some (.ref rt)) none none none none none none none/\UI K H p st net (.str w0 :: .str a :: r)/\(a∈net.map (·.1)↔w0≠"lay")/\qA5 H rt (qE2 net a)/\qPg H net (.str w0 :: .str a :: r) D.rt/\(w0≠"take"->D.nx σ H)
theorem us3:PSx (UX P w K mg base f cdv A outer s H0 E) (uS 3) (tU3 K):=by
 refine qBy ⟨qBl (qAm qDb (qA6 qA7 (pv 1) qAc (λ_ _=>rfl)) qA9 (qAu _)) (qAe (qAo (qBk (qJy qA9 (qD4 (pv 3) qAs))))) qAw⟩ ?_;rintro D σ H ⟨p,st,tl,rt,net,w0,a,r,rfl,ui,iff,nr,td,q⟩;have hst:=ui.da.at_;refine⟨_,rfl,st,_,_,.str w0,rfl,rfl,SqT.of hst,(by exact qAv (j:=0) rfl),rfl,_,rfl,qB1 (λc=>?_) (λc=>q λz=>c (hDp (congrArg V.str z)))⟩;have e:w0 = "take":=V.str.inj (hDs c);subst e;have m:a∈net.map (·.1):=iff.mpr (by decide +kernel);refine⟨_,rfl,(by show 2<=sizeLine;decide),λT hT=>td T rt "" (qE2 net a) _ (Ext.new hT _) upd_same (nr.ext (Ext.new hT _)) ?_⟩;rcases ui.fo with ⟨x,y,z,ey⟩|⟨x,ey⟩|⟨x,ey⟩
 ·exact absurd (V.str.inj (List.cons.inj ey).1) (by decide +kernel)
 ·cases ey;exact .inr (.inl ⟨_,rfl,.inr ⟨a,rfl,m,rfl,rfl⟩⟩)
 ·exact absurd (V.str.inj (List.cons.inj ey).1) (by decide +kernel)
end
def tU5(K:PySem.W.Frag):TS:=λD σ H=>∃(p st tl rt:Addr) (net:List Tr) (w0 a one other:Str) (r:List V),σ=USt p st (some (.ref tl)) (some (.ref rt)) none none none none none none none/\UI K H p st net (.str w0 :: .str a :: r)/\(a,one,other)∈net/\∀g H',Ext H H'->H' g=some (.tup (trV (a,one,other)))->D.nx (USt p st (some (.ref tl)) (some (.ref rt)) none none (some (.ref g)) none none none none) H'
section
variable{P:Program}{w:World}{K:PySem.W.Frag}{mg:Str->Option Value}{base:Heap}{f f1 f2:Addr}{fd fd1 fd2:FuncData}{cdv:Value}{A:Around}{outer:List Env}{s:Shared}{H0:Hp}{E:XK}
theorem us5:PSx (UX P w K mg base f cdv A outer s H0 E) (uS 5) (tU5 K):=by
 refine qBy ⟨qAn (i:=6) qHh.nd rfl (Or.inr rfl) (qA6 qBz (qCr (N:=duN) (sc:=qAa qOr) (N':=["_law_tie","_law_deed_here"]) (sub:=[none,some 1]) (qAx (pv 0)) (λC s H fp=>⟨qC2 (qAm qDb (qA6 (show IxR _ (qLx K) from qA7) (pv 0) qAc (λ_ _=>rfl)) (qA6 (show IxR _ (qLx K) from qA7) (pv 1) qAc (λ_ _=>rfl)) (qAu _)),pv 0⟩)) qAc (λ_ _=>rfl))⟩ ?_;rintro D σ H ⟨p,st,tl,rt,net,w0,a,one,other,r,rfl,ui,tm,q⟩;obtain⟨as,hp,pr⟩:=ui.nt;have la:as.length=net.length:=pr.length;have l12:=ui.l12;have hst:=ui.da.at_;have nd:=qDw ui.rs;refine⟨_,rfl,p,rfl,⟨_,SqL.of hp⟩,?_⟩;refine qA1 (xs:=as.map V.ref) (λi ys H'=>H'=H/\∃bs:List Addr,ys=bs.map V.ref/\bs.length<=i/\Paired (λu t=>H u=some (.tup (trV t))) bs ((net.take i).filter λt=>decide (t.1=a))) ⟨rfl,[],rfl,hA3 _,.nil⟩ (λi ys H' _ h=>by rw[h.1];exact SqL.of hp) ?_ ?_
 ·rintro i y ys H' hy ⟨rfl,bs,rfl,lb,pb⟩;have hi:=(hAc.mp hy).1;rw[hA1]at hi;obtain⟨u,t,rfl,ht,hu⟩:=qDc pr hy;refine⟨sls,_,rfl,u,_,_,_,rfl,rfl,SqT.of hu,(by exact qAv (j:=0) rfl),_,rfl,st,_,_,.str a,rfl,rfl,SqT.of hst,(by exact qAv (j:=1) rfl),rfl,_,rfl,?_⟩;refine qB1 (λc2=>⟨_,rfl,?_,nxt (by rw[hA1];exact hi) ⟨rfl,bs++[u],by rw[hA7];rfl,by rw[hAd];exact hDe lb 1,?_⟩⟩) (λc2=>nxt (by rw[hA1];exact hi) ⟨rfl,bs,rfl,by omega,?_⟩)
  ·rw[hA1];exact qAf (by omega)
  ·have eq:t.1=a:=V.str.inj (hDs c2);rw[qKg ht (hDp eq)];exact Paired.snoc pb hu
  ·have ne:¬t.1=a:=λz=>c2 (hDp (congrArg V.str z))
   rw[qKh ht (hDr ne)];exact pb
 ·rintro ys H' ⟨rfl,bs,rfl,lb,pb⟩ gl hgl;rw[hA1,la,hA9 (hA3 _),qEw nd tm]at pb;cases pb with
  |cons h1 h2 =>
   cases h2;exact⟨gl,_,_,.ref _,rfl,rfl,SqL.of upd_same,(by exact qAv (j:=0) rfl),q _ _ (Ext.new hgl _) (Ext.new hgl _ _ _ h1)⟩
end
def tU6:TS:=λD σ H=>∃(p st tl rt g:Addr),σ=USt p st (some (.ref tl)) (some (.ref rt)) none none (some (.ref g)) none none none none/\∀fo,H fo=none->D.nx (USt p st (some (.ref tl)) (some (.ref rt)) none none (some (.ref g)) (some (.ref fo)) none none none) (upd H fo (.lst []))
def tU7:TS:=λD σ H=>∃(p st tl rt g fo:Addr) (rest:List Tr) (a one other:Str) (H1:Hp),σ=USt p st (some (.ref tl)) (some (.ref rt)) none none (some (.ref g)) (some (.ref fo)) none none none/\qA5 H1 rt rest/\rest.length<=12/\H1 g=some (.tup (trV (a,one,other)))/\H1 fo=none/\H=upd H1 fo (.lst []) /\
 ∀x8 x9 x10 H',Ext H1 H'->qA5 H' fo (rest.map (zAe one other))->D.nx (USt p st (some (.ref tl)) (some (.ref rt)) none none (some (.ref g)) (some (.ref fo)) x8 x9 x10) H'
def tU8:TS:=λD σ H=>∃(x0 x1 x2 x3 x4 x5 x6 x8 x9 x10:Option V) (fo:Addr),σ=[x0,x1,x2,x3,x4,x5,x6,some (.ref fo),x8,x9,x10]/\∀T,H T=none->D.rt (.ref T) (upd H T (.tup [.str "",.ref fo]))
theorem qNd{x y b c:Str}(p:[x,y].Perm [b,c])(s:PyProof.Rows.sortedS [x,y]=true):x=mnS b c/\y=mxS b c:=by
 have le:=zD6 s;unfold leB at le;have nlt:¬y.cps.toList<x.cps.toList:=λz=>by rw[hDp z]at le;cases le
 unfold mnS mxS;rcases perm2 p with ⟨rfl,rfl⟩|⟨rfl,rfl⟩
 ·rw[hDt nlt];by_cases q:x.cps.toList<y.cps.toList
  ·rw[hDu q];exact⟨rfl,rfl⟩
  ·rw[hDt q];have:x.cps.toList=y.cps.toList:=List.le_antisymm (List.not_lt.mp nlt) (List.not_lt.mp q);have e:x=y:=by
    cases x;cases y;exact congrArg Str.mk (hDi.mp this)
   exact⟨rfl,e.symm▸rfl⟩
 ·rw[hDt nlt];by_cases q:x.cps.toList<y.cps.toList
  ·rw[hDu q];exact⟨rfl,rfl⟩
  ·rw[hDt q];have:x.cps.toList=y.cps.toList:=List.le_antisymm (List.not_lt.mp nlt) (List.not_lt.mp q);have e:x=y:=by
    cases x;cases y;exact congrArg Str.mk (hDi.mp this)
   exact⟨e,e▸rfl⟩
section
variable{P:Program}{w:World}{K:PySem.W.Frag}{mg:Str->Option Value}{base:Heap}{f f1 f2:Addr}{fd fd1 fd2:FuncData}{cdv:Value}{A:Around}{outer:List Env}{s:Shared}{H0:Hp}{E:XK}
theorem us6:PSx (UX P w K mg base f cdv A outer s H0 E) (uS 6) tU6:=by
 refine qBy ⟨qAn (i:=7) qHh.nd rfl (Or.inl rfl) (qB9 qAs)⟩ ?_;rintro D σ H ⟨p,st,tl,rt,g,rfl,q⟩;exact⟨hAq _,λfo hfo=>q fo hfo⟩
theorem us8:PSx (UX P w K mg base f cdv A outer s H0 E) (uS 8) tU8:=by
 refine qBy ⟨qAo (qBk (qJy qA9 (qD4 (pv 7) qAs)))⟩ ?_;rintro D σ H ⟨x0,x1,x2,x3,x4,x5,x6,x8,x9,x10,fo,rfl,q⟩;exact⟨_,rfl,(by show 2<=sizeLine;decide),q⟩
def qV8(one other x:Str):Str:=if other=x then one else x
theorem us7(mso:mg "sorted"=none)(mtu:mg "tuple"=none):PSx (UX P w K mg base f cdv A outer s H0 E) (uS 7) tU7:=by
 refine qBy ⟨qCp PassesOwn.never rfl (qAx (pv 3)) (qCe rfl (qAi (v4 8 qHh) (qAi (v4 9 qHh) (qAi (v4 10 qHh) qBj))))
   (qAe (qCa (qEm hAu hB6 hB7 qBt (pv 7) (zCo (qAl qL1 (qBk (qD4 (pv 8) qAs))
    (qBf qDg rfl mtu qCb (pa1 (qAg qFo rfl mso qBa (qAd
     (qCr (N:=duN) (sc:=qAa qOr) (N':=["_law_end","_law_gone"]) (sub:=[none,some 6]) (qJv (qBk (qD4 (pv 9) (qD4 (pv 10) qAs)))) (λC s H fp=>⟨qA4,qDy (qAm qDb (pv 0) (qA6 (show IxR _ (qLx K) from qA7) (pv 1) qAc (λ_ _=>rfl)) (qAu _)) (qA6 (show IxR _ (qLx K) from qA7) (pv 1) qAc (λ_ _=>rfl)) (pv 0)⟩)) qAs))))) qAs))))⟩ ?_
 rintro D σ H ⟨p,st,tl,rt,g,fo,rest,a,one,other,H1,rfl,nt,l12,hg,hfo,rfl,q⟩;obtain⟨as,hp,pr⟩:=id nt;have la:as.length=rest.length:=pr.length;have X0:=Ext.new hfo (.lst []);refine⟨_,rfl,rt,rfl,⟨_,SqL.of (X0 _ _ hp)⟩,?_⟩;refine qCx (xs:=as.map V.ref) (λi σ H3=>∃(x8 x9 x10:Option V),σ=USt p st (some (.ref tl)) (some (.ref rt)) none none (some (.ref g)) (some (.ref fo)) x8 x9 x10/\Ext H1 H3/\qA5 H3 fo ((rest.take i).map (zAe one other))) ⟨_,_,_,rfl,X0,⟨[],upd_same,.nil⟩⟩ ?_ ?_ ?_
 ·rintro i σ H3 _ ⟨_,_,_,_,e3,_⟩;exact SqL.of (e3 _ _ hp)
 ·rintro i x σ H3 hx ⟨x8,x9,x10,rfl,e3,nt3⟩;obtain⟨u,t,rfl,ht,hu⟩:=qDc pr hx;have hi:=qBq ht;obtain⟨bs,hb1,hb2⟩:=id nt3;have lb:bs.length=_:=hb2.length;rw[hA1,hAn]at lb;refine⟨u,_,rfl,SqT.of (e3 _ _ hu),rfl,_,_,rfl,_,_,rfl,_,_,rfl,rfl,?_⟩;refine⟨_,rfl,.inl ⟨rfl,_,SqL.of hb1⟩,_,rfl,(by show 1<=sizeLine;decide),λT1 hT1=>?_⟩;have Y1:=Ext.new hT1 (.tup [V.str t.1]);refine⟨_,rfl,_,rfl,(by show 2<=sizeLine;decide),λT hT=>⟨T,rfl,⟨_,SqT.of upd_same⟩,?_⟩⟩;have Y2:=Y1.trans (Ext.new hT (.tup [V.str t.2.1,V.str t.2.2]));have hg2:=Y2 _ _ (e3 _ _ hg);have hT1':=(Ext.new hT (.tup [V.str t.2.1,V.str t.2.2])) _ _ (upd_same (H:=H3) (a:=T1) (o:=.tup [V.str t.1]));have hT':(upd (upd H3 T1 (.tup [V.str t.1])) T (.tup [V.str t.2.1,V.str t.2.2])) T=some (.tup [V.str t.2.1,V.str t.2.2]):=upd_same;revert Y2 hg2 hT1' hT';generalize upd (upd H3 T1 (.tup [V.str t.1])) T (.tup [V.str t.2.1,V.str t.2.2])=H5;intro Y2 hg2 hT1' hT';refine qE3 (xs:=[V.str t.2.1,V.str t.2.2]) (λj ys H2=>H2=H5/\ys=(([t.2.1,t.2.2]:List Str).take j).map λx=>V.str (qV8 one other x)) ⟨rfl,rfl⟩ (λj ys H2 _ h=>by rw[h.1];exact SqT.of hT') ?_ ?_
  ·rintro j y ys H2 hy ⟨rfl,rfl⟩;have hj:j<2:=qBq hy;obtain⟨z,rfl,hz⟩:∃z:Str,y = .str z/\([t.2.1,t.2.2]:List Str).take (j+1)=([t.2.1,t.2.2]:List Str).take j++[z]:=by
    rcases(show j=0\/j=1 by omega) with rfl|rfl
    ·cases hAr hy;exact⟨_,rfl,rfl⟩
    ·cases hAr hy;exact⟨_,rfl,rfl⟩
   have ll:((([t.2.1,t.2.2]:List Str).take j).map λx=>V.str (qV8 one other x)).length<sizeLine:=by
    rw[hA1,hAn];exact qAf (by show min j 2<=1000;omega)
   refine⟨sls,iteT (B:=False) ?_⟩;refine⟨_,rfl,_,rfl,g,_,_,.str other,rfl,rfl,SqT.of hg2,(by exact qAv (j:=2) rfl),rfl,_,rfl,?_⟩;refine qB1 (λc=>?_) (λc=>?_)
   ·have c':z=other:=V.str.inj (hDs c);refine⟨_,rfl,g,_,_,.str one,rfl,rfl,SqT.of hg2,(by exact qAv (j:=1) rfl),ll,nxt hj ⟨rfl,?_⟩⟩;rw[hz,hA7,hBc];unfold qV8;rw[hDu c'.symm]
   ·have c':¬other=z:=λy=>c (hDp (congrArg V.str y.symm))
    refine⟨_,rfl,ll,nxt hj ⟨rfl,?_⟩⟩;rw[hz,hA7,hBc];unfold qV8;rw[hDt c']
  ·rintro ys H2 ⟨rfl,rfl⟩ L hL;have Z1:=Ext.new hL (.lst (([qV8 one other t.2.1,qV8 one other t.2.2]:List Str).map V.str));refine⟨L,[qV8 one other t.2.1,qV8 one other t.2.2],rfl,SqL.of upd_same,(by show 2<64;decide),λS ss hS perm srt=>?_⟩;have Z2:=Z1.trans (Ext.new hS (.lst (ss.map V.str)));refine⟨S,_,rfl,.inl ⟨SqL.of upd_same,λT2 hT2=>?_⟩⟩;have lss:ss.length=2:=perm.length_eq;obtain⟨x,y,rfl⟩:∃x y,ss=[x,y]:=by
    match ss,lss with
    |[x,y],_=>exact⟨x,y,rfl⟩
   have Z3:=Z2.trans (Ext.new hT2 (.tup ([x,y].map V.str)));refine⟨T1,T2,_,_,rfl,rfl,SqT.of (Z3 _ _ hT1'),SqT.of upd_same,(by simp),(by show 3<=sizeLine;decide),(λz=>by cases z),λ_ T3 hT3=>?_⟩;obtain⟨rfl,rfl⟩:=qNd perm srt;have Z4:=Z3.trans (Ext.new hT3 (.tup (trV (zAe one other t))));refine⟨fo,_,_,rfl,rfl,(Y2.trans Z4) _ _ hb1,by rw[hA1];exact qAf (by omega),?_⟩;refine⟨_,_,_,rfl,(e3.trans (Y2.trans Z4)).over hfo _,?_⟩;rw[qAr ht,hA7];exact qA5.snoc hb1 hb2 (Y2.trans Z4) upd_same
 ·rintro σ H3 ⟨x8,x9,x10,rfl,e3,nt3⟩;rw[hA1,la,hA9 (hA3 _)]at nt3;exact q _ _ _ H3 e3 nt3
end
end My
namespace L2
open PySem PySem.Spec PyProof.Rows
section
variable{P:Program}{w:World}{A:Around}{E:Value->Shared->Prop}{s:Shared}{a:Addr}{vs:List Value}
theorem qMg{o:Obj}{n:Nat}(ho:s.heap.get? a=some o)(hc:o.cls = .type "tuple")(hd:o.data = .seq vs.toArray n)(hz:vs.length<=sizeLine)
  (h:∀h1:Heap,(∀b u,s.heap.get? b=some u->h1.get? b=some u)->s.heap.objs.size<=h1.objs.size->Q vs { s with heap:=h1 }):wpAny (model P w) A (collect (.ref a)) Q E s:=by
 unfold collect;refine hDo (hEz (hE1 PySem.F.entry_proto_collect ?_));rw[Around.under_plainId PySem.F.plain_proto_collect _];show wpAny _ A.in1 (newList [] >>= λl=>again (.builtin "list.__iadd__" ⟨[l,.ref a],[]⟩)) _ _ _;refine hDo (hDw ?_);refine hDq ⟨hEg hD0 _,hE1 PySem.F.entry_list_iadd ?_⟩;rw[Around.under_plainId hD0 _];have hL:(s.heap.push (seqObj "list" #[] 0)).get? s.heap.objs.size=some (seqObj "list" #[] 0):=Heap.get?_push_size _ rfl;have hL2:=get?_update_seq hL (·++vs.toArray);have cl:wpAny (model P w) A (do
   let u ← load s.heap.objs.size
   match u.data with
   |.seq xs _=>pure xs.toList
   |_=>unsupported "internal:collect") Q E { s with heap:=(s.heap.push (seqObj "list" #[] 0)).update s.heap.objs.size (Obj.mapSeq (·++vs.toArray)) }:=by
  refine hDo (wpAny_load hL2 ?_);show wpAny _ _ (pure ((#[]:Array Value)++vs.toArray).toList) Q E _;rw[show((#[]:Array Value)++vs.toArray).toList=vs by simp];refine hDq (h _ (λb u e=>?_) ?_)
  ·rw[Heap.get?_update_ne _ _ _ _ (hAi (Heap.lt_size e))];exact Heap.get?_push_of_some _ e
  ·rw[Heap.size_update,hEv];exact hAy _
 refine hDz (wpAny_extend_seq (A:=A) (R:=λr s'=>r = .ok (.ret (.ref s.heap.objs.size))/\s'={ s with heap:=(s.heap.push (seqObj "list" #[] 0)).update s.heap.objs.size (Obj.mapSeq (·++vs.toArray)) })
  (s:={ s with heap:=s.heap.push (seqObj "list" #[] 0) }) s.heap.objs.size a _ 0 (.inr rfl) hL (Heap.get?_push_of_some _ ho) hc hd ⟨rfl,rfl⟩ (by rw[hAf];exact hz)) (λfin s' z=>?_) (λe s' z=>absurd z.1 (by simp))
 cases fin with
 |done f =>
  obtain⟨e,rfl⟩:=z;cases e;exact cl
 |again c=>exact⟨z.1,hEl z.2 λr t q=>by obtain⟨rfl,rfl⟩:=q;exact cl⟩
end
section
variable{X:Cx}
theorem qJc:qB2 X (.builtin "sorted") (λxs H Q=>∃(p:Addr) (ss:List Str),xs=[.ref p]/\SqT X.K H p (ss.map V.str)/\ss.length<64/\∀(r:Addr) (ss':List Str),H r=none->ss'.Perm ss->sortedS ss'=true->Q (.ref r) (upd H r (.lst (ss'.map V.str)))):=by
 intro aB s σ H xs us Q I r h;obtain⟨p,ss,rfl,hp,h64,q⟩:=h;obtain⟨u,rfl,rx⟩:=qCw r;cases rx;obtain⟨its,rv,⟨o,ho,hc,n,hd⟩,hz⟩:=I.tuple hp;have hl:=rv.length;rw[hA1]at hl hz;have a1:=qCo rv;refine Calls.call_function_entry kind_sorted plain_sorted entry_sorted (args_sorted1 _) ?_;unfold Builtin.«sorted»;refine hDo (m:=checkCount "sorted" 1 1 _) (hDq (hDo (qMg ho hc hd (by omega) λh1 a3 a4=>?_)));have hl64:its.length<64:=by omega
 refine hDo (hEh ?_ (by have:sizeLine > 64:=(by decide);omega));have hoL:(h1.push (seqObj "list" its.toArray 0)).get? h1.objs.size=some (seqObj "list" its.toArray 0):=Heap.get?_push_size _ rfl;refine hDo (hDv (hDx slot_list_sort ⟨_,hoL,rfl⟩ entry_list_sort (list_sort_treeK strKind_oneLt hoL a1.keysOf (λv1 v2 rest e=>keyKind_strs (by rw[<-e];exact a1)) hl64 λst' b1 b2=>⟨_,rfl,?_⟩) (hF2 _)));obtain⟨ss',c1,c2,c3⟩:=sorted_out_str a1 b1 b2;refine hDq ⟨_,rfl,?_⟩;have nz:H h1.objs.size=none:=I.hok.fresh a4;obtain⟨e,he⟩:=sortedHeap_at (out:=(arrOf st').map (·.2)) hoL;refine⟨.ref h1.objs.size,_,I.turnedT (t':=s.toks) (d':=s.drawn) (ch:=[]) (a:=h1.objs.size) (o:=.lst (ss'.map V.str)) (λb o _ eb=>?_) (λb z=>nomatch z) a4 ?_,rfl,q _ ss' nz c2 c3⟩
 ·have e1:=a3 b o eb;have lt:=Heap.lt_size e1;rw[sortedHeap_old (hAi lt) (by rw[hEv];exact hB2 lt)];exact Heap.get?_push_of_some _ e1
 ·refine⟨?_,((arrOf st').map (·.2)).toList,e,qFb c1,he⟩;rw[hA1,c2.length_eq];exact hAz (qAf (by omega))
end
end L2
namespace My
open PySem L2
def uL(i:Nat):Stmt:=match uS 4 with
 |.If _ b _ _=>b.getD i (.Pass ⟨0,0,0,0⟩)
 |_=>.Pass ⟨0,0,0,0⟩
structure UL(K:PySem.W.Frag)(H:Hp)(p st:Addr)(net:List Tr)(a:Str)(y z:V):Prop where
 ui:UI K H p st net [.str "lay",.str a,y,z]
 n1:qBg a=true
 no:a∉net.map (·.1)
def tL0(K:PySem.W.Frag):TS:=λD σ H=>∃(p st tl rt:Addr) (net:List Tr) (a:Str) (y z:V),σ=USt p st (some (.ref tl)) (some (.ref rt)) none none none none none none none/\UL K H p st net a y z/\qPg H net [.str "lay",.str a,y,z] D.rt/\∀b c H',Ext H H'->y = .str b->z = .str c->qBg b=true->qBg c=true->D.nx σ H'
def tL1(K:PySem.W.Frag):TS:=λD σ H=>∃(p st tl rt:Addr) (net:List Tr) (a b c:Str),σ=USt p st (some (.ref tl)) (some (.ref rt)) none none none none none none none/\UL K H p st net a (.str b) (.str c)/\∀m n2 H',Ext H H'->qA5 H' m n2->qWk net n2 (a,mnS b c,mxS b c)->D.nx (USt p st (some (.ref tl)) (some (.ref rt)) (some (.ref m)) none none none none none none) H'
def tL2:TS:=λD σ H=>∃(p st tl rt m:Addr) (n2:List Tr),σ=USt p st (some (.ref tl)) (some (.ref rt)) (some (.ref m)) none none none none none none/\qA5 H m n2/\n2.length<=13/\∀(k:Nat) H',Ext H H'->k+(qCc n2).length=n2.length->D.nx (USt p st (some (.ref tl)) (some (.ref rt)) (some (.ref m)) (some (.int k)) none none none none none) H'
def tL3(K:PySem.W.Frag):TS:=λD σ H=>∃(p st tl rt m:Addr) (k:Nat) (net n2:List Tr) (ys:List V),σ=USt p st (some (.ref tl)) (some (.ref rt)) (some (.ref m)) (some (.int k)) none none none none none/\UI K H p st net ys/\qA5 H m n2/\k+(qCc n2).length=n2.length/\(¬qN9 n2->∀T,H T=none->D.rt (.ref T) (upd H T (.tup [.str "TooMany",.ref p])))/\(qN9 n2->D.nx σ H)
def tL4:TS:=λD σ H=>∃(p st tl rt m:Addr) (k:Nat),σ=USt p st (some (.ref tl)) (some (.ref rt)) (some (.ref m)) (some (.int k)) none none none none none/\∀T,H T=none->D.rt (.ref T) (upd H T (.tup [.str "",.ref m]))
section
variable{P:Program}{w:World}{K:PySem.W.Frag}{mg:Str->Option Value}{base:Heap}{f f1 f2:Addr}{fd fd1 fd2:FuncData}{cdv:Value}{A:Around}{outer:List Env}{s:Shared}{H0:Hp}{E:XK}
theorem ul0(hr:Room 1 (UX P w K mg base f cdv A outer s H0 E).A)(G1:v8 1 f1 fd1 ["_law_word_here"] (qQa K) "_law_is_name"):PSx (UX P w K mg base f cdv A outer s H0 E) (uL 0) (tL0 K):=by
 refine qBy ⟨qBl (PW.pt (qD3 (qB0 (qBr (qA0 G1 hr rfl .nil qA2 (zA5 (qA6 qA7 (pv 1) qAc (λ_ _=>rfl)) qAs))))
   (qDi (qB0 (qBr (qA0 G1 hr rfl .nil qA2 (zA5 (qA6 qA7 (pv 1) qAc (λ_ _=>rfl)) qAs)))))))
   (qAe (qAo (qBk (qJy qA9 (qD4 (pv 0) qAs))))) qAw⟩ ?_
 rintro D σ H ⟨p,st,tl,rt,net,a,y,z,rfl,ul,td,q⟩;have hst:=ul.ui.da.at_;obtain⟨Dy,iy⟩:=ul.ui.da.it y (by simp);obtain⟨Dz,iz⟩:=ul.ui.da.it z (by simp);have no:∀H1,Ext H H1->(nmV y && nmV z)=false->∀T,H1 T=none->D.rt (.ref T) (upd H1 T (.tup [.str "NoTie",.ref p])):=λH1 e h T hT=>by
  refine td T p "NoTie" net _ (e.trans (Ext.new hT _)) upd_same (ul.ui.nt.ext (e.trans (Ext.new hT _))) (.inl ⟨_,_,_,rfl,.inl ⟨?_,rfl,rfl⟩⟩);rintro⟨t,a',b,c,_,rfl,rfl,_,n2,n3,_⟩;rw[show nmV (.str b)=qBg b from rfl,show nmV (.str c)=qBg c from rfl,n2,n3]at h;cases h
 refine⟨_,rfl,st,_,_,y,rfl,rfl,SqT.of hst,(by exact qAv (j:=2) rfl),y,Dy,rfl,iy,λH1 e1=>⟨nmV y,rfl,?_⟩⟩;cases hb:nmV y with
 |false=>exact iteT ⟨_,rfl,(by show 2<=sizeLine;decide),λT hT=>no H1 e1 (by rw[hb];rfl) T hT⟩
 |true =>
  obtain⟨b,rfl⟩:=qCt hb;refine qGz ?_;have hst1:=e1 _ _ hst;refine⟨_,rfl,st,_,_,z,rfl,rfl,SqT.of hst1,(by exact qAv (j:=3) rfl),z,Dz,rfl,iz.ext e1,λH2 e2=>⟨nmV z,rfl,?_⟩⟩;cases hc:nmV z with
  |false=>exact iteT ⟨_,rfl,(by show 2<=sizeLine;decide),λT hT=>no H2 (e1.trans e2) (by rw[hc,Bool.and_false]) T hT⟩
  |true =>
   obtain⟨c,rfl⟩:=qCt hc;exact qGz (q b c H2 (e1.trans e2) rfl rfl hb hc)
theorem ul1(mso:mg "sorted"=none)(mtu:mg "tuple"=none):PSx (UX P w K mg base f cdv A outer s H0 E) (uL 1) (tL1 K):=by
 refine qBy ⟨qAn (i:=4) qHh.nd rfl (Or.inl rfl) (qAg qDh rfl mso qBa (zCo (qAl qHu (pv 0) (qB9 (zCo (qAl qL1 (qBk (zA5 (qA6 qA7 (pv 1) qAc (λ_ _=>rfl)) qAs))
   (qBf qDg rfl mtu qCb (pa1 (qAg qJc rfl mso qBa (zA5 (qFx zAd (pv 1) (qIr qAc) qIs) qAs))))) qAs))) qAs))⟩ ?_
 rintro D σ H ⟨p,st,tl,rt,net,a,b,c,rfl,ul,q⟩;have hst:=ul.ui.da.at_;obtain⟨as,hp,pr⟩:=ul.ui.nt;have la:as.length=net.length:=pr.length;have l12:=ul.ui.l12;refine⟨_,rfl,_,rfl,st,_,_,.str a,rfl,rfl,SqT.of hst,(by exact qAv (j:=1) rfl),(by show 1<=sizeLine;decide),λT1 hT1=>?_⟩;have Y1:=Ext.new hT1 (.tup [V.str a]);refine⟨_,rfl,⟨2,rfl,st,_,rfl,SqT.of (Y1 _ _ hst),(by show ¬(HT.sIx 4 0 (some 2)=0/\HT.sIx 4 4 none=4);decide),λT2 hT2=>?_⟩⟩;have Y2:=Y1.trans (Ext.new hT2 (.tup [V.str b,V.str c]));refine⟨T2,[b,c],rfl,SqT.of upd_same,(by show 2<64;decide),λS ss hS perm srt=>?_⟩;have Y3:=Y2.trans (Ext.new hS (.lst (ss.map V.str)));refine⟨S,_,rfl,.inl ⟨SqL.of upd_same,λT3 hT3=>?_⟩⟩;have Y4:=Y3.trans (Ext.new hT3 (.tup (ss.map V.str)));have lss:ss.length=2:=perm.length_eq;obtain⟨x,y,rfl⟩:∃x y,ss=[x,y]:=by
  match ss,lss with
  |[x,y],_=>exact⟨x,y,rfl⟩
 obtain⟨rfl,rfl⟩:=qNd perm srt;have t1:=(Ext.new hT3 (.tup ([mnS b c,mxS b c].map V.str))) _ _ ((Ext.new hS (.lst ([mnS b c,mxS b c].map V.str))) _ _ ((Ext.new hT2 (.tup [V.str b,V.str c])) _ _ (upd_same (H:=H) (a:=T1) (o:=.tup [V.str a]))));refine⟨T1,T3,_,_,rfl,rfl,SqT.of t1,SqT.of upd_same,(by simp),(by show 3<=sizeLine;decide),(λz=>by cases z),λ_ T4 hT4=>⟨(by show 1<=sizeLine;decide),λL hL=>?_⟩⟩;have Y5:=Y4.trans (Ext.new hT4 (.tup ([V.str a]++([mnS b c,mxS b c]:List Str).map V.str)));have Z2:=Ext.new hL (.lst [V.ref T4]);refine⟨p,L,_,_,rfl,rfl,(Y5.trans Z2) _ _ hp,upd_same,?_,λS2 hS2=>?_⟩
 ·rw[hA1];exact hAz (qAf (by show as.length+1<=1000;omega))
 have Z3:=Ext.new hS2 (.lst (as.map V.ref++[V.ref T4]));have X4:=Y5.trans (Z2.trans Z3);have h4:=(Z2.trans Z3) _ _ (upd_same (H:=upd (upd (upd (upd H T1 (.tup [V.str a])) T2 (.tup [V.str b,V.str c])) S (.lst ([mnS b c,mxS b c].map V.str))) T3 (.tup ([mnS b c,mxS b c].map V.str))) (a:=T4) (o:=.tup ([V.str a]++([mnS b c,mxS b c]:List Str).map V.str)));generalize hHH:upd _ S2 _=HH;have X4:Ext H HH:=by rw[<-hHH];exact X4
 have h4:HH T4=some (.tup (trV (a,mnS b c,mxS b c))):=by rw[<-hHH];exact h4
 have hS3:HH S2=some (.lst (as.map V.ref++[V.ref T4])):=by rw[<-hHH];exact upd_same
 have prS:Paired (λu t=>HH u=some (.tup (trV t))) (as++[T4]) (net++[(a,mnS b c,mxS b c)]):=Paired.app (Paired.mapP pr λu t z=>X4 _ _ z) (.cons h4 .nil);have ndS:((net++[(a,mnS b c,mxS b c)]).map (·.1)).Nodup:=by
  rw[hA7,hDa];refine⟨qDw ul.ui.rs,(by simp),λu hu v hv e=>?_⟩;rw[hBc,hAa]at hv;rw[e,hv]at hu;exact ul.no hu
 refine⟨S2,as++[T4],(net++[(a,mnS b c,mxS b c)]).map qFw,rfl,SqL.of (by rw[hA7];exact hS3),qHo prS,by rw[hAd];show as.length+1<64;omega,λr2 o r20 g sp=>?_⟩;obtain⟨net2,nt2,pm2,rs2⟩:=qHn prS ndS g sp r20;exact q r2 net2 _ (X4.trans (Ext.new r20 _)) nt2 ⟨pm2,rs2⟩
theorem ul2(hr:Room 1 (UX P w K mg base f cdv A outer s H0 E).A)(G2:v8 1 f2 fd2 ["_law_net_here"] qF5 "_law_even")(ml:mg "len"=none):PSx (UX P w K mg base f cdv A outer s H0 E) (uL 2) tL2:=by
 refine qBy ⟨qAn (i:=5) qHh.nd rfl (Or.inl rfl) (qAg qAt rfl ml hB1 (pa1 (qA0 G2 hr rfl .nil qA2 (qD4 (pv 4) qAs))))⟩ ?_;rintro D σ H ⟨p,st,tl,rt,m,n2,rfl,nt,l13,q⟩;refine⟨_,rfl,m,n2,rfl,nt,l13,λr F Kk ps H1 e1 r0 hF _ ei kl=>?_⟩;refine⟨r,_,rfl,.inl (SqL.of hF),?_⟩;have e2:=ei.len;rw[hA1];exact q F.length H1 e1 (by omega)
theorem ul3(ml:mg "len"=none):PSx (UX P w K mg base f cdv A outer s H0 E) (uL 3) (tL3 K):=by
 refine qBy ⟨qBl (PW.pt (qD3 (qAm qJ4 (qAg qAt rfl ml hB1 (qD4 (pv 4) qAs)) qAc (qAu _)) (qD3 (qAm qJ4 (pv 5) qAc (qAu _)) (qDi (qAm qJ4 (qAl qGq (qAg qAt rfl ml hB1 (qD4 (pv 4) qAs)) (pv 5)) qAc (qAu _))))))
   (qAe (qAo (qBk (qJy qA9 (qD4 (pv 0) qAs))))) qAw⟩ ?_
 rintro D σ H ⟨p,st,tl,rt,m,k,net,n2,ys,rfl,ui,nt,hk,qn,q⟩;obtain⟨as,hm,pr⟩:=nt;have la:as.length=n2.length:=pr.length;have bad:(¬qN9 n2)->zCm (qZx (qBi (tC (.str "TooMany")) (qBi (qZf 0) qPk))) D (USt p st (some (.ref tl)) (some (.ref rt)) (some (.ref m)) (some (.int k)) none none none none none) H:=λnb=>⟨_,rfl,(by show 2<=sizeLine;decide),λT hT=>qn nb T hT⟩
 refine⟨_,rfl,m,_,rfl,.inl (SqL.of hm),_,_,rfl,rfl,_,rfl,?_⟩;refine qB1 (λc=>?_) (λc=>?_)
 ·have c':(12:Int)<((as.map V.ref).length:Nat):=hDs c;rw[hA1]at c';exact bad λz=>absurd z.1 (by omega)
 have c':¬(12:Int)<((as.map V.ref).length:Nat):=λy=>c (hDp y)
 rw[hA1]at c';refine⟨_,rfl,_,_,rfl,rfl,_,rfl,?_⟩;refine qB1 (λd=>?_) (λd=>?_)
 ·have d':(8:Int)<(k:Int):=hDs d;exact bad λz=>absurd z.2.2 (by omega)
 have d':¬(8:Int)<(k:Int):=λy=>d (hDp y)
 refine⟨_,rfl,m,_,rfl,.inl (SqL.of hm),_,rfl,_,_,rfl,rfl,_,_,rfl,rfl,_,rfl,?_⟩;refine qB1 (λg=>?_) (λg=>?_)
 ·have g':(8:Int)<((as.map V.ref).length:Nat)-(k:Int):=hDs g;rw[hA1]at g';exact bad λz=>absurd z.2.1 (by omega)
 ·have g':¬(8:Int)<((as.map V.ref).length:Nat)-(k:Int):=λy=>g (hDp y)
  rw[hA1]at g';exact q ⟨by omega,by omega,by omega⟩
theorem ul4:PSx (UX P w K mg base f cdv A outer s H0 E) (uL 4) tL4:=by
 refine qBy ⟨qAo (qBk (qJy qA9 (qD4 (pv 4) qAs)))⟩ ?_;rintro D σ H ⟨p,st,tl,rt,m,k,rfl,q⟩;exact⟨_,rfl,(by show 2<=sizeLine;decide),q⟩
end
def tU4(K:PySem.W.Frag):TS:=λD σ H=>∃(p st tl rt:Addr) (net:List Tr) (w0 a:Str) (r:List V),σ=USt p st (some (.ref tl)) (some (.ref rt)) none none none none none none none/\UI K H p st net (.str w0 :: .str a :: r)/\qBg a=true/\(a∈net.map (·.1)↔w0≠"lay")/\qPg H net (.str w0 :: .str a :: r) D.rt/\(w0≠"lay"->D.nx σ H)
section
variable{P:Program}{w:World}{K:PySem.W.Frag}{mg:Str->Option Value}{base:Heap}{f f1 f2:Addr}{fd fd1 fd2:FuncData}{cdv:Value}{A:Around}{outer:List Env}{s:Shared}{H0:Hp}{E:XK}
theorem qZs:∃i1 i2 i3 i4 i5 q,uS 4 = .If (.Compare (.Subscript (.Name "_law_deed_here" i1) (.Constant (.int 0) 0 i2) i3) [.Eq] [.Constant (.str "lay") 0 i4] i5) [uL 0,uL 1,uL 2,uL 3,uL 4] [] q:=⟨_,_,_,_,_,_,rfl⟩
theorem us4(hr:Room 1 (UX P w K mg base f cdv A outer s H0 E).A)
  (G1:v8 1 f1 fd1 ["_law_word_here"] (qQa K) "_law_is_name")
  (G2:v8 1 f2 fd2 ["_law_net_here"] qF5 "_law_even")
  (ml:mg "len"=none) (mso:mg "sorted"=none) (mtu:mg "tuple"=none):PSx (UX P w K mg base f cdv A outer s H0 E) (uS 4) (tU4 K):=by
 obtain⟨i1,i2,i3,i4,i5,qq,e⟩:=qZs;rw[e];clear e;have r0:PSx (UX P w K mg base f cdv A outer s H0 E) (uL 0) (tL0 K):=ul0 hr G1;have r1:PSx (UX P w K mg base f cdv A outer s H0 E) (uL 1) (tL1 K):=ul1 mso mtu;have r2:PSx (UX P w K mg base f cdv A outer s H0 E) (uL 2) tL2:=ul2 hr G2 ml;have r3:PSx (UX P w K mg base f cdv A outer s H0 E) (uL 3) (tL3 K):=ul3 ml;have r4:PSx (UX P w K mg base f cdv A outer s H0 E) (uL 4) tL4:=ul4;have r5:PSsx (UX P w K mg base f cdv A outer s H0 E) [uL 0,uL 1,uL 2,uL 3,uL 4] (qK8 (tL0 K) (qK8 (tL1 K) (qK8 tL2 (qK8 (tL3 K) tL4)))):=qBv r0 (qBv r1 (qBv r2 (qBv r3 (qLy r4))));refine qBy ⟨qBl (qAm qDb (qA6 qA7 (pv 1) qAc (λ_ _=>rfl)) qA9 (qAu _)) r5.h qAw⟩ ?_;rintro D σ H ⟨p,st,tl,rt,net,w0,a,r,rfl,ui,n1,iff,td,q⟩;have hst:=ui.da.at_;refine⟨_,rfl,st,_,_,.str w0,rfl,rfl,SqT.of hst,(by exact qAv (j:=0) rfl),rfl,_,rfl,qB1 (λc=>?_) (λc=>q λz=>c (hDp (congrArg V.str z)))⟩;have e:w0 = "lay":=V.str.inj (hDs c);subst e;have no:a∉net.map (·.1):=λz=>iff.mp z rfl
 obtain⟨y,z,rfl⟩:∃y z,r=[y,z]:=by
  rcases ui.fo with ⟨x,y,z,ey⟩|⟨x,ey⟩|⟨x,ey⟩
  ·cases ey;exact⟨_,_,rfl⟩
  ·exact absurd (V.str.inj (List.cons.inj ey).1) (by decide +kernel)
  ·exact absurd (V.str.inj (List.cons.inj ey).1) (by decide +kernel)
 refine⟨p,st,tl,rt,net,a,y,z,rfl,⟨ui,n1,no⟩,td,λb c H1 e1 hy hz n2 n3=>?_⟩;subst hy hz;have ui1:=ui.ext e1;refine⟨p,st,tl,rt,net,a,b,c,rfl,⟨ui1,n1,no⟩,λm net2 H2 e2 nt2 into=>?_⟩;have l13:net2.length<=13:=by have:=into.1.length_eq;rw[hAd]at this;have:=ui.l12;show net2.length<=13;simp only[hB8,List.length_nil]at *;omega
 refine⟨p,st,tl,rt,m,net2,rfl,nt2,l13,λk H3 e3 hk=>?_⟩;have lay:qHf net (.str a) (.str b) (.str c) (a,mnS b c,mxS b c):=⟨a,b,c,rfl,rfl,rfl,n1,n2,n3,no,rfl⟩;have E3:=e1.trans (e2.trans e3);refine⟨p,st,tl,rt,m,k,net,net2,_,rfl,ui.ext E3,nt2.ext e3,hk,λnb T hT=>?_,λnb=>⟨p,st,tl,rt,m,k,rfl,λT hT=>?_⟩⟩
 ·exact td T p "TooMany" net _ (E3.trans (Ext.new hT _)) upd_same (ui.nt.ext (E3.trans (Ext.new hT _))) (.inl ⟨_,_,_,rfl,.inr ⟨_,net2,lay,into,.inr ⟨nb,rfl,rfl⟩⟩⟩)
 ·exact td T m "" net2 _ (E3.trans (Ext.new hT _)) upd_same (nt2.ext (e3.trans (Ext.new hT _))) (.inl ⟨_,_,_,rfl,.inr ⟨_,net2,lay,into,.inl ⟨nb,rfl,rfl⟩⟩⟩)
theorem zBc(F:Fun K "_law_due" "_law_due" qOr f fd)
  (G1:v8 1 f1 fd1 ["_law_word_here"] (qQa K) "_law_is_name")
  (G2:v8 1 f2 fd2 ["_law_net_here"] qF5 "_law_even")
  (ml:mg "len"=none) (mso:mg "sorted"=none) (mtu:mg "tuple"=none):v7 2 f fd ["_law_net_here","_law_deed_here"] (qZ9 K):=by
 refine F.okA qHh λcdv A outer s H vs Q E hr h=>?_
 obtain⟨p,st,net,ys,rfl,nt,l12,rs,sh,nm,da,fo,q⟩:=h;have r0:PSx (UX P w K mg base f cdv A outer s H E) (uS 0) (tU0 K):=us0;have r1:PSx (UX P w K mg base f cdv A outer s H E) (uS 1) (tU1 K):=us1 hr G1;have r2:PSx (UX P w K mg base f cdv A outer s H E) (uS 2) (tU2 K):=us2;have r3:PSx (UX P w K mg base f cdv A outer s H E) (uS 3) (tU3 K):=us3;have r4:PSx (UX P w K mg base f cdv A outer s H E) (uS 4) (tU4 K):=us4 hr G1 G2 ml mso mtu;have r5:PSx (UX P w K mg base f cdv A outer s H E) (uS 5) (tU5 K):=us5;have r6:PSx (UX P w K mg base f cdv A outer s H E) (uS 6) tU6:=us6;have r7:PSx (UX P w K mg base f cdv A outer s H E) (uS 7) tU7:=us7 mso mtu;have r8:PSx (UX P w K mg base f cdv A outer s H E) (uS 8) tU8:=us8;have rr:PSsx (UX P w K mg base f cdv A outer s H E) [uS 0,uS 1,uS 2,uS 3,uS 4,uS 5,uS 6,uS 7,uS 8] (qK8 (tU0 K) (qK8 (tU1 K) (qK8 (tU2 K) (qK8 (tU3 K) (qK8 (tU4 K) (qK8 (tU5 K) (qK8 tU6 (qK8 tU7 tU8)))))))):=qBv r0 (qBv r1 (qBv r2 (qBv r3 (qBv r4 (qBv r5 (qBv r6 (qBv r7 (qLy r8))))))));rw[hbU];refine⟨_,rr.h,?_⟩;have ui:UI K H p st net ys:=⟨nt,l12,rs,sh,nm,da,fo⟩;have td:qPg H net ys Q:=q;refine⟨p,st,net,ys,rfl,ui,λtl H1 e1 htl=>?_⟩;have tde:∀ {Ha},Ext H Ha->qPg Ha net ys Q:=λe T r' w' net' H' e'=>td T r' w' net' H' (e.trans e')
 refine⟨p,st,net,ys,tl,rfl,ui.ext e1,htl,tde e1,λH2 e2 gn=>?_⟩;obtain⟨w0,a,r,rfl,n1,iff⟩:=gn;have E2:=e1.trans e2;refine⟨p,st,tl,net,w0,a,r,rfl,ui.ext E2,λrt H3 e3 rt0 nr=>?_⟩;have E3:=E2.trans e3;refine⟨p,st,tl,rt,net,w0,a,r,rfl,ui.ext E3,iff,nr,tde E3,λnt1=>?_⟩;refine⟨p,st,tl,rt,net,w0,a,r,rfl,ui.ext E3,n1,iff,tde E3,λnt2=>?_⟩;have am:=iff.mpr nt2;obtain⟨⟨a',one,other⟩,tm,rfl⟩:=hAe.mp am;refine⟨p,st,tl,rt,net,w0,a',one,other,r,rfl,ui.ext E3,tm,λg H4 e4 hg=>?_⟩;refine⟨p,st,tl,rt,g,rfl,λfo hfo=>?_⟩;refine⟨p,st,tl,rt,g,fo,qE2 net a',a',one,other,H4,rfl,nr.ext e4,hAx (qIw _ _) l12,hg,hfo,rfl,λx8 x9 x10 H5 e5 nf=>?_⟩;refine⟨_,_,_,_,_,_,_,_,_,_,fo,rfl,λT hT=>?_⟩;have E5:=(E3.trans e4).trans (e5.trans (Ext.new hT (.tup [.str "",.ref fo])));refine q T fo "" (qVi net a' one other) _ E5 upd_same (nf.ext (Ext.new hT _)) ?_;rcases ui.fo with ⟨x,y,z,ey⟩|⟨x,ey⟩|⟨x,ey⟩
 ·cases ey;exact absurd rfl nt2
 ·cases ey;exact absurd rfl nt1
 ·cases ey;exact .inr (.inr ⟨_,rfl,.inr ⟨a',one,other,rfl,tm,rfl,rfl⟩⟩)
end
theorem zl1{α:Type}{l:List α}(h:l.length=1):∃a,l=[a]:=match l,h with | [a],_=>⟨a,rfl⟩
theorem zl2{α:Type}{l:List α}(h:l.length=2):∃a b,l=[a,b]:=match l,h with | [a,b],_=>⟨a,b,rfl⟩
theorem zl3{α:Type}{l:List α}(h:l.length=3):∃a b c,l=[a,b,c]:=match l,h with | [a,b,c],_=>⟨a,b,c,rfl⟩
theorem zl4{α:Type}{l:List α}(h:l.length=4):∃a b c d,l=[a,b,c,d]:=match l,h with | [a,b,c,d],_=>⟨a,b,c,d,rfl⟩
theorem qRf{K:PySem.W.Frag}{h:Heap}{mg:Str->Option Value}{x:Str}{C:Addr}{bm0:List Value}{newId:String}(X:K.In h)(G:h.Ns mainGlobals mg)(e:PySem.W.nsIn K mainGlobals x=some (some (.ref C)))(q:PySem.W.excIn K C bm0 newId=true):PyProof.Rows.OwnCls x C bm0 newId mg h:=by
 refine⟨hAg X G e,?_⟩;unfold PySem.W.excIn at q;split at q
 ·rename_i dd cd sl ho;split at q
  ·rename_i C' bm k0 k1 k2 k3 n k5 hm hs;simp only[hB9,beq_iff_eq,Bool.not_eq_true']at q;obtain⟨⟨⟨⟨⟨rfl,rfl⟩,hdel⟩,ht⟩,hok⟩,hni⟩:=q;obtain⟨nm,bs,mro,ns,qn,hd,sn,sub,ab,col,del⟩:=cd;dsimp only at hm hdel hok hni;subst hm hdel;obtain⟨l⟩:=sl;simp only at hs;subst hs;exact⟨bm,ns,nm,qn,bs,hd,sn,sub,ab,col,dd,k0,k1,k2,k3,k5,_,X _ _ ho,.of_isNs (PySem.W.isNs_of_in X hok),PySem.W.nsMap_none_of_in X hok hni,PySem.W.tail_of_in X ht⟩
  ·cases q
 ·cases q
theorem zD5{K:PySem.W.Frag}{C:Addr}{cdC:ClassData}(x1:PySem.W.clsIn K C=some cdC)(x2:PySem.W.findIn K (.ref C) "__getattribute__"=some (some (.builtin "BaseException.__getattribute__")))(x3:PySem.W.findIn K (.ref C) "__getattr__"=some none)(x4:PySem.W.findIn K (.ref C) "__class__"=some (some (.builtin "object.__class__")))
  (x5:PySem.W.specialIn K (.builtin "object.__class__") "__get__"=some (some (.builtin "getset_descriptor.__get__"))) (x6:PySem.W.takesIn K (.builtin "object.__class__")=some true) (x7:PySem.W.mroIn K C (.type "object")=some true) (x8:PySem.W.mroIn K C (.type "BaseException")=some true):XCls K C:=⟨by rw[x1];rfl,x2,x3,x4,x5,x6,x7,x8⟩
theorem all_mk{l:PySem.W.OpenLaw}{w:World}{K:PySem.W.Frag}{h:Heap}{mg:Str->Option Value}{fa C CN CT CS CI R f1 f2 f3 f4 f5 f6 f7 f8 f9 f10 f11 f12 f13 f14 f15 f16 f17 f18 f19 f20 f21 f22 f23 f24 f25 f26 f27 f28 f29 f30 f31 f32 f33 f34 f35 f36 f37 f38 f39 f40 f41 f42 f43 f44 f45:Addr}{cdCT cdCI:ClassData}{tk_SIGNS tk_MOST_SIGNS tk_MOST_NAMES tk_MOST_ROWS tk_MOST_STEPS:Tok}(X:K.In h)(G:h.Ns mainGlobals mg)(hfa:mg "law"=some (.ref fa))
  {od1 an1 od2 an2 od3 an3 od4 an4 od5 an5 od6 an6 od7 an7 od8 an8 od9 an9 od10 an10 od11 an11 od12 an12 od13 an13 od14 an14 od15 an15 od16 an16 od17 an17 od18 an18 od19 an19 od20 an20 od21 an21 od22 an22 od23 an23 od24 an24 od25 an25 od26 an26 od27 an27 od28 an28 od29 an29 od30 an30 od31 an31 od32 an32 od33 an33 od34 an34 od35 an35 od36 an36 od37 an37 od38 an38 od39 an39 od40 an40 od41 an41 od42 an42 od43 an43 od44 an44 od45 an45:Option Addr} {sl1 sl2 sl3 sl4 sl5 sl6 sl7 sl8 sl9 sl10 sl11 sl12 sl13 sl14 sl15 sl16 sl17 sl18 sl19 sl20 sl21 sl22 sl23 sl24 sl25 sl26 sl27 sl28 sl29 sl30 sl31 sl32 sl33 sl34 sl35 sl36 sl37 sl38 sl39 sl40 sl41 sl42 sl43 sl44 sl45:Array (Option Value)} {oc1 kV1 dc1 pm1 cd1 ct1 oc2 kV2 dc2 pm2 cd2 ct2 oc3 kV3 dc3 pm3 cd3 ct3 oc4 kV4 dc4 pm4 cd4 ct4 oc5 kV5 dc5 pm5 cd5 ct5 oc6 kV6 dc6 pm6 cd6 ct6 oc7 kV7 dc7 pm7 cd7 ct7 oc8 kV8 dc8 pm8 cd8 ct8 oc9 kV9 dc9 pm9 cd9 ct9 oc10 kV10 dc10 pm10 cd10 ct10 oc11 kV11 dc11 pm11 cd11 ct11 oc12 kV12 dc12 pm12 cd12 ct12 oc13 kV13 dc13 pm13 cd13 ct13 oc14 kV14 dc14 pm14 cd14 ct14 oc15 kV15 dc15 pm15 cd15 ct15 oc16 kV16 dc16 pm16 cd16 ct16 oc17 kV17 dc17 pm17 cd17 ct17 oc18 kV18 dc18 pm18 cd18 ct18 oc19 kV19 dc19 pm19 cd19 ct19 oc20 kV20 dc20 pm20 cd20 ct20 oc21 kV21 dc21 pm21 cd21 ct21 oc22 kV22 dc22 pm22 cd22 ct22 oc23 kV23 dc23 pm23 cd23 ct23 oc24 kV24 dc24 pm24 cd24 ct24 oc25 kV25 dc25 pm25 cd25 ct25 oc26 kV26 dc26 pm26 cd26 ct26 oc27 kV27 dc27 pm27 cd27 ct27 oc28 kV28 dc28 pm28 cd28 ct28 oc29 kV29 dc29 pm29 cd29 ct29 oc30 kV30 dc30 pm30 cd30 ct30 oc31 kV31 dc31 pm31 cd31 ct31 oc32 kV32 dc32 pm32 cd32 ct32 oc33 kV33 dc33 pm33 cd33 ct33 oc34 kV34 dc34 pm34 cd34 ct34 oc35 kV35 dc35 pm35 cd35 ct35 oc36 kV36 dc36 pm36 cd36 ct36 oc37 kV37 dc37 pm37 cd37 ct37 oc38 kV38 dc38 pm38 cd38 ct38 oc39 kV39 dc39 pm39 cd39 ct39 oc40 kV40 dc40 pm40 cd40 ct40 oc41 kV41 dc41 pm41 cd41 ct41 oc42 kV42 dc42 pm42 cd42 ct42 oc43 kV43 dc43 pm43 cd43 ct43 oc44 kV44 dc44 pm44 cd44 ct44 oc45 kV45 dc45 pm45 cd45 ct45:Value}
  (aC:PySem.W.nsIn K mainGlobals "Bench"=some (some (.ref C)))
  (a1:PySem.W.nsIn K mainGlobals "is_name"=some (some (.ref f1)))
  (l1:K.lookup f1=some ⟨oc1,od1,.func (PySem.W.fnOf "is_name" "is_name" (qAp qLk) (qAk qLk) (qAa qLk) .none kV1 dc1 pm1 an1 cd1 ct1),sl1⟩)
  (c1:PySem.W.codeIn K cd1 "is_name"=true)
  (k1:PySem.W.keepIn K (.ref f1)=true)
  (a2:PySem.W.nsIn K mainGlobals "is_row"=some (some (.ref f2)))
  (l2:K.lookup f2=some ⟨oc2,od2,.func (PySem.W.fnOf "is_row" "is_row" (qAp qFm) (qAk qFm) (qAa qFm) .none kV2 dc2 pm2 an2 cd2 ct2),sl2⟩)
  (c2:PySem.W.codeIn K cd2 "is_row"=true)
  (k2:PySem.W.keepIn K (.ref f2)=true)
  (a3:PySem.W.nsIn K mainGlobals "mask_of"=some (some (.ref f3)))
  (l3:K.lookup f3=some ⟨oc3,od3,.func (PySem.W.fnOf "mask_of" "mask_of" (qAp qOm) (qAk qOm) (qAa qOm) .none kV3 dc3 pm3 an3 cd3 ct3),sl3⟩)
  (c3:PySem.W.codeIn K cd3 "mask_of"=true)
  (k3:PySem.W.keepIn K (.ref f3)=true)
  (a4:PySem.W.nsIn K mainGlobals "row_of"=some (some (.ref f4)))
  (l4:K.lookup f4=some ⟨oc4,od4,.func (PySem.W.fnOf "row_of" "row_of" (qAp qGb) (qAk qGb) (qAa qGb) .none kV4 dc4 pm4 an4 cd4 ct4),sl4⟩)
  (c4:PySem.W.codeIn K cd4 "row_of"=true)
  (k4:PySem.W.keepIn K (.ref f4)=true)
  (a5:PySem.W.nsIn K mainGlobals "lessened"=some (some (.ref f5)))
  (l5:K.lookup f5=some ⟨oc5,od5,.func (PySem.W.fnOf "lessened" "lessened" (qAp qOn) (qAk qOn) (qAa qOn) .none kV5 dc5 pm5 an5 cd5 ct5),sl5⟩)
  (c5:PySem.W.codeIn K cd5 "lessened"=true)
  (k5:PySem.W.keepIn K (.ref f5)=true)
  (a6:PySem.W.nsIn K mainGlobals "reduced"=some (some (.ref f6)))
  (l6:K.lookup f6=some ⟨oc6,od6,.func (PySem.W.fnOf "reduced" "reduced" (qAp qLj) (qAk qLj) (qAa qLj) .none kV6 dc6 pm6 an6 cd6 ct6),sl6⟩)
  (c6:PySem.W.codeIn K cd6 "reduced"=true)
  (k6:PySem.W.keepIn K (.ref f6)=true)
  (a7:PySem.W.nsIn K mainGlobals "lead_of"=some (some (.ref f7)))
  (l7:K.lookup f7=some ⟨oc7,od7,.func (PySem.W.fnOf "lead_of" "lead_of" (qAp qOo) (qAk qOo) (qAa qOo) .none kV7 dc7 pm7 an7 cd7 ct7),sl7⟩)
  (c7:PySem.W.codeIn K cd7 "lead_of"=true)
  (k7:PySem.W.keepIn K (.ref f7)=true)
  (a8:PySem.W.nsIn K mainGlobals "crossed_masks"=some (some (.ref f8)))
  (l8:K.lookup f8=some ⟨oc8,od8,.func (PySem.W.fnOf "crossed_masks" "crossed_masks" (qAp qVk) (qAk qVk) (qAa qVk) .none kV8 dc8 pm8 an8 cd8 ct8),sl8⟩)
  (c8:PySem.W.codeIn K cd8 "crossed_masks"=true)
  (k8:PySem.W.keepIn K (.ref f8)=true)
  (a9:PySem.W.nsIn K mainGlobals "table_from"=some (some (.ref f9)))
  (l9:K.lookup f9=some ⟨oc9,od9,.func (PySem.W.fnOf "table_from" "table_from" (qAp qLi) (qAk qLi) (qAa qLi) .none kV9 dc9 pm9 an9 cd9 ct9),sl9⟩)
  (c9:PySem.W.codeIn K cd9 "table_from"=true)
  (k9:PySem.W.keepIn K (.ref f9)=true)
  (a10:PySem.W.nsIn K mainGlobals "keeps_bounds"=some (some (.ref f10)))
  (l10:K.lookup f10=some ⟨oc10,od10,.func (PySem.W.fnOf "keeps_bounds" "keeps_bounds" (qAp qOp) (qAk qOp) (qAa qOp) .none kV10 dc10 pm10 an10 cd10 ct10),sl10⟩)
  (c10:PySem.W.codeIn K cd10 "keeps_bounds"=true)
  (k10:PySem.W.keepIn K (.ref f10)=true)
  (a11:PySem.W.nsIn K mainGlobals "step_masks"=some (some (.ref f11)))
  (l11:K.lookup f11=some ⟨oc11,od11,.func (PySem.W.fnOf "step_masks" "step_masks" (qAp qGa) (qAk qGa) (qAa qGa) .none kV11 dc11 pm11 an11 cd11 ct11),sl11⟩)
  (c11:PySem.W.codeIn K cd11 "step_masks"=true)
  (k11:PySem.W.keepIn K (.ref f11)=true)
  (a12:PySem.W.nsIn K mainGlobals "crossed"=some (some (.ref f12)))
  (l12:K.lookup f12=some ⟨oc12,od12,.func (PySem.W.fnOf "crossed" "crossed" (qAp qHr) (qAk qHr) (qAa qHr) .none kV12 dc12 pm12 an12 cd12 ct12),sl12⟩)
  (c12:PySem.W.codeIn K cd12 "crossed"=true)
  (k12:PySem.W.keepIn K (.ref f12)=true)
  (a13:PySem.W.nsIn K mainGlobals "is_tie"=some (some (.ref f13)))
  (l13:K.lookup f13=some ⟨oc13,od13,.func (PySem.W.fnOf "is_tie" "is_tie" (qAp qGe) (qAk qGe) (qAa qGe) .none kV13 dc13 pm13 an13 cd13 ct13),sl13⟩)
  (c13:PySem.W.codeIn K cd13 "is_tie"=true)
  (k13:PySem.W.keepIn K (.ref f13)=true)
  (a14:PySem.W.nsIn K mainGlobals "has_net_form"=some (some (.ref f14)))
  (l14:K.lookup f14=some ⟨oc14,od14,.func (PySem.W.fnOf "has_net_form" "has_net_form" (qAp qLp) (qAk qLp) (qAa qLp) .none kV14 dc14 pm14 an14 cd14 ct14),sl14⟩)
  (c14:PySem.W.codeIn K cd14 "has_net_form"=true)
  (k14:PySem.W.keepIn K (.ref f14)=true)
  (a15:PySem.W.nsIn K mainGlobals "keeps_net_bounds"=some (some (.ref f15)))
  (l15:K.lookup f15=some ⟨oc15,od15,.func (PySem.W.fnOf "keeps_net_bounds" "keeps_net_bounds" (qAp qZk) (qAk qZk) (qAa qZk) .none kV15 dc15 pm15 an15 cd15 ct15),sl15⟩)
  (c15:PySem.W.codeIn K cd15 "keeps_net_bounds"=true)
  (k15:PySem.W.keepIn K (.ref f15)=true)
  (a16:PySem.W.nsIn K mainGlobals "ties_of"=some (some (.ref f16)))
  (l16:K.lookup f16=some ⟨oc16,od16,.func (PySem.W.fnOf "ties_of" "ties_of" (qAp qLh) (qAk qLh) (qAa qLh) .none kV16 dc16 pm16 an16 cd16 ct16),sl16⟩)
  (c16:PySem.W.codeIn K cd16 "ties_of"=true)
  (k16:PySem.W.keepIn K (.ref f16)=true)
  (a17:PySem.W.nsIn K mainGlobals "points"=some (some (.ref f17)))
  (l17:K.lookup f17=some ⟨oc17,od17,.func (PySem.W.fnOf "points" "points" (qAp qEb) (qAk qEb) (qAa qEb) .none kV17 dc17 pm17 an17 cd17 ct17),sl17⟩)
  (c17:PySem.W.codeIn K cd17 "points"=true)
  (k17:PySem.W.keepIn K (.ref f17)=true)
  (a18:PySem.W.nsIn K mainGlobals "met_once"=some (some (.ref f18)))
  (l18:K.lookup f18=some ⟨oc18,od18,.func (PySem.W.fnOf "met_once" "met_once" (qAp qW4) (qAk qW4) (qAa qW4) .none kV18 dc18 pm18 an18 cd18 ct18),sl18⟩)
  (c18:PySem.W.codeIn K cd18 "met_once"=true)
  (k18:PySem.W.keepIn K (.ref f18)=true)
  (a19:PySem.W.nsIn K mainGlobals "table_of"=some (some (.ref f19)))
  (l19:K.lookup f19=some ⟨oc19,od19,.func (PySem.W.fnOf "table_of" "table_of" (qAp qF9) (qAk qF9) (qAa qF9) .none kV19 dc19 pm19 an19 cd19 ct19),sl19⟩)
  (c19:PySem.W.codeIn K cd19 "table_of"=true)
  (k19:PySem.W.keepIn K (.ref f19)=true)
  (a20:PySem.W.nsIn K mainGlobals "moved"=some (some (.ref f20)))
  (l20:K.lookup f20=some ⟨oc20,od20,.func (PySem.W.fnOf "moved" "moved" (qAp qFk) (qAk qFk) (qAa qFk) .none kV20 dc20 pm20 an20 cd20 ct20),sl20⟩)
  (c20:PySem.W.codeIn K cd20 "moved"=true)
  (k20:PySem.W.keepIn K (.ref f20)=true)
  (a21:PySem.W.nsIn K mainGlobals "with_tie"=some (some (.ref f21)))
  (l21:K.lookup f21=some ⟨oc21,od21,.func (PySem.W.fnOf "with_tie" "with_tie" (qAp qLg) (qAk qLg) (qAa qLg) .none kV21 dc21 pm21 an21 cd21 ct21),sl21⟩)
  (c21:PySem.W.codeIn K cd21 "with_tie"=true)
  (k21:PySem.W.keepIn K (.ref f21)=true)
  (a22:PySem.W.nsIn K mainGlobals "without_tie"=some (some (.ref f22)))
  (l22:K.lookup f22=some ⟨oc22,od22,.func (PySem.W.fnOf "without_tie" "without_tie" (qAp qC9) (qAk qC9) (qAa qC9) .none kV22 dc22 pm22 an22 cd22 ct22),sl22⟩)
  (c22:PySem.W.codeIn K cd22 "without_tie"=true)
  (k22:PySem.W.keepIn K (.ref f22)=true)
  (a23:PySem.W.nsIn K mainGlobals "with_tie_shrunk"=some (some (.ref f23)))
  (l23:K.lookup f23=some ⟨oc23,od23,.func (PySem.W.fnOf "with_tie_shrunk" "with_tie_shrunk" (qAp qEa) (qAk qEa) (qAa qEa) .none kV23 dc23 pm23 an23 cd23 ct23),sl23⟩)
  (c23:PySem.W.codeIn K cd23 "with_tie_shrunk"=true)
  (k23:PySem.W.keepIn K (.ref f23)=true)
  (a24:PySem.W.nsIn K mainGlobals "done"=some (some (.ref f24)))
  (l24:K.lookup f24=some ⟨oc24,od24,.func (PySem.W.fnOf "done" "done" (qAp qHs) (qAk qHs) (qAa qHs) .none kV24 dc24 pm24 an24 cd24 ct24),sl24⟩)
  (c24:PySem.W.codeIn K cd24 "done"=true)
  (k24:PySem.W.keepIn K (.ref f24)=true)
  (a25:PySem.W.findIn K (.ref C) "__init__"=some (some (.ref f25)))
  (i25:PySem.W.isFn K (.ref f25)=true)
  (l25:K.lookup f25=some ⟨oc25,od25,.func (PySem.W.fnOf "__init__" "Bench.__init__" (qAp qOq) (qAk qOq) (qAa qOq) .none kV25 dc25 pm25 an25 cd25 ct25),sl25⟩)
  (c25:PySem.W.codeIn K cd25 "Bench.__init__"=true)
  (k25:PySem.W.keepIn K (.ref f25)=true)
  (a26:PySem.W.findIn K (.ref C) "do"=some (some (.ref f26)))
  (i26:PySem.W.isFn K (.ref f26)=true)
  (l26:K.lookup f26=some ⟨oc26,od26,.func (PySem.W.fnOf "do" "Bench.do" (qAp sDo) (qAk sDo) (qAa sDo) .none kV26 dc26 pm26 an26 cd26 ct26),sl26⟩)
  (c26:PySem.W.codeIn K cd26 "Bench.do"=true)
  (k26:PySem.W.keepIn K (.ref f26)=true)
  (a27:PySem.W.findIn K (.ref C) "net"=some (some (.ref f27)))
  (i27:PySem.W.isFn K (.ref f27)=true)
  (l27:K.lookup f27=some ⟨oc27,od27,.func (PySem.W.fnOf "net" "Bench.net" (qAp qOu) (qAk qOu) (qAa qOu) .none kV27 dc27 pm27 an27 cd27 ct27),sl27⟩)
  (c27:PySem.W.codeIn K cd27 "Bench.net"=true)
  (k27:PySem.W.keepIn K (.ref f27)=true)
  (a28:PySem.W.findIn K (.ref C) "table"=some (some (.ref f28)))
  (i28:PySem.W.isFn K (.ref f28)=true)
  (l28:K.lookup f28=some ⟨oc28,od28,.func (PySem.W.fnOf "table" "Bench.table" (qAp qOt) (qAk qOt) (qAa qOt) .none kV28 dc28 pm28 an28 cd28 ct28),sl28⟩)
  (c28:PySem.W.codeIn K cd28 "Bench.table"=true)
  (k28:PySem.W.keepIn K (.ref f28)=true)
  (a29:PySem.W.nsIn K mainGlobals "_law_cell_at"=some (some (.ref f29)))
  (l29:K.lookup f29=some ⟨oc29,od29,.func (PySem.W.fnOf "_law_cell_at" "_law_cell_at" (qAp qOs) (qAk qOs) (qAa qOs) .none kV29 dc29 pm29 an29 cd29 ct29),sl29⟩)
  (c29:PySem.W.codeIn K cd29 "_law_cell_at"=true)
  (k29:PySem.W.keepIn K (.ref f29)=true)
  (a30:PySem.W.nsIn K mainGlobals "_law_big"=some (some (.ref f30)))
  (l30:K.lookup f30=some ⟨oc30,od30,.func (PySem.W.fnOf "_law_big" "_law_big" (qAp qZl) (qAk qZl) (qAa qZl) .none kV30 dc30 pm30 an30 cd30 ct30),sl30⟩)
  (c30:PySem.W.codeIn K cd30 "_law_big"=true)
  (k30:PySem.W.keepIn K (.ref f30)=true)
  (a31:PySem.W.nsIn K mainGlobals "_law_names"=some (some (.ref f31)))
  (l31:K.lookup f31=some ⟨oc31,od31,.func (PySem.W.fnOf "_law_names" "_law_names" (qAp qGc) (qAk qGc) (qAa qGc) .none kV31 dc31 pm31 an31 cd31 ct31),sl31⟩)
  (c31:PySem.W.codeIn K cd31 "_law_names"=true)
  (k31:PySem.W.keepIn K (.ref f31)=true)
  (a32:PySem.W.nsIn K mainGlobals "_law_ends"=some (some (.ref f32)))
  (l32:K.lookup f32=some ⟨oc32,od32,.func (PySem.W.fnOf "_law_ends" "_law_ends" (qAp qLq) (qAk qLq) (qAa qLq) .none kV32 dc32 pm32 an32 cd32 ct32),sl32⟩)
  (c32:PySem.W.codeIn K cd32 "_law_ends"=true)
  (k32:PySem.W.keepIn K (.ref f32)=true)
  (a33:PySem.W.nsIn K mainGlobals "_law_net"=some (some (.ref f33)))
  (l33:K.lookup f33=some ⟨oc33,od33,.func (PySem.W.fnOf "_law_net" "_law_net" (qAp qZj) (qAk qZj) (qAa qZj) .none kV33 dc33 pm33 an33 cd33 ct33),sl33⟩)
  (c33:PySem.W.codeIn K cd33 "_law_net"=true)
  (k33:PySem.W.keepIn K (.ref f33)=true)
  (a34:PySem.W.nsIn K mainGlobals "_law_reduced"=some (some (.ref f34)))
  (l34:K.lookup f34=some ⟨oc34,od34,.func (PySem.W.fnOf "_law_reduced" "_law_reduced" (qAp qLn) (qAk qLn) (qAa qLn) .none kV34 dc34 pm34 an34 cd34 ct34),sl34⟩)
  (c34:PySem.W.codeIn K cd34 "_law_reduced"=true)
  (k34:PySem.W.keepIn K (.ref f34)=true)
  (a35:PySem.W.nsIn K mainGlobals "_law_even"=some (some (.ref f35)))
  (l35:K.lookup f35=some ⟨oc35,od35,.func (PySem.W.fnOf "_law_even" "_law_even" (qAp qFl) (qAk qFl) (qAa qFl) .none kV35 dc35 pm35 an35 cd35 ct35),sl35⟩)
  (c35:PySem.W.codeIn K cd35 "_law_even"=true)
  (k35:PySem.W.keepIn K (.ref f35)=true)
  (a36:PySem.W.nsIn K mainGlobals "_law_row"=some (some (.ref f36)))
  (l36:K.lookup f36=some ⟨oc36,od36,.func (PySem.W.fnOf "_law_row" "_law_row" (qAp qLm) (qAk qLm) (qAa qLm) .none kV36 dc36 pm36 an36 cd36 ct36),sl36⟩)
  (c36:PySem.W.codeIn K cd36 "_law_row"=true)
  (k36:PySem.W.keepIn K (.ref f36)=true)
  (a37:PySem.W.nsIn K mainGlobals "_law_steps"=some (some (.ref f37)))
  (l37:K.lookup f37=some ⟨oc37,od37,.func (PySem.W.fnOf "_law_steps" "_law_steps" (qAp qEc) (qAk qEc) (qAa qEc) .none kV37 dc37 pm37 an37 cd37 ct37),sl37⟩)
  (c37:PySem.W.codeIn K cd37 "_law_steps"=true)
  (k37:PySem.W.keepIn K (.ref f37)=true)
  (a38:PySem.W.nsIn K mainGlobals "_law_same_table"=some (some (.ref f38)))
  (l38:K.lookup f38=some ⟨oc38,od38,.func (PySem.W.fnOf "_law_same_table" "_law_same_table" (qAp qGd) (qAk qGd) (qAa qGd) .none kV38 dc38 pm38 an38 cd38 ct38),sl38⟩)
  (c38:PySem.W.codeIn K cd38 "_law_same_table"=true)
  (k38:PySem.W.keepIn K (.ref f38)=true)
  (a39:PySem.W.nsIn K mainGlobals "_law_any_name"=some (some (.ref f39)))
  (l39:K.lookup f39=some ⟨oc39,od39,.func (PySem.W.fnOf "_law_any_name" "_law_any_name" (qAp qTe) (qAk qTe) (qAa qTe) .none kV39 dc39 pm39 an39 cd39 ct39),sl39⟩)
  (c39:PySem.W.codeIn K cd39 "_law_any_name"=true)
  (k39:PySem.W.keepIn K (.ref f39)=true)
  (a40:PySem.W.nsIn K mainGlobals "_law_deed"=some (some (.ref f40)))
  (l40:K.lookup f40=some ⟨oc40,od40,.func (PySem.W.fnOf "_law_deed" "_law_deed" (qAp qGf) (qAk qGf) (qAa qGf) .none kV40 dc40 pm40 an40 cd40 ct40),sl40⟩)
  (c40:PySem.W.codeIn K cd40 "_law_deed"=true)
  (k40:PySem.W.keepIn K (.ref f40)=true)
  (a41:PySem.W.nsIn K mainGlobals "_law_is_name"=some (some (.ref f41)))
  (l41:K.lookup f41=some ⟨oc41,od41,.func (PySem.W.fnOf "_law_is_name" "_law_is_name" (qAp qW5) (qAk qW5) (qAa qW5) .none kV41 dc41 pm41 an41 cd41 ct41),sl41⟩)
  (c41:PySem.W.codeIn K cd41 "_law_is_name"=true)
  (k41:PySem.W.keepIn K (.ref f41)=true)
  (a42:PySem.W.nsIn K mainGlobals "_law_due"=some (some (.ref f42)))
  (l42:K.lookup f42=some ⟨oc42,od42,.func (PySem.W.fnOf "_law_due" "_law_due" (qAp qOr) (qAk qOr) (qAa qOr) .none kV42 dc42 pm42 an42 cd42 ct42),sl42⟩)
  (c42:PySem.W.codeIn K cd42 "_law_due"=true)
  (k42:PySem.W.keepIn K (.ref f42)=true)
  (a43:PySem.W.nsIn K mainGlobals "_law_word"=some (some (.ref f43)))
  (l43:K.lookup f43=some ⟨oc43,od43,.func (PySem.W.fnOf "_law_word" "_law_word" (qAp qLf) (qAk qLf) (qAa qLf) .none kV43 dc43 pm43 an43 cd43 ct43),sl43⟩)
  (c43:PySem.W.codeIn K cd43 "_law_word"=true)
  (k43:PySem.W.keepIn K (.ref f43)=true)
  (a44:PySem.W.nsIn K mainGlobals "_law_good"=some (some (.ref f44)))
  (l44:K.lookup f44=some ⟨oc44,od44,.func (PySem.W.fnOf "_law_good" "_law_good" (qAp qLo) (qAk qLo) (qAa qLo) .none kV44 dc44 pm44 an44 cd44 ct44),sl44⟩)
  (c44:PySem.W.codeIn K cd44 "_law_good"=true)
  (k44:PySem.W.keepIn K (.ref f44)=true)
  (a45:PySem.W.nsIn K mainGlobals "law"=some (some (.ref f45)))
  (l45:K.lookup f45=some ⟨oc45,od45,.func (PySem.W.fnOf "law" "law" (qAp qTd) (qAk qTd) (qAa qTd) .none kV45 dc45 pm45 an45 cd45 ct45),sl45⟩)
  (c45:PySem.W.codeIn K cd45 "law"=true)
  (k45:PySem.W.keepIn K (.ref f45)=true)
  (q1:PySem.W.nsIn K mainGlobals "SIGNS"=some (some (.str sg tk_SIGNS)))
  (q2:PySem.W.nsIn K mainGlobals "MOST_SIGNS"=some (some (.int 6 tk_MOST_SIGNS)))
  (q3:PySem.W.nsIn K mainGlobals "MOST_NAMES"=some (some (.int 12 tk_MOST_NAMES)))
  (q4:PySem.W.nsIn K mainGlobals "MOST_ROWS"=some (some (.int 16 tk_MOST_ROWS)))
  (q5:PySem.W.nsIn K mainGlobals "MOST_STEPS"=some (some (.int 8 tk_MOST_STEPS)))
  (z1:PySem.W.nsIn K mainGlobals "ValueError"=some none)
  (z2:PySem.W.nsIn K mainGlobals "abs"=some none)
  (z3:PySem.W.nsIn K mainGlobals "all"=some none)
  (z4:PySem.W.nsIn K mainGlobals "enumerate"=some none)
  (z5:PySem.W.nsIn K mainGlobals "int"=some none)
  (z6:PySem.W.nsIn K mainGlobals "isinstance"=some none)
  (z7:PySem.W.nsIn K mainGlobals "len"=some none)
  (z8:PySem.W.nsIn K mainGlobals "list"=some none)
  (z9:PySem.W.nsIn K mainGlobals "max"=some none)
  (z10:PySem.W.nsIn K mainGlobals "min"=some none)
  (z11:PySem.W.nsIn K mainGlobals "range"=some none)
  (z12:PySem.W.nsIn K mainGlobals "set"=some none)
  (z13:PySem.W.nsIn K mainGlobals "sorted"=some none)
  (z14:PySem.W.nsIn K mainGlobals "str"=some none)
  (z15:PySem.W.nsIn K mainGlobals "sum"=some none)
  (z16:PySem.W.nsIn K mainGlobals "tuple"=some none)
  (z17:PySem.W.nsIn K mainGlobals "zip"=some none)
  (pg:PySem.W.plainGet K C Str.empty=true)
  (hd:PySem.W.hasDictIn K C=true)
  (po:PySem.W.plainOver K C=true)
  (sa:PySem.W.findIn K (.ref C) "__setattr__"=some (some (.builtin "object.__setattr__")))
  (mkC:PySem.W.makesIn K C=true)
  (kc:PySem.W.keepIn K (.ref C)=true)
  (nK:PySem.W.findIn K (.ref C) "kept"=some none)
  (yNoNet:PySem.W.nsIn K mainGlobals "NoNet"=some (some (.ref CN)))
  (yTooMany:PySem.W.nsIn K mainGlobals "TooMany"=some (some (.ref CT)))
  (yNoStep:PySem.W.nsIn K mainGlobals "NoStep"=some (some (.ref CS)))
  (yNoTie:PySem.W.nsIn K mainGlobals "NoTie"=some (some (.ref CI)))
  (yRoundError:PySem.W.nsIn K mainGlobals "RoundError"=some (some (.ref R)))
  (eNoNet:PySem.W.excIn K CN vB "ValueError.__new__"=true)
  (eTooMany:PySem.W.excIn K CT vB "ValueError.__new__"=true)
  (eNoTie:PySem.W.excIn K CI vB "ValueError.__new__"=true)
  (xaTooMany:PySem.W.clsIn K CT=some cdCT)
  (xbTooMany:PySem.W.findIn K (.ref CT) "__getattribute__"=some (some (.builtin "BaseException.__getattribute__")))
  (xcTooMany:PySem.W.findIn K (.ref CT) "__getattr__"=some none)
  (xdTooMany:PySem.W.findIn K (.ref CT) "__class__"=some (some (.builtin "object.__class__")))
  (xeTooMany:PySem.W.mroIn K CT (.type "object")=some true)
  (xfTooMany:PySem.W.mroIn K CT (.type "BaseException")=some true)
  (xaNoTie:PySem.W.clsIn K CI=some cdCI)
  (xbNoTie:PySem.W.findIn K (.ref CI) "__getattribute__"=some (some (.builtin "BaseException.__getattribute__")))
  (xcNoTie:PySem.W.findIn K (.ref CI) "__getattr__"=some none)
  (xdNoTie:PySem.W.findIn K (.ref CI) "__class__"=some (some (.builtin "object.__class__")))
  (xeNoTie:PySem.W.mroIn K CI (.type "object")=some true)
  (xfNoTie:PySem.W.mroIn K CI (.type "BaseException")=some true)
  (xg:PySem.W.specialIn K (.builtin "object.__class__") "__get__"=some (some (.builtin "getset_descriptor.__get__")))
  (xh:PySem.W.takesIn K (.builtin "object.__class__")=some true)
  (hTooMany:PySem.W.exmOne K (.ref CT) (.ref R)=some true)
  (hNoTie:PySem.W.exmOne K (.ref CI) (.ref R)=some true)
  (vT:PySem.W.kitOne K (.ref CT) (.type "ValueError")=some true)
  (vI:PySem.W.kitOne K (.ref CI) (.type "ValueError")=some true)
  (oTooManyNoNet:PySem.W.kitOne K (.ref CT) (.ref CN)=some false)
  (oTooManyNoStep:PySem.W.kitOne K (.ref CT) (.ref CS)=some false)
  (oTooManyNoTie:PySem.W.kitOne K (.ref CT) (.ref CI)=some false)
  (oNoTieNoNet:PySem.W.kitOne K (.ref CI) (.ref CN)=some false)
  (oNoTieTooMany:PySem.W.kitOne K (.ref CI) (.ref CT)=some false)
  (oNoTieNoStep:PySem.W.kitOne K (.ref CI) (.ref CS)=some false)
  : ∃fd:FuncData,(∀(s:Shared) (v:Value),BindsTo s fd ⟨[v],[]⟩ [("_law_script",v)])/\∀base:Heap,K.In base->base.Ns mainGlobals mg->FnOk l.prog w K mg base CX0 11 fa fd ["_law_script"] (qS7 K):=by
 have e:=hfa.symm.trans (hAg X G a45);cases e;have F1:=qAy (st:=qLk) l1 c1 k1;have F2:=qAy (st:=qFm) l2 c2 k2;have F3:=qAy (st:=qOm) l3 c3 k3;have F4:=qAy (st:=qGb) l4 c4 k4;have F5:=qAy (st:=qOn) l5 c5 k5;have F6:=qAy (st:=qLj) l6 c6 k6;have F7:=qAy (st:=qOo) l7 c7 k7;have F8:=qAy (st:=qVk) l8 c8 k8;have F9:=qAy (st:=qLi) l9 c9 k9;have F10:=qAy (st:=qOp) l10 c10 k10;have F11:=qAy (st:=qGa) l11 c11 k11;have F12:=qAy (st:=qHr) l12 c12 k12;have F13:=qAy (st:=qGe) l13 c13 k13;have F14:=qAy (st:=qLp) l14 c14 k14;have F15:=qAy (st:=qZk) l15 c15 k15;have F16:=qAy (st:=qLh) l16 c16 k16;have F17:=qAy (st:=qEb) l17 c17 k17;have F18:=qAy (st:=qW4) l18 c18 k18;have F19:=qAy (st:=qF9) l19 c19 k19;have F20:=qAy (st:=qFk) l20 c20 k20;have F21:=qAy (st:=qLg) l21 c21 k21;have F22:=qAy (st:=qC9) l22 c22 k22;have F23:=qAy (st:=qEa) l23 c23 k23;have F24:=qAy (st:=qHs) l24 c24 k24;have F25:=qAy (st:=qOq) l25 c25 k25;have F26:=qAy (st:=sDo) l26 c26 k26;have F27:=qAy (st:=qOu) l27 c27 k27;have F28:=qAy (st:=qOt) l28 c28 k28;have F29:=qAy (st:=qOs) l29 c29 k29;have F30:=qAy (st:=qZl) l30 c30 k30;have F31:=qAy (st:=qGc) l31 c31 k31;have F32:=qAy (st:=qLq) l32 c32 k32;have F33:=qAy (st:=qZj) l33 c33 k33;have F34:=qAy (st:=qLn) l34 c34 k34;have F35:=qAy (st:=qFl) l35 c35 k35;have F36:=qAy (st:=qLm) l36 c36 k36;have F37:=qAy (st:=qEc) l37 c37 k37;have F38:=qAy (st:=qGd) l38 c38 k38;have F39:=qAy (st:=qTe) l39 c39 k39;have F40:=qAy (st:=qGf) l40 c40 k40;have F41:=qAy (st:=qW5) l41 c41 k41;have F42:=qAy (st:=qOr) l42 c42 k42;have F43:=qAy (st:=qLf) l43 c43 k43;have F44:=qAy (st:=qLo) l44 c44 k44;have F45:=qAy (st:=qTd) l45 c45 k45;have b1:=F1.binds (ps:=["thing"]) λ_ _ _ _ _ _ us hl=>by obtain⟨_,rfl⟩:=zl1 hl;rfl
 have m1:=hAg X G a1;have b2:=F2.binds (ps:=["thing"]) λ_ _ _ _ _ _ us hl=>by obtain⟨_,rfl⟩:=zl1 hl;rfl
 have m2:=hAg X G a2;have b3:=F3.binds (ps:=["names","row"]) λ_ _ _ _ _ _ us hl=>by obtain⟨_,_,rfl⟩:=zl2 hl;rfl
 have m3:=hAg X G a3;have b4:=F4.binds (ps:=["names","mask"]) λ_ _ _ _ _ _ us hl=>by obtain⟨_,_,rfl⟩:=zl2 hl;rfl
 have m4:=hAg X G a4;have b5:=F5.binds (ps:=["mask","kept"]) λ_ _ _ _ _ _ us hl=>by obtain⟨_,_,rfl⟩:=zl2 hl;rfl
 have m5:=hAg X G a5;have b6:=F6.binds (ps:=["masks"]) λ_ _ _ _ _ _ us hl=>by obtain⟨_,rfl⟩:=zl1 hl;rfl
 have m6:=hAg X G a6;have b7:=F7.binds (ps:=["mask"]) λ_ _ _ _ _ _ us hl=>by obtain⟨_,rfl⟩:=zl1 hl;rfl
 have m7:=hAg X G a7;have b8:=F8.binds (ps:=["steps","width"]) λ_ _ _ _ _ _ us hl=>by obtain⟨_,_,rfl⟩:=zl2 hl;rfl
 have m8:=hAg X G a8;have b9:=F9.binds (ps:=["names","masks"]) λ_ _ _ _ _ _ us hl=>by obtain⟨_,_,rfl⟩:=zl2 hl;rfl
 have m9:=hAg X G a9;have b10:=F10.binds (ps:=["table"]) λ_ _ _ _ _ _ us hl=>by obtain⟨_,rfl⟩:=zl1 hl;rfl
 have m10:=hAg X G a10;have b11:=F11.binds (ps:=["table"]) λ_ _ _ _ _ _ us hl=>by obtain⟨_,rfl⟩:=zl1 hl;rfl
 have m11:=hAg X G a11;have b12:=F12.binds (ps:=["table"]) λ_ _ _ _ _ _ us hl=>by obtain⟨_,rfl⟩:=zl1 hl;rfl
 have m12:=hAg X G a12;have b13:=F13.binds (ps:=["thing"]) λ_ _ _ _ _ _ us hl=>by obtain⟨_,rfl⟩:=zl1 hl;rfl
 have m13:=hAg X G a13;have b14:=F14.binds (ps:=["thing"]) λ_ _ _ _ _ _ us hl=>by obtain⟨_,rfl⟩:=zl1 hl;rfl
 have m14:=hAg X G a14;have b15:=F15.binds (ps:=["net"]) λ_ _ _ _ _ _ us hl=>by obtain⟨_,rfl⟩:=zl1 hl;rfl
 have m15:=hAg X G a15;have b16:=F16.binds (ps:=["net"]) λ_ _ _ _ _ _ us hl=>by obtain⟨_,rfl⟩:=zl1 hl;rfl
 have m16:=hAg X G a16;have b17:=F17.binds (ps:=["net"]) λ_ _ _ _ _ _ us hl=>by obtain⟨_,rfl⟩:=zl1 hl;rfl
 have m17:=hAg X G a17;have b18:=F18.binds (ps:=["net","point"]) λ_ _ _ _ _ _ us hl=>by obtain⟨_,_,rfl⟩:=zl2 hl;rfl
 have m18:=hAg X G a18;have b19:=F19.binds (ps:=["net"]) λ_ _ _ _ _ _ us hl=>by obtain⟨_,rfl⟩:=zl1 hl;rfl
 have m19:=hAg X G a19;have b20:=F20.binds (ps:=["net","ties","places"]) λ_ _ _ _ _ _ us hl=>by obtain⟨_,_,_,rfl⟩:=zl3 hl;rfl
 have m20:=hAg X G a20;have b21:=F21.binds (ps:=["net","tie","point","other"]) λ_ _ _ _ _ _ us hl=>by obtain⟨_,_,_,_,rfl⟩:=zl4 hl;rfl
 have m21:=hAg X G a21;have b22:=F22.binds (ps:=["net","name"]) λ_ _ _ _ _ _ us hl=>by obtain⟨_,_,rfl⟩:=zl2 hl;rfl
 have m22:=hAg X G a22;have b23:=F23.binds (ps:=["net","name"]) λ_ _ _ _ _ _ us hl=>by obtain⟨_,_,rfl⟩:=zl2 hl;rfl
 have m23:=hAg X G a23;have b24:=F24.binds (ps:=["net","deed"]) λ_ _ _ _ _ _ us hl=>by obtain⟨_,_,rfl⟩:=zl2 hl;rfl
 have m24:=hAg X G a24;have b25:=F25.binds (ps:=["self","net"]) λ_ _ _ _ _ _ us hl=>by obtain⟨_,_,rfl⟩:=zl2 hl;rfl
 have b26:=F26.binds (ps:=["self","deed"]) λ_ _ _ _ _ _ us hl=>by obtain⟨_,_,rfl⟩:=zl2 hl;rfl
 have b27:=F27.binds (ps:=["self"]) λ_ _ _ _ _ _ us hl=>by obtain⟨_,rfl⟩:=zl1 hl;rfl
 have b28:=F28.binds (ps:=["self"]) λ_ _ _ _ _ _ us hl=>by obtain⟨_,rfl⟩:=zl1 hl;rfl
 have b29:=F29.binds (ps:=["_law_script","_law_k"]) λ_ _ _ _ _ _ us hl=>by obtain⟨_,_,rfl⟩:=zl2 hl;rfl
 have m29:=hAg X G a29;have b30:=F30.binds (ps:=["_law_script","_law_k"]) λ_ _ _ _ _ _ us hl=>by obtain⟨_,_,rfl⟩:=zl2 hl;rfl
 have m30:=hAg X G a30;have b31:=F31.binds (ps:=["_law_big_here","_law_many"]) λ_ _ _ _ _ _ us hl=>by obtain⟨_,_,rfl⟩:=zl2 hl;rfl
 have m31:=hAg X G a31;have b32:=F32.binds (ps:=["_law_big_here","_law_many","_law_spread"]) λ_ _ _ _ _ _ us hl=>by obtain⟨_,_,_,rfl⟩:=zl3 hl;rfl
 have m32:=hAg X G a32;have b33:=F33.binds (ps:=["_law_script","_law_at"]) λ_ _ _ _ _ _ us hl=>by obtain⟨_,_,rfl⟩:=zl2 hl;rfl
 have m33:=hAg X G a33;have b34:=F34.binds (ps:=["_law_numbers"]) λ_ _ _ _ _ _ us hl=>by obtain⟨_,rfl⟩:=zl1 hl;rfl
 have m34:=hAg X G a34;have b35:=F35.binds (ps:=["_law_net_here"]) λ_ _ _ _ _ _ us hl=>by obtain⟨_,rfl⟩:=zl1 hl;rfl
 have m35:=hAg X G a35;have b36:=F36.binds (ps:=["_law_names_here","_law_number"]) λ_ _ _ _ _ _ us hl=>by obtain⟨_,_,rfl⟩:=zl2 hl;rfl
 have m36:=hAg X G a36;have b37:=F37.binds (ps:=["_law_names_here","_law_numbers"]) λ_ _ _ _ _ _ us hl=>by obtain⟨_,_,rfl⟩:=zl2 hl;rfl
 have m37:=hAg X G a37;have b38:=F38.binds (ps:=["_law_found","_law_due_here"]) λ_ _ _ _ _ _ us hl=>by obtain⟨_,_,rfl⟩:=zl2 hl;rfl
 have m38:=hAg X G a38;have b39:=F39.binds (ps:=["_law_names_here","_law_big_here"]) λ_ _ _ _ _ _ us hl=>by obtain⟨_,_,rfl⟩:=zl2 hl;rfl
 have m39:=hAg X G a39;have b40:=F40.binds (ps:=["_law_net_here","_law_big_here"]) λ_ _ _ _ _ _ us hl=>by obtain⟨_,_,rfl⟩:=zl2 hl;rfl
 have m40:=hAg X G a40;have b41:=F41.binds (ps:=["_law_word_here"]) λ_ _ _ _ _ _ us hl=>by obtain⟨_,rfl⟩:=zl1 hl;rfl
 have m41:=hAg X G a41;have b42:=F42.binds (ps:=["_law_net_here","_law_deed_here"]) λ_ _ _ _ _ _ us hl=>by obtain⟨_,_,rfl⟩:=zl2 hl;rfl
 have m42:=hAg X G a42;have b43:=F43.binds (ps:=["_law_bench","_law_deed_here"]) λ_ _ _ _ _ _ us hl=>by obtain⟨_,_,rfl⟩:=zl2 hl;rfl
 have m43:=hAg X G a43;have b44:=F44.binds (ps:=["_law_bench","_law_net_here"]) λ_ _ _ _ _ _ us hl=>by obtain⟨_,_,rfl⟩:=zl2 hl;rfl
 have m44:=hAg X G a44;have n_SIGNS:=hAg X G q1;have n_MOST_SIGNS:=hAg X G q2;have n_MOST_NAMES:=hAg X G q3;have n_MOST_ROWS:=hAg X G q4;have n_MOST_STEPS:=hAg X G q5;have n_ValueError:=hB0 X G z1;have n_abs:=hB0 X G z2;have n_all:=hB0 X G z3;have n_enumerate:=hB0 X G z4;have n_int:=hB0 X G z5;have n_isinstance:=hB0 X G z6;have n_len:=hB0 X G z7;have n_list:=hB0 X G z8;have n_max:=hB0 X G z9;have n_min:=hB0 X G z10;have n_range:=hB0 X G z11;have n_set:=hB0 X G z12;have n_sorted:=hB0 X G z13;have n_str:=hB0 X G z14;have n_sum:=hB0 X G z15;have n_tuple:=hB0 X G z16;have n_zip:=hB0 X G z17;have T:BCls K C:=⟨⟨pg,hd,po,sa⟩,nK⟩;have mC:=hAg X G aC;have mk:Mk K C f25:=⟨mkC,a25,i25,kc⟩;have md:Meth K C "do" f26:=⟨a26,i26,k26⟩;have mn:Meth K C "net" f27:=⟨a27,i27,k27⟩;have mt:Meth K C "table" f28:=⟨a28,i28,k28⟩;have Z:Refs K mg CN CT CS CI R:=⟨zD5 xaTooMany xbTooMany xcTooMany xdTooMany xg xh xeTooMany xfTooMany,zD5 xaNoTie xbNoTie xcNoTie xdNoTie xg xh xeNoTie xfNoTie,hAg X G yRoundError,hAg X G yNoNet,hAg X G yTooMany,hAg X G yNoStep,hAg X G yNoTie,n_ValueError,n_isinstance,hTooMany,hNoTie,vT,vI,oTooManyNoNet,(by unfold PySem.W.kitOne;rw[hDu (beq_iff_eq.mpr rfl)]),oTooManyNoStep,oTooManyNoTie,oNoTieNoNet,oNoTieTooMany,oNoTieNoStep,(by unfold PySem.W.kitOne;rw[hDu (beq_iff_eq.mpr rfl)])⟩;refine⟨PySem.W.fnOf "law" "law" (qAp qTd) (qAk qTd) (qAa qTd) .none kV45 dc45 pm45 an45 cd45 ct45,λs v=>.of_eq rfl,λbase kb nb=>?_⟩;have ON:=qRf kb nb yNoNet eNoNet;have OT:=qRf kb nb yTooMany eTooMany;have OI:=qRf kb nb yNoTie eNoTie;have g1:=qX0 (P:=l.prog) (w:=w) (base:=base) F1  n_len n_isinstance n_str n_all n_SIGNS n_MOST_SIGNS;have g2:=qT5 (P:=l.prog) (w:=w) (base:=base) F2 ⟨g1,b1,k1,m1⟩ n_isinstance n_list n_all n_zip;have g3:=qX1 (P:=l.prog) (w:=w) (mg:=mg) (base:=base) F3;have g4:=qTz (P:=l.prog) (w:=w) (base:=base) F4  n_len n_enumerate;have g5:=qX4 (P:=l.prog) (w:=w) (base:=base) F5  n_min;have g6:=qXz (P:=l.prog) (w:=w) (base:=base) F6 ⟨g5,b5,k5,m5⟩ n_min n_sorted;have g7:=qX5 (P:=l.prog) (w:=w) (mg:=mg) (base:=base) F7;have g8:=zBd (P:=l.prog) (w:=w) (base:=base) F8 ⟨g7,b7,k7,m7⟩ n_sum n_range;have g9:=qXy (P:=l.prog) (w:=w) (base:=base) F9 ⟨g4,b4,k4,m4⟩ ⟨g6,b6,k6,m6⟩ n_list;have g11:=qTy (P:=l.prog) (w:=w) (base:=base) F11 ⟨g3,b3,k3,m3⟩ ⟨g6,b6,k6,m6⟩;have g10:=qX6 (P:=l.prog) (w:=w) (base:=base) F10 ⟨g11,b11,k11,m11⟩ n_len n_MOST_NAMES n_MOST_ROWS n_MOST_STEPS;have g12:=qT6 (P:=l.prog) (w:=w) (base:=base) F12 ⟨g9,b9,k9,m9⟩ ⟨g8,b8,k8,m8⟩ ⟨g11,b11,k11,m11⟩ n_len;have g13:=qT4 (P:=l.prog) (w:=w) (base:=base) F13 ⟨g1,b1,k1,m1⟩ n_isinstance n_tuple n_all n_len;have g16:=qXx (P:=l.prog) (w:=w) (mg:=mg) (base:=base) F16;have g14:=qX9 (P:=l.prog) (w:=w) (base:=base) F14 ⟨g13,b13,k13,m13⟩ ⟨g2,b2,k2,m2⟩ ⟨g16,b16,k16,m16⟩ n_isinstance n_list n_all;have g17:=qRl (P:=l.prog) (w:=w) (base:=base) F17  n_sorted;have g18:=zA8 (P:=l.prog) (w:=w) (mg:=mg) (base:=base) F18;have g19:=qTx (P:=l.prog) (w:=w) (base:=base) F19 ⟨g12,b12,k12,m12⟩ ⟨g16,b16,k16,m16⟩ ⟨g18,b18,k18,m18⟩ ⟨g17,b17,k17,m17⟩;have g15:=zBb (P:=l.prog) (w:=w) (base:=base) F15 ⟨g10,b10,k10,m10⟩ ⟨g19,b19,k19,m19⟩ n_len n_MOST_NAMES;have g20:=qT1 (P:=l.prog) (w:=w) (base:=base) F20  n_min n_max;have g21:=qXw (P:=l.prog) (w:=w) (base:=base) F21 hBz hBz OI OT ⟨g1,b1,k1,m1⟩ ⟨g16,b16,k16,m16⟩ ⟨g15,b15,k15,m15⟩ n_all n_sorted n_min n_max;have g22:=qO3 (P:=l.prog) (w:=w) (base:=base) F22 hBz hBz OI ⟨g16,b16,k16,m16⟩;have g23:=qRk (P:=l.prog) (w:=w) (base:=base) F23 ⟨g22,b22,k22,m22⟩ ⟨g16,b16,k16,m16⟩ ⟨g20,b20,k20,m20⟩;have g24:=qT7 (P:=l.prog) (w:=w) (base:=base) F24 ⟨g21,b21,k21,m21⟩ ⟨g22,b22,k22,m22⟩ ⟨g23,b23,k23,m23⟩ n_len n_isinstance n_tuple;have g25:=qX7 (P:=l.prog) (w:=w) (base:=base) F25 T hBz hBz ON OT ⟨g14,b14,k14,m14⟩ ⟨g15,b15,k15,m15⟩ n_list;have g26:=zDn (P:=l.prog) (w:=w) (base:=base) F26 T ⟨g24,b24,k24,m24⟩;have g27:=qYe (P:=l.prog) (w:=w) (base:=base) F27 T n_list;have g28:=qYd (P:=l.prog) (w:=w) (base:=base) F28 T ⟨g19,b19,k19,m19⟩;have g29:=qYc (P:=l.prog) (w:=w) (base:=base) F29  n_len;have g30:=zBe (P:=l.prog) (w:=w) (base:=base) F30 ⟨g29,b29,k29,m29⟩ n_range n_abs;have g31:=qT0 (P:=l.prog) (w:=w) (base:=base) F31  n_range n_len;have g32:=qYa (P:=l.prog) (w:=w) (base:=base) F32  n_range n_len n_list;have g33:=zA7 (P:=l.prog) (w:=w) (base:=base) F33 ⟨g30,b30,k30,m30⟩ ⟨g32,b32,k32,m32⟩ ⟨g31,b31,k31,m31⟩ n_len n_zip n_tuple n_sorted;have g34:=qX3 (P:=l.prog) (w:=w) (mg:=mg) (base:=base) F34;have g35:=qT3 (P:=l.prog) (w:=w) (base:=base) F35  n_sorted n_set n_enumerate;have g36:=qX2 (P:=l.prog) (w:=w) (base:=base) F36  n_enumerate;have g37:=qRm (P:=l.prog) (w:=w) (base:=base) F37 ⟨g36,b36,k36,m36⟩ ⟨g34,b34,k34,m34⟩ n_list n_sorted;have g38:=qT2 (P:=l.prog) (w:=w) (base:=base) F38  n_len n_list n_tuple n_isinstance n_all;have g39:=zBf (P:=l.prog) (w:=w) (base:=base) F39  n_len;have g40:=qYb (P:=l.prog) (w:=w) (base:=base) F40 ⟨g39,b39,k39,m39⟩ n_sorted n_set n_range n_str;have g41:=zA9 (P:=l.prog) (w:=w) (base:=base) F41  n_len n_isinstance n_str n_all;have g42:=zBc (P:=l.prog) (w:=w) (base:=base) F42 ⟨g41,b41,k41,m41⟩ ⟨g35,b35,k35,m35⟩ n_len n_sorted n_tuple;have g43:=qXv (P:=l.prog) (w:=w) (base:=base) F43 Z T md n_zip n_int g26 b26;have g44:=qX8 (P:=l.prog) (w:=w) (base:=base) F44 T mn mt g27 b27 g28 b28 ⟨g37,b37,k37,m37⟩ ⟨g35,b35,k35,m35⟩ ⟨g38,b38,k38,m38⟩ n_isinstance n_list;exact zBa F45 mk mC ⟨g33,b33,k33,m33⟩ ⟨g30,b30,k30,m30⟩ ⟨g40,b40,k40,m40⟩ ⟨g42,b42,k42,m42⟩ ⟨g43,b43,k43,m43⟩ g25 b25 ⟨g44,b44,k44,m44⟩ n_list n_range
theorem walk{l:PySem.W.OpenLaw}{q:Program}{loose:List Str}{XP:(Str->Option Value)->Heap->Prop}{YP:World->Heap->Prop}{d:DefRec}{K:Params->PySem.W.Frag}(hn:l.most=some 63)(hdf:d.params.defaults=[])
  (hY:∀(w:World) (h:Heap),YP w h->(K w.params).In h)
  (F:∀(w:World) (mg:Str->Option Value) (fa:Addr) (h:Heap),(K w.params).In h->h.Ns mainGlobals mg->mg d.name=some (.ref fa) ->
   ∃fd:FuncData,(∀(s:Shared) (u:Value),BindsTo s fd ⟨[u],[]⟩ [("_law_script",u)])/\∀base:Heap,(K w.params).In base->base.Ns mainGlobals mg->FnOk l.prog w (K w.params) mg base CX0 11 fa fd ["_law_script"] (qS7 (K w.params))) :
  PySem.W.WalkO q loose XP YP l.row.toRowW d [] (λf vs=>PySem.call f vs) :=
 L2.walk_of (n:=63) (k:=11) (x:="_law_script") (CX:=λ_=>CX0) (sp:=λw=>qS7 (K w.params)) hn (by decide) hdf ⟨rfl,by decide,by decide,rfl⟩ hY F (λ_ _ a ns hl _ hS=>⟨a,ns,rfl,hS,hl,λ_=>rfl⟩) λ_ _ _ _ _ z=>z
end My
namespace PySem.W.Fast
def tw10003789613415886483:=0
def tw10009250651446991982:=0
def tw10035220936294597340:=0
def tw10049001026873087019:=0
def tw10133196119216780141:=0
def tw10138665135277043500:=0
def tw10156246022169635243:=0
def tw10187033671817661129:=0
def tw10213309277929250011:=0
def tw10332695835941387045:=0
def tw10363452209970109492:=0
def tw10448210812942512676:=0
def tw10452338766654775837:=0
def tw10516300296171573585:=0
def tw10546964863586300947:=0
def tw10552278815586117135:=0
def tw10558595200103595345:=0
def tw10570684341048660018:=0
def tw10609124060610689760:=0
def tw10609954000588064587:=0
def tw10611882845031511994:=0
def tw10644270808294307937:=0
def tw1066631683764539752:=0
def tw10680854433147492897:=0
def tw10737906287636982996:=0
def tw10769522636776489232:=0
def tw1085135482799726442:=0
def tw10854229771548445601:=0
def tw1087472287737960669:=0
def tw1089597160857367523:=0
def tw10914296344377266908:=0
def tw11083377567115869655:=0
def tw11239024610186172673:=0
def tw11264246131879773825:=0
def tw11277495005070329942:=0
def tw11298079166704352295:=0
def tw11302315312396433519:=0
def tw11344121645297055093:=0
def tw11442460362096998417:=0
def tw11453774923400045117:=0
def tw11480676859047376384:=0
def tw11483879565592374508:=0
def tw1150635050114902013:=0
def tw11564557394022643719:=0
def tw11584473365026885098:=0
def tw11600945574363811926:=0
def tw11620707778390998839:=0
def tw11667040328784494339:=0
def tw11701184117017101653:=0
def tw11716788520584962042:=0
def tw11726586336445275757:=0
def tw11738038596144449705:=0
def tw11787148239352258515:=0
def tw11869733335296379124:=0
def tw11874217766261451977:=0
def tw11908306266622292249:=0
def tw11947086675548238181:=0
def tw11952444801392205742:=0
def tw12021696883652563232:=0
def tw12027974145965173339:=0
def tw1210417213296505234:=0
def tw12120577311987864246:=0
def tw12129735566288434235:=0
def tw12134688725245253527:=0
def tw12166583056961670620:=0
def tw12204194057665885752:=0
def tw12252473082179800680:=0
def tw12274684229041641661:=0
def tw12339075685407056954:=0
def tw12410961045433294919:=0
def tw12499064371221551957:=0
def tw12538152767622702690:=0
def tw12590227418948361695:=0
def tw12595041051580159104:=0
def tw126665886113670547:=0
def tw12711824216778623618:=0
def tw12742206372444575141:=0
def tw12790525182093940441:=0
def tw12822878762587321353:=0
def tw1286812410816763394:=0
def tw12911963198077760037:=0
def tw12912720775272174678:=0
def tw12920669924992520044:=0
def tw1299944175722078146:=0
def tw12999580288872529610:=0
def tw13024474577146194583:=0
def tw13088656606706903166:=0
def tw13107884094119766585:=0
def tw13123093602874938920:=0
def tw13124290446952762223:=0
def tw13153142381267808036:=0
def tw1316571796928363169:=0
def tw13259012238295667230:=0
def tw13306925171567398746:=0
def tw13319281403099025537:=0
def tw13325961962221100227:=0
def tw13347977135721322887:=0
def tw13435870134876225813:=0
def tw13509592951150348139:=0
def tw13566043006615954406:=0
def tw13573890367296208011:=0
def tw13584572651098582427:=0
def tw13588371741514320095:=0
def tw13597253787828267062:=0
def tw13605627571836715723:=0
def tw13645648026107940823:=0
def tw13713461925686625807:=0
def tw13791275708683031603:=0
def tw13801143742132738822:=0
def tw13840391462991869733:=0
def tw13875016687434569251:=0
def tw14020076543271127065:=0
def tw14045808120756680076:=0
def tw14126784003570119317:=0
def tw14128399417997134546:=0
def tw14133260398156502987:=0
def tw1418376732342228514:=0
def tw14196005623008988601:=0
def tw14205298713647910381:=0
def tw14285130053910163855:=0
def tw14288859811257095660:=0
def tw14293467668940507893:=0
def tw14304418941281491395:=0
def tw14315162485725692538:=0
def tw14315271643061573936:=0
def tw14330410944616429390:=0
def tw14331228429828243605:=0
def tw14339339308177119673:=0
def tw14343029991681929765:=0
def tw1436308931857440197:=0
def tw14493359235969030169:=0
def tw14497296516320079828:=0
def tw14506138798639519810:=0
def tw14519906751309602332:=0
def tw14632224262281016823:=0
def tw14700625338507632572:=0
def tw14717089886537661772:=0
def tw14723664951633584906:=0
def tw14729189358105672423:=0
def tw14739642452462573860:=0
def tw14832331606417258059:=0
def tw1486064662607300081:=0
def tw14897172854376965263:=0
def tw14906156761056552643:=0
def tw14939003194028692678:=0
def tw14945209260169781115:=0
def tw14998912865622600580:=0
def tw15094609271526109638:=0
def tw15122389496285434566:=0
def tw151729128953059811:=0
def tw15275744700086760642:=0
def tw15317174733943300316:=0
def tw15325169658082350832:=0
def tw15343173850878128156:=0
def tw15370685226147372481:=0
def tw15442151507824068631:=0
def tw15481501726974373119:=0
def tw15637809889413150249:=0
def tw15700176306742630466:=0
def tw15787769854901241981:=0
def tw15858458004423886795:=0
def tw1593626221375723327:=0
def tw16019416484458498493:=0
def tw16039410509607643432:=0
def tw16078942413476163490:=0
def tw16121894700985843829:=0
def tw16131957065838741078:=0
def tw16161964488916726722:=0
def tw16204741133245588595:=0
def tw16209918948082700096:=0
def tw16210696473267714712:=0
def tw16228784109877906144:=0
def tw16289173883560854147:=0
def tw16299185008777616288:=0
def tw16306954132498035355:=0
def tw16364475596501444182:=0
def tw16395078194003115959:=0
def tw16395499862750672598:=0
def tw16460680544647480160:=0
def tw16487219332692797703:=0
def tw16504968576221440580:=0
def tw16541730552611102833:=0
def tw16614089044353179443:=0
def tw16640448837819137948:=0
def tw16661534014847906626:=0
def tw16668134616688807650:=0
def tw16682313517172852416:=0
def tw16698380928286916696:=0
def tw16795635899375019108:=0
def tw1686624659091605547:=0
def tw16890812801288952763:=0
def tw1703727412947344018:=0
def tw17072194928781761104:=0
def tw17081109042796285684:=0
def tw17099383484380391678:=0
def tw17122182837686565548:=0
def tw17196524188694497975:=0
def tw17205316634022330560:=0
def tw17226612506790557588:=0
def tw17342848651308322370:=0
def tw17368905229530396537:=0
def tw17385385373772424092:=0
def tw17387115949709847666:=0
def tw17397071382801737759:=0
def tw17415067599062999744:=0
def tw17433458035705271731:=0
def tw17434048571430687063:=0
def tw17513847503788874737:=0
def tw17523537238195871796:=0
def tw17525283460911775420:=0
def tw17527042576580852619:=0
def tw17586277656424630000:=0
def tw17598800530161462364:=0
def tw17653314923079948824:=0
def tw17727060411730317626:=0
def tw17779162061207669964:=0
def tw17792847008960583079:=0
def tw17797430698658414968:=0
def tw17823695117569880301:=0
def tw17851801056303928259:=0
def tw1804451284901590510:=0
def tw18054220741663192809:=0
def tw18060978323252153834:=0
def tw18071649705930969457:=0
def tw18240471739585534024:=0
def tw18320951506558290832:=0
def tw18357950681279749826:=0
def tw18438268275356773123:=0
def tw18440394949428398946:=0
def tw1886344774815380447:=0
def tw1894374270847812948:=0
def tw1898654053351641216:=0
def tw1947765803531700977:=0
def tw1997686440613504962:=0
def tw2035592647808725814:=0
def tw2035863882473631178:=0
def tw2138833761378243525:=0
def tw2159804400298123236:=0
def tw2162407265280339130:=0
def tw2260104580853254812:=0
def tw2307864743470255893:=0
def tw2344696462616839734:=0
def tw2352607842977667406:=0
def tw2394152931672070059:=0
def tw2439284533035131422:=0
def tw2498728053422033999:=0
def tw2500247816691011787:=0
def tw250277768401310557:=0
def tw2574512254183771679:=0
def tw2578737328294101976:=0
def tw258473914210143921:=0
def tw2616551902669071935:=0
def tw264708740614335554:=0
def tw2674269391872071933:=0
def tw2718961155192369422:=0
def tw2722119993190412251:=0
def tw2743949437026815013:=0
def tw2817963837869054284:=0
def tw2831423864545733490:=0
def tw2889658234628404930:=0
def tw2913297757706945461:=0
def tw2918213678918030843:=0
def tw2967764533369394979:=0
def tw302265951683022548:=0
def tw3114928030639089045:=0
def tw3121086088358336511:=0
def tw3121170209573010793:=0
def tw3181596335408500955:=0
def tw326308849254162588:=0
def tw3274444608961886579:=0
def tw3322963525316127362:=0
def tw3334413638503639296:=0
def tw335165797589077379:=0
def tw340054882256348458:=0
def tw3408215008206478882:=0
def tw3413050486934398347:=0
def tw3420869917378519309:=0
def tw3459945667205423117:=0
def tw3462715302828459945:=0
def tw3478732852977910370:=0
def tw3487581372963527626:=0
def tw3535745796552391515:=0
def tw3544323882552466804:=0
def tw3546218040628590882:=0
def tw3570419336156639794:=0
def tw3627549508982968282:=0
def tw3639678785545920474:=0
def tw3895789215123710294:=0
def tw3898571848099787054:=0
def tw3905970621263923786:=0
def tw3922377294034130159:=0
def tw3980065176923405320:=0
def tw4011017258687894561:=0
def tw4067280878834634083:=0
def tw4135238501507648644:=0
def tw4187090735539105264:=0
def tw4205687824378928103:=0
def tw4273595770576484234:=0
def tw430086615493862792:=0
def tw4308140169339636018:=0
def tw4311277701599149145:=0
def tw441848896371544291:=0
def tw4434129246863599483:=0
def tw444421226151995179:=0
def tw4447984391643853720:=0
def tw4460380406379045630:=0
def tw4499499488146620757:=0
def tw4548795405410877349:=0
def tw4553048030999988753:=0
def tw4557496201786787570:=0
def tw4570421434939285390:=0
def tw4591019167106949607:=0
def tw4646000963460438698:=0
def tw4693345417689196531:=0
def tw473398592156384414:=0
def tw4769696772226153335:=0
def tw4778695331464412480:=0
def tw478852803856129889:=0
def tw481261381650279696:=0
def tw4813289412914125509:=0
def tw4835334707935027559:=0
def tw4941719685871922751:=0
def tw4964982741724695412:=0
def tw4975747912767704225:=0
def tw4982892840012021469:=0
def tw4993457320402552428:=0
def tw5009731182860846017:=0
def tw5040228710742562210:=0
def tw5062084908257070871:=0
def tw5131856407839965643:=0
def tw5142968761221978402:=0
def tw5178606582754314808:=0
def tw5207895396455251936:=0
def tw5277015623660062780:=0
def tw5277673171332352922:=0
def tw5387229436263733324:=0
def tw538794301224575094:=0
def tw5391639068837987219:=0
def tw5398462202165512979:=0
def tw5485602271738552068:=0
def tw5509799028207933077:=0
def tw5517625770146819585:=0
def tw5548881703566144140:=0
def tw5603561408392098803:=0
def tw5615288944807178640:=0
def tw5683511651166444947:=0
def tw5684602782519215010:=0
def tw5701252934731531329:=0
def tw5720422497882396458:=0
def tw5728783818667379933:=0
def tw5814510843084012625:=0
def tw5992371111016478183:=0
def tw6014337846293248571:=0
def tw6051471465209291913:=0
def tw6241374974770643873:=0
def tw6265188629496421703:=0
def tw6391690261816933706:=0
def tw6395963766632613470:=0
def tw6412731913723494018:=0
def tw6481871420076419420:=0
def tw6528881970962687254:=0
def tw6533360170177931130:=0
def tw6793143519728783982:=0
def tw6816307177261466602:=0
def tw6880088105805257885:=0
def tw6950858411665512602:=0
def tw6978914222874000989:=0
def tw6988471742518019610:=0
def tw7074123597910083900:=0
def tw7086786528449077059:=0
def tw7114948172479278099:=0
def tw717095425744598169:=0
def tw7181821584589781602:=0
def tw7276732947742835415:=0
def tw7297417758331646236:=0
def tw7344410935412718013:=0
def tw7344753158545808601:=0
def tw7374082114782185950:=0
def tw7438756409098419631:=0
def tw749587938341361767:=0
def tw7502225166361298135:=0
def tw7506503067065725796:=0
def tw7551984082783805172:=0
def tw7742214736166414455:=0
def tw780293158189853852:=0
def tw7831849520379075080:=0
def tw7838806829440415843:=0
def tw7866367366160712230:=0
def tw7887851135621524434:=0
def tw7901116915083088624:=0
def tw7983138934524902949:=0
def tw8120710386546150377:=0
def tw8142592152708754996:=0
def tw8172726077507992863:=0
def tw8184921964737875151:=0
def tw8201858506373753307:=0
def tw8207985973512733906:=0
def tw8256521352067186786:=0
def tw8271575461753314017:=0
def tw8286446597096750034:=0
def tw8342496538405299926:=0
def tw8403441974721074544:=0
def tw8495862658740101113:=0
def tw8544983170548740822:=0
def tw8553422356889897480:=0
def tw8578979935885662184:=0
def tw8608962040280954247:=0
def tw8636180170152454774:=0
def tw864021486001060618:=0
def tw8659910690903576672:=0
def tw8679886623432803331:=0
def tw8686142977078362003:=0
def tw8705203548876545879:=0
def tw8799727161281883436:=0
def tw8818844398186127410:=0
def tw888578409978360286:=0
def tw8906293517577368603:=0
def tw8945421258542315846:=0
def tw8947185941543566401:=0
def tw9021748301808335351:=0
def tw9182422476614321270:=0
def tw9195932533044589718:=0
def tw9221607536652869212:=0
def tw9229391810810404364:=0
def tw9252385611793660943:=0
def tw9280834794469924038:=0
def tw9298983660184831690:=0
def tw9321061070444681793:=0
def tw9326323221276767668:=0
def tw9380870983698995393:=0
def tw9392982086107120794:=0
def tw946432518600272385:=0
def tw9485234965229228215:=0
def tw9570229705946939389:=0
def tw9598169703825858415:=0
def tw9633525395634638355:=0
def tw9659640230561048351:=0
def tw966653281138495834:=0
def tw9706393130657847090:=0
def tw9781452593418277351:=0
def tw9783145566472360687:=0
def tw9878658094430601669:=0
def tw9914367839079433351:=0
def tw9967309451384951644:=0
def tw9984754231599973544:=0
def tw9993892857447817637:=0
def tw16438279451693975762:=0
def tw7638201912421888799:=0
def tw18169226025738729316:=0
end PySem.W.Fast
open PySem PySem.W PyProof.Rows
set_option maxRecDepth 100000 in
set_option maxHeartbeats 0 in
set_option maxHeartbeats 16000000 in
theorem PySem.Challenge.cw_roundsalone_k74_deeds_of_benches_holds : PySem.Challenge.rw_roundsalone_k74_deeds_of_benches.Holds := by
 w_on;o_law;k_head;(case hw=>w_witness2)
 k_fill
 refine My.walk (l:=PySem.Challenge.rw_roundsalone_k74_deeds_of_benches) rfl rfl (λw h Y=>PySem.W.kIn_of Y) ?F
 case F =>
  intro w mg fa h KX G hmg
  refine' My.all_mk KX G hmg ?aC ?a1 ?l1 ?c1 ?k1 ?a2 ?l2 ?c2 ?k2 ?a3 ?l3 ?c3 ?k3 ?a4 ?l4 ?c4 ?k4 ?a5 ?l5 ?c5 ?k5 ?a6 ?l6 ?c6 ?k6 ?a7 ?l7 ?c7 ?k7 ?a8 ?l8 ?c8 ?k8 ?a9 ?l9 ?c9 ?k9 ?a10 ?l10 ?c10 ?k10 ?a11 ?l11 ?c11 ?k11 ?a12 ?l12 ?c12 ?k12 ?a13 ?l13 ?c13 ?k13 ?a14 ?l14 ?c14 ?k14 ?a15 ?l15 ?c15 ?k15 ?a16 ?l16 ?c16 ?k16 ?a17 ?l17 ?c17 ?k17 ?a18 ?l18 ?c18 ?k18 ?a19 ?l19 ?c19 ?k19 ?a20 ?l20 ?c20 ?k20 ?a21 ?l21 ?c21 ?k21 ?a22 ?l22 ?c22 ?k22 ?a23 ?l23 ?c23 ?k23 ?a24 ?l24 ?c24 ?k24 ?a25 ?i25 ?l25 ?c25 ?k25 ?a26 ?i26 ?l26 ?c26 ?k26 ?a27 ?i27 ?l27 ?c27 ?k27 ?a28 ?i28 ?l28 ?c28 ?k28 ?a29 ?l29 ?c29 ?k29 ?a30 ?l30 ?c30 ?k30 ?a31 ?l31 ?c31 ?k31 ?a32 ?l32 ?c32 ?k32 ?a33 ?l33 ?c33 ?k33 ?a34 ?l34 ?c34 ?k34 ?a35 ?l35 ?c35 ?k35 ?a36 ?l36 ?c36 ?k36 ?a37 ?l37 ?c37 ?k37 ?a38 ?l38 ?c38 ?k38 ?a39 ?l39 ?c39 ?k39 ?a40 ?l40 ?c40 ?k40 ?a41 ?l41 ?c41 ?k41 ?a42 ?l42 ?c42 ?k42 ?a43 ?l43 ?c43 ?k43 ?a44 ?l44 ?c44 ?k44 ?a45 ?l45 ?c45 ?k45 ?q1 ?q2 ?q3 ?q4 ?q5 ?z1 ?z2 ?z3 ?z4 ?z5 ?z6 ?z7 ?z8 ?z9 ?z10 ?z11 ?z12 ?z13 ?z14 ?z15 ?z16 ?z17 ?pg ?hd ?po ?sa ?mkC ?kc ?nK ?yNoNet ?yTooMany ?yNoStep ?yNoTie ?yRoundError ?eNoNet ?eTooMany ?eNoTie ?xaTooMany ?xbTooMany ?xcTooMany ?xdTooMany ?xeTooMany ?xfTooMany ?xaNoTie ?xbNoTie ?xcNoTie ?xdNoTie ?xeNoTie ?xfNoTie ?xg ?xh ?hTooMany ?hNoTie ?vT ?vI ?oTooManyNoNet ?oTooManyNoStep ?oTooManyNoTie ?oNoTieNoNet ?oNoTieTooMany ?oNoTieNoStep
  (case aC=>k_is)
  (case a1=>k_is)
  (case l1=>k_is)
  (case c1=>k_is)
  (case k1=>k_is)
  (case a2=>k_is)
  (case l2=>k_is)
  (case c2=>k_is)
  (case k2=>k_is)
  (case a3=>k_is)
  (case l3=>k_is)
  (case c3=>k_is)
  (case k3=>k_is)
  (case a4=>k_is)
  (case l4=>k_is)
  (case c4=>k_is)
  (case k4=>k_is)
  (case a5=>k_is)
  (case l5=>k_is)
  (case c5=>k_is)
  (case k5=>k_is)
  (case a6=>k_is)
  (case l6=>k_is)
  (case c6=>k_is)
  (case k6=>k_is)
  (case a7=>k_is)
  (case l7=>k_is)
  (case c7=>k_is)
  (case k7=>k_is)
  (case a8=>k_is)
  (case l8=>k_is)
  (case c8=>k_is)
  (case k8=>k_is)
  (case a9=>k_is)
  (case l9=>k_is)
  (case c9=>k_is)
  (case k9=>k_is)
  (case a10=>k_is)
  (case l10=>k_is)
  (case c10=>k_is)
  (case k10=>k_is)
  (case a11=>k_is)
  (case l11=>k_is)
  (case c11=>k_is)
  (case k11=>k_is)
  (case a12=>k_is)
  (case l12=>k_is)
  (case c12=>k_is)
  (case k12=>k_is)
  (case a13=>k_is)
  (case l13=>k_is)
  (case c13=>k_is)
  (case k13=>k_is)
  (case a14=>k_is)
  (case l14=>k_is)
  (case c14=>k_is)
  (case k14=>k_is)
  (case a15=>k_is)
  (case l15=>k_is)
  (case c15=>k_is)
  (case k15=>k_is)
  (case a16=>k_is)
  (case l16=>k_is)
  (case c16=>k_is)
  (case k16=>k_is)
  (case a17=>k_is)
  (case l17=>k_is)
  (case c17=>k_is)
  (case k17=>k_is)
  (case a18=>k_is)
  (case l18=>k_is)
  (case c18=>k_is)
  (case k18=>k_is)
  (case a19=>k_is)
  (case l19=>k_is)
  (case c19=>k_is)
  (case k19=>k_is)
  (case a20=>k_is)
  (case l20=>k_is)
  (case c20=>k_is)
  (case k20=>k_is)
  (case a21=>k_is)
  (case l21=>k_is)
  (case c21=>k_is)
  (case k21=>k_is)
  (case a22=>k_is)
  (case l22=>k_is)
  (case c22=>k_is)
  (case k22=>k_is)
  (case a23=>k_is)
  (case l23=>k_is)
  (case c23=>k_is)
  (case k23=>k_is)
  (case a24=>k_is)
  (case l24=>k_is)
  (case c24=>k_is)
  (case k24=>k_is)
  (case a25=>k_is)
  (case i25=>k_is)
  (case l25=>k_is)
  (case c25=>k_is)
  (case k25=>k_is)
  (case a26=>k_is)
  (case i26=>k_is)
  (case l26=>k_is)
  (case c26=>k_is)
  (case k26=>k_is)
  (case a27=>k_is)
  (case i27=>k_is)
  (case l27=>k_is)
  (case c27=>k_is)
  (case k27=>k_is)
  (case a28=>k_is)
  (case i28=>k_is)
  (case l28=>k_is)
  (case c28=>k_is)
  (case k28=>k_is)
  (case a29=>k_is)
  (case l29=>k_is)
  (case c29=>k_is)
  (case k29=>k_is)
  (case a30=>k_is)
  (case l30=>k_is)
  (case c30=>k_is)
  (case k30=>k_is)
  (case a31=>k_is)
  (case l31=>k_is)
  (case c31=>k_is)
  (case k31=>k_is)
  (case a32=>k_is)
  (case l32=>k_is)
  (case c32=>k_is)
  (case k32=>k_is)
  (case a33=>k_is)
  (case l33=>k_is)
  (case c33=>k_is)
  (case k33=>k_is)
  (case a34=>k_is)
  (case l34=>k_is)
  (case c34=>k_is)
  (case k34=>k_is)
  (case a35=>k_is)
  (case l35=>k_is)
  (case c35=>k_is)
  (case k35=>k_is)
  (case a36=>k_is)
  (case l36=>k_is)
  (case c36=>k_is)
  (case k36=>k_is)
  (case a37=>k_is)
  (case l37=>k_is)
  (case c37=>k_is)
  (case k37=>k_is)
  (case a38=>k_is)
  (case l38=>k_is)
  (case c38=>k_is)
  (case k38=>k_is)
  (case a39=>k_is)
  (case l39=>k_is)
  (case c39=>k_is)
  (case k39=>k_is)
  (case a40=>k_is)
  (case l40=>k_is)
  (case c40=>k_is)
  (case k40=>k_is)
  (case a41=>k_is)
  (case l41=>k_is)
  (case c41=>k_is)
  (case k41=>k_is)
  (case a42=>k_is)
  (case l42=>k_is)
  (case c42=>k_is)
  (case k42=>k_is)
  (case a43=>k_is)
  (case l43=>k_is)
  (case c43=>k_is)
  (case k43=>k_is)
  (case a44=>k_is)
  (case l44=>k_is)
  (case c44=>k_is)
  (case k44=>k_is)
  (case a45=>k_is)
  (case l45=>k_is)
  (case c45=>k_is)
  (case k45=>k_is)
  (case q1=>k_is)
  (case q2=>k_is)
  (case q3=>k_is)
  (case q4=>k_is)
  (case q5=>k_is)
  (case z1=>k_is)
  (case z2=>k_is)
  (case z3=>k_is)
  (case z4=>k_is)
  (case z5=>k_is)
  (case z6=>k_is)
  (case z7=>k_is)
  (case z8=>k_is)
  (case z9=>k_is)
  (case z10=>k_is)
  (case z11=>k_is)
  (case z12=>k_is)
  (case z13=>k_is)
  (case z14=>k_is)
  (case z15=>k_is)
  (case z16=>k_is)
  (case z17=>k_is)
  (case pg=>k_is)
  (case hd=>k_is)
  (case po=>k_is)
  (case sa=>k_is)
  (case mkC=>k_is)
  (case kc=>k_is)
  (case nK=>k_is)
  (case yNoNet=>k_is)
  (case yTooMany=>k_is)
  (case yNoStep=>k_is)
  (case yNoTie=>k_is)
  (case yRoundError=>k_is)
  (case eNoNet=>k_exc)
  (case eTooMany=>k_exc)
  (case eNoTie=>k_exc)
  (case xaTooMany=>k_is)
  (case xbTooMany=>k_is)
  (case xcTooMany=>k_is)
  (case xdTooMany=>k_is)
  (case xeTooMany=>k_is)
  (case xfTooMany=>k_is)
  (case xaNoTie=>k_is)
  (case xbNoTie=>k_is)
  (case xcNoTie=>k_is)
  (case xdNoTie=>k_is)
  (case xeNoTie=>k_is)
  (case xfNoTie=>k_is)
  (case xg=>k_is)
  (case xh=>k_is)
  (case hTooMany=>kts_exm)
  (case hNoTie=>kts_exm)
  (case vT=>kit_is)
  (case vI=>kit_is)
  (case oTooManyNoNet=>kit_is)
  (case oTooManyNoStep=>kit_is)
  (case oTooManyNoTie=>kit_is)
  (case oNoTieNoNet=>kit_is)
  (case oNoTieTooMany=>kit_is)
  (case oNoTieNoStep=>kit_is)
#print axioms PySem.Challenge.cw_roundsalone_k74_deeds_of_benches_holds
