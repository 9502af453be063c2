import PyProof.Rows.All
import Wide.All
import OpenK.AllK
import Wide.FinOn
import Lean
import PyProof.EqAt
import PyProof.EqKinds
import PyProof.TupleCall
import KE.KSortKey
import KE.KLam
import KE.KRevIter
import PyProof.FactsAll.range_2
import PyProof.ReprBulk
import PyProof.FString5
import PyProof.Rows.MinMaxN
import PyProof.P3In
import KE.KSortTup
import PySem.Challenge.RW_roundsalone_k32_kinds_of_parts
noncomputable section
set_option Elab.async false
set_option linter.all false
set_option maxHeartbeats 16000000
set_option maxRecDepth 100000
open List renaming length_map→hA1,getElem?_eq_getElem→hA2,mem_singleton→hA3,map_append→hA4,take_of_length_le→hA5,mem_cons_of_mem→hA6,mem_append_right→hA7,mem_cons_self→hA8,getD_eq_getElem?_getD→hAa,mem_append→hAb,mem_of_getElem?→hAc,mem_filter→hAd,mem_map→hAe,length_append→hAf,mem_append_left→hAg,mem_cons→hAj,size_toArray→hAk,getElem?_map→hAl,length_take→hAm,getElem?_eq_some_iff→hAp,pairwise_cons→hAs,mem_map_of_mem→hAu,mem_range→hAv,length_filter_le→hAz,length_range→hB4,map_map→hB6,nodup_cons→hBb,map_congr_left→hBg,pairwise_append→hBh,map_cons→hBm,getElem_mem→hBn,pairwise_map→hBp,filter_append→hBr,filterMap_cons→hBs,foldl_append→hBt,getElem?_eq_none→hBu,pairwise_singleton→hBz,perm_ext_iff_of_nodup→hC7,length_cons→hC9,filter_sublist→hCa,append_nil→hCc,length_filterMap_le→hCf,range_succ→hCk,filter_cons_of_pos→hCo,filter_cons_of_neg→hCp,drop_eq_getElem_cons→hCs,mergeSort_perm→hCu,sum_cons→hCy,not_mem_nil→hD1,getElem?_range→hD3,getElem?_append_left→hD4,filterMap_append→hD6,mem_filterMap→hD8,map_singleton→hDb,lookup_cons→hDc,mem_of_mem_take→hDe,getElem?_of_mem→hDf,sum_append_nat→hDh,drop_of_length_le→hDj,length_eq_one_iff→hDk,getElem?_append_right→hDl,nodup_range→hDn,length_replicate→hDo,map_id'→hDq,nodup_append→hDu,ext_getElem?→hDv,filter_nil→hDw,all_eq_true→hE0,range_succ_eq_map→hE3,cons_lt_cons_iff→hE7,perm_append_comm→hE9,any_cons→hEb,any_eq_true→hEc
open Nat renaming le_refl→hA9,eq_of_testBit_eq→hAh,testBit_two_pow→hAi,testBit_xor→hAn,lt_of_lt_of_le→hAo,testBit_and→hAr,zero_le→hAt,le_trans→hAw,ne_of_lt→hAx,zero_testBit→hB0,testBit_zero→hB5,lt_pow_two_of_testBit→hB8,le_of_lt→hB9,pow_le_pow_right→hBd,xor_assoc→hBe,testBit_log2→hBo,le_succ→hBq,xor_self→hBv,zero_xor→hBy,lt_succ_of_lt→hC1,testBit_two_pow_sub_one→hC4,mod_two_eq_zero_or_one→hC6,lt_succ_self→hC8,pow_lt_pow_right→hCb,not_lt_zero→hCe,xor_lt_two_pow→hCg,testBit_or→hCi,ne_of_gt→hCj,xor_comm→hCl,testBit_succ→hCn,lt_irrefl→hCv,one_le_two_pow→hCz,succ_le_succ→hD0,testBit_eq_decide_div_mod_eq→hD2,pow_succ→hD7,lt_of_le_of_lt→hDa,testBit_lt_two_pow→hDi,lt_log2_self→hDm,shiftRight_eq_div_pow→hDr,log2_lt→hDx,le_add_right→hE1,le_antisymm→hEa,xor_zero→hEd
open Option.some renaming inj→hAq
open PySem renaming boot_len→hAy,mem_of_lookup→hCh,wpAny_bind→hEe,wpAny_pure→hEh,wpAny_loadPart'→hEm,sizeLine_eq→hEn,wpAny_call_entry→hEo,wpAny_mono→hEq,codeAny_builtin→hEr,wpAny_holding→hEs,wpAny_truthy_bool→hEt,wpAny_newObj_type→hEu,wpAny_Call_Name_kw→hEv,plainId_quiet→hEw,wpAny_newList→hEx,wpAny_passesOwn→hEy,wpAny_setState_of→hEz,wpAny_getItem_str_slice→hF0,wpAny_of_eq→hF1,wpAny_setEntries_of→hF2,wpAny_askSetting→hF6,wpAny_setField_rec→hF7,codeAny_mono→hF9,wpAny_attempt→hFa,wpAny_pyIter_list→hFc,fits_of_scanBound→hFd,wpAny_newTuple→hFg,call_meets→hFj,wpAny_execs_nil→hFl,pushCells_keeps→hFm,post_val_or_str→hFn,wpAny_fieldsOf→hFr,wpAny_rule→hFs
open PySem.F renaming plainAttrs_list→hB1,slot_list_append→hBk,type_list_append→hBl,called_set→hCx,slot_list_index→hDy,type_list_index→hDz
open Bool renaming false_ne_true→hB3,true_and→hBw,and_eq_true→hCm,false_eq_true→hCq,not_eq_true→hDd,and_false→hDs,eq_iff_iff→hE4,or_eq_true→hE5
open Int renaming toNat_natCast→hB7,emod_lt_of_pos→hBc,emod_nonneg→hBj,toNat_of_nonneg→hCt,natCast_nonneg→hD9
open PySem.W renaming mg_none_of→hBf,kia_one→hCr,cellsFrom_some→hE2
open Array renaming getElem?_toList→hBi,length_toList→hC3,perm_iff_toList_perm→hC5,getD_eq_getD_getElem?→hCd,getElem?_eq_getElem→hD5
open List.Pairwise renaming imp_of_mem→hBx
open Classical renaming byContradiction→hC0
open PyProof.Rows renaming callWith_type1→hCw,kws_cons→hDp,kws_nil→hDt,listUpdate_at→hEp,seqEpoch_at→hF8,listItems_at→hFh,size_push'→hFk,plain_sorted→hFp,entry_sorted→hFq
open List.Perm renaming refl→hDg,of_eq→hE8
open Array.Perm renaming refl→hE6
open PySem.SeqAt renaming canLay_of_shaped→hFi
abbrev hEf:=@decide_eq_true
abbrev hEg:=@decide_eq_false
abbrev hEi:=@of_decide_eq_true
abbrev hEj:=@if_neg
abbrev hEk:=@if_pos
abbrev hEl:=@decide_eq_true_iff
abbrev hF3:=@beq_self_eq_true
abbrev hFb:=@of_decide_eq_false
abbrev hFe:=@bne_self_eq_false
abbrev hFf:=@if_false
abbrev hFo:=@or_false
set_option hygiene false
local macro_rules
|`(kO1)=>`((by intro vs H Q E h;repeat (first|(obtain⟨e,_⟩:=h;subst e;rfl)|(obtain⟨_,h⟩:=h))))
|`(kO2)=>`((by first|exact .inl rfl|exact .inr rfl|assumption))
|`(kO3)=>`((by first|exact Or.inl rfl|exact Or.inr vE|exact Or.inr (Or.inr rfl)))
|`(v4 $i $s $e)=>`(qAi (i:=$i) (FnScope.nd $s) rfl (Or.inl rfl) $e)
|`(v5 $i $s)=>`(qAm (i:=$i) (FnScope.nd $s) rfl (Or.inl rfl))
|`(v6 $i $s $e)=>`(qAi (i:=$i) (FnScope.nd $s) rfl (Or.inr rfl) $e)
|`(v7 $i $s)=>`(qAm (i:=$i) (FnScope.nd $s) rfl (Or.inr rfl))
|`(v8 $a $b $c $d $e)=>`(FnOk P w K mg base CX0 $a $b $c $d $e)
|`(v9 $a $b $c $d $e $f)=>`(Cl P w K mg base CX0 $a $b $c $d $e $f)
|`(vA 0)=>`((s2.heap.update a (Obj.mapSeq λ_=>(#[]:Array Value))).push (seqObj "tuple" its.toArray 0))
|`(vB 0)=>`((s.heap.update a (Obj.mapSeq λ_=>#[])).push (seqObj "tuple" vs.toArray 0))
|`(vC 0)=>`((s.heap.push (seqObj "list" #[] 0)).update s.heap.objs.size (Obj.mapSeq (·++(as.map Value.ref).toArray)))
set_option hygiene false
local macro_rules
|`(vD)=>`((model X.prog X.w))
|`(vE)=>`((Or.inl rfl))
|`(vG)=>`((by omega))
|`(vH)=>`((Addr×Obj))
|`(vI)=>`((by simp))
namespace L2
open PySem PySem.Spec PyProof.Rows
abbrev Key:=Sum Int Str
noncomputable def zEu:Key->Value->Bool
 |.inl k,v=>Value.isInt k v
 |.inr x,v=>Value.isStrOf x v
def zHo(w:World):Key->Int
 |.inl k=>hashInt k
 |.inr x=>hashStr w x
theorem qBu:∀ {k:Key} {v:Value},zEu k v=true->(∃i t,k=Sum.inl i/\v=Value.int i t)\/(∃x t,k=Sum.inr x/\v=Value.str x t)
 |.inl i,v,h=>by
  obtain⟨t,e⟩:=Value.isInt_shape (k:=i) (v:=v) h;exact .inl ⟨i,t,rfl,e⟩
 |.inr x,v,h=>by
  obtain⟨t,e⟩:=Value.isStrOf_shape (x:=x) (v:=v) h;exact .inr ⟨x,t,rfl,e⟩
theorem zEt(a b:Int):decide ((Sum.inl a:Key)=Sum.inl b)=(a == b):=by
 by_cases e:a=b
 ·subst e;simp
 ·have h:¬(Sum.inl a:Key)=Sum.inl b:=λq=>e (Sum.inl.inj q)
  rw[hEg h];exact(beq_eq_false_iff_ne.mpr e).symm
theorem zEq(a b:Str):decide ((Sum.inr a:Key)=Sum.inr b)=decide (a=b):=by
 by_cases e:a=b
 ·subst e;simp
 ·have h:¬(Sum.inr a:Key)=Sum.inr b:=λq=>e (Sum.inr.inj q)
  rw[hEg h,hEg e]
theorem zEs(a:Int)(b:Str):decide ((Sum.inl a:Key)=Sum.inr b)=false:=hEg (λq=>nomatch q)
theorem zEr(a:Str)(b:Int):decide ((Sum.inr a:Key)=Sum.inl b)=false:=hEg (λq=>nomatch q)
noncomputable def qTx(prog:Program)(w:World):PySem.KeyKind prog w Key where
 is:=zEu
 hash:=zHo w
 inj:=λv a b ha hb=>by
  rcases qBu ha with ⟨i,t,rfl,rfl⟩|⟨x,t,rfl,rfl⟩
  ·rcases qBu hb with ⟨j,u,rfl,e⟩|⟨y,u,rfl,e⟩
   ·injection e with e1 _;rw[e1]
   ·exact nomatch e
  ·rcases qBu hb with ⟨j,u,rfl,e⟩|⟨y,u,rfl,e⟩
   ·exact nomatch e
   ·injection e with e1 _;rw[e1]
 byValue:=λk v h=>by
  rcases qBu h with ⟨i,t,rfl,rfl⟩|⟨x,t,rfl,rfl⟩ <;> rfl
 pyHash:=λhv h=>by
  rcases qBu hv with ⟨i,t,rfl,rfl⟩|⟨x,t,rfl,rfl⟩
  ·exact wpAny_pyHash_int h
  ·exact wpAny_pyHash_str h
 eqBool:=λhu hv h=>by
  rcases qBu hu with ⟨i,t,rfl,rfl⟩|⟨x,t,rfl,rfl⟩
  ·rcases qBu hv with ⟨j,u,rfl,rfl⟩|⟨y,u,rfl,rfl⟩
   ·rw[zEt]at h;exact wpAny_eqBool_int h
   ·rw[zEs]at h;exact SeqAt.EqAt.int_str i t y u _ _ _ _ h
  ·rcases qBu hv with ⟨j,u,rfl,rfl⟩|⟨y,u,rfl,rfl⟩
   ·rw[zEr]at h;exact SeqAt.EqAt.str_int x t j u _ _ _ _ h
   ·rw[zEq]at h;exact wpAny_eqBool_str h
 «strs»:=λk x t v h=>by
  rcases qBu h with ⟨i,u,rfl,e⟩|⟨y,u,rfl,e⟩
  ·exact nomatch e
  ·injection e with e1 _
   subst e1;cases v <;> rfl
inductive V where
 |non|bl (b:Bool)|int (i:Int)|str (x:Str)|byt (b:Array UInt8)|flt (b:UInt64)|ref (a:Addr)|ty (n:String)
 deriving DecidableEq
def qDa:V->Value->Prop
 |.non,u=>u=Value.none
 |.bl b,u=>u=Value.bool b
 |.int i,u=>∃t,u=Value.int i t
 |.str x,u=>∃t,u=Value.str x t
 |.byt b,u=>∃t,u=Value.bytes b t
 |.flt b,u=>∃t,u=Value.float b t
 |.ref a,u=>u=Value.ref a
 |.ty n,u=>u=Value.type n
abbrev qBx:List V->List Value->Prop:=Paired qDa
theorem qBx.length(r:qBx xs us):xs.length=us.length:=Paired.length r
theorem qBx.get:∀ {xs:List V} {us:List Value} {i:Nat} {x:V},qBx xs us->xs[i]?=some x->∃u,us[i]?=some u/\qDa x u
 |_,_,_,_,.nil,e=>by simp at e
 |_,_,0,_,.cons r _,e=>by simp at e;subst e;exact⟨_,rfl,r⟩
 |_,_,i+1,x,.cons _ t,e=>by
  obtain⟨u,h1,h2⟩:=qBx.get (i:=i) (x:=x) t (by simpa using e);exact⟨u,by simpa using h1,h2⟩
theorem qBx.append:∀ {xs ys:List V} {us ws:List Value},qBx xs us->qBx ys ws->qBx (xs++ys) (us++ws)
 |_,_,_,_,.nil,s=>s
 |_,_,_,_,.cons r t,s=>.cons r (qBx.append t s)
theorem qBx.take:∀ {xs:List V} {us:List Value} (n:Nat),qBx xs us->qBx (xs.take n) (us.take n)
 |_,_,0,_=>.nil
 |_,_,_+1,.nil=>.nil
 |_,_,n+1,.cons r t=>.cons r (qBx.take n t)
theorem qBx.drop:∀ {xs:List V} {us:List Value} (n:Nat),qBx xs us->qBx (xs.drop n) (us.drop n)
 |_,_,0,r=>r
 |_,_,_+1,.nil=>.nil
 |_,_,n+1,.cons _ t=>qBx.drop n t
def zGs:Option V->Option Value->Prop
 |some v,some u=>qDa v u
 |none,none=>True
 |_,_=>False
def KV{κ:Type}:List (κ×V)->List (κ×Value)->Prop:=Paired λ(p:κ×V) (q:κ×Value)=>p.1=q.1/\qDa p.2 q.2
def kV:Key->V
 |.inl i=>.int i
 |.inr x=>.str x
inductive HO where
  |lst (xs:List V)
  |tup (xs:List V)
  |dK (kvs:List (Key×V))|dT (kvs:List (List Key×V))
  |set (S:Int->Bool) (n:Nat)
  |ins (C dx:Addr) (fs:List (Str×V))
  |own (x:Addr)
  |xd (fs:List (Str×V))
  |met (f x:Addr)
  |rng (lo hi:Int)
  |frz (o:Obj) (u:HO)
  |tbl (ps:Array Value)
  |ext (φ:Heap->Prop)
abbrev Hp:=Addr->Option HO
def upd(H:Hp)(a:Addr)(o:HO):Hp:=λb=>if b=a then some o else H b
theorem upd_same:upd H a o a=some o:=by unfold upd;rw[hEk rfl]
theorem qAk(h:b≠a):upd H a o b=H b:=by unfold upd;rw[hEj h]
theorem qAo{H:Hp}{a b:Addr}{o:HO}(h:H a=some o)(h':H b=none):a≠b:=by
 intro e;subst e;rw[h]at h';cases h'
section
variable(P:Program)(w:World)
def qC0(H:Hp)(h:Heap)(a:Addr):HO->Prop
 |.lst xs=>xs.length<=sizeLine/\∃(its:List Value) (n:Nat),qBx xs its/\h.get? a=some { cls:=.type "list",data:=.seq its.toArray n }
 |.tup xs=>xs.length<=sizeLine/\∃its:List Value,qBx xs its/\IsTup h a its.toArray
 |.dK kvs=>kvs.length<=sizeLine/\(a == sysModules)=false/\∃vs,KV kvs vs/\h.DictOf (qTx P w) a vs
 |.dT kvs=>kvs.length<=sizeLine/\(a == sysModules)=false/\∃xs:List (List Key×Addr×Value),
   Paired (λ(p:List Key×V) (q:List Key×Addr×Value)=>p.1=q.1/\H q.2.1=some (.tup (p.1.map kV))/\qDa p.2 q.2.2) kvs xs /\
   ∃o es ep,h.get? a=some o/\o.ExactDict/\o.data = .dict es ep/\es.toList=xs.map (entryOfKey (tupleKind (qTx P w)))/\(xs.map (·.1)).Nodup
 |.set S n=>h.SetOf (intKind P w) a S n
 |.ins C dx fs=>H dx=some (.own a)/\fs.length<=1000/\dx≠a/\h.get? a=some (PySem.W.instObj C dx) /\
   ∃mA,h.Ns1 dx mA/\(∀f,zGs (fs.lookup f) (mA f))/\PySem.Within mA (fs.map (·.1))
 |.own _=>∃o,h.get? a=some o
 |.xd fs=>∃mA,h.Ns1 a mA/\∀f,zGs (fs.lookup f) (mA f)
 |.rng lo hi=>∃t u v,h.get? a=some { cls:=.type "range",data:=.fields #[.int lo t,.int hi u,.int 1 v] }
 |.frz o u=>h.get? a=some o/\qC0 H h a u
 |.tbl ps=>h.get? a=some { cls:=.none,data:=.fields ps }
 |.met f x=>h.get? a=some (PySem.W.methodObj (.ref f) (.ref x))
 |.ext φ=>φ h/\(∃o,h.get? a=some o)/\∀h1 h2:Heap,φ h1->(∀o,h1.get? a=some o->h2.get? a=some o)->φ h2
def HOk(H:Hp)(h:Heap):Prop:=∀a o,H a=some o->qC0 P w H h a o
end
section
variable{P:Program}{w:World}{H H':Hp}{h h':Heap}{a:Addr}{o:HO}
theorem qC0.lt(x:qC0 P w H h a o):a<h.objs.size:=by
 cases o with
 |lst xs=>obtain⟨_,_,_,_,e⟩:=x;exact Heap.lt_size e
 |tup xs=>obtain⟨_,_,_,p⟩:=x;exact p.lt
 |dK kvs=>obtain⟨_,_,_,_,o,_,_,e,_⟩:=x;exact Heap.lt_size e
 |dT kvs=>obtain⟨_,_,_,_,o,_,_,e,_⟩:=x;exact Heap.lt_size e
 |set S n=>obtain⟨o,_,_,_,e,_⟩:=x;exact Heap.lt_size e
 |ins C dx fs=>obtain⟨_,_,_,e,_⟩:=x;exact Heap.lt_size e
 |own y=>obtain⟨_,e⟩:=x;exact Heap.lt_size e
 |xd fs=>obtain⟨_,⟨_,_,_,e,_⟩,_⟩:=x;exact Heap.lt_size e
 |rng lo hi=>obtain⟨_,_,_,e⟩:=x;exact Heap.lt_size e
 |frz ob u=>obtain⟨e,_⟩:=x;exact Heap.lt_size e
 |tbl ps=>exact Heap.lt_size (show h.get? a=some _ from x)
 |met f y=>exact Heap.lt_size (show h.get? a=some _ from x)
 |ext φ=>obtain⟨_,⟨_,e⟩,_⟩:=x;exact Heap.lt_size e
theorem Paired.mapP:∀ {l₁:List α} {l₂:List β},Paired F l₁ l₂->(∀a b,F a b->G a b)->Paired G l₁ l₂
 |_,_,.nil,_=>.nil
 |_,_,.cons r t,f=>.cons (f _ _ r) (Paired.mapP t f)
theorem qC0.stay(x:qC0 P w H h a o)(k:∀b u,(b=a\/H b=some (.own a))->h.get? b=some u->h'.get? b=some u)
  (ho:∀b,H b=some (.own a)->H' b=some (.own a)) (ht:∀b xs,H b=some (.tup xs)->H' b=some (.tup xs)):qC0 P w H' h' a o:=by
 induction o with
 |lst xs=>obtain⟨z,its,n,r,e⟩:=x;exact⟨z,its,n,r,k _ _ (.inl rfl) e⟩
 |tup xs=>obtain⟨z,its,r,ob,e,c⟩:=x;exact⟨z,its,r,ob,k _ _ (.inl rfl) e,c⟩
 |dK kvs=>obtain⟨z,y,vs,r,ob,es,ep,e,c⟩:=x;exact⟨z,y,vs,r,ob,es,ep,k _ _ (.inl rfl) e,c⟩
 |dT kvs =>
  obtain⟨z,y,xs,r,ob,es,ep,e,c⟩:=x;exact⟨z,y,xs,Paired.mapP r λp q z=>⟨z.1,ht _ _ z.2.1,z.2.2⟩,ob,es,ep,k _ _ (.inl rfl) e,c⟩
 |set S n=>obtain⟨ob,es,ep,t,e,c⟩:=x;exact⟨ob,es,ep,t,k _ _ (.inl rfl) e,c⟩
 |ins C dx fs =>
  obtain⟨d,z,ne,e,mA,⟨od,es,ep,e2,c⟩,r⟩:=x;exact⟨ho _ d,z,ne,k _ _ (.inl rfl) e,mA,⟨od,es,ep,k _ _ (.inr d) e2,c⟩,r⟩
 |own y=>obtain⟨ob,e⟩:=x;exact⟨ob,k _ _ (.inl rfl) e⟩
 |xd fs=>obtain⟨mA,⟨od,es,ep,e,c⟩,r⟩:=x;exact⟨mA,⟨od,es,ep,k _ _ (.inl rfl) e,c⟩,r⟩
 |rng lo hi=>obtain⟨t,u,v,e⟩:=x;exact⟨t,u,v,k _ _ (.inl rfl) e⟩
 |frz ob u ih=>obtain⟨e,q⟩:=x;exact⟨k _ _ (.inl rfl) e,ih q⟩
 |tbl ps =>
  have e:h.get? a=some { cls:=.none,data:=.fields ps }:=x;show h'.get? a=some { cls:=.none,data:=.fields ps };exact k a _ (.inl rfl) e
 |met f y =>
  have e:h.get? a=some (PySem.W.methodObj (.ref f) (.ref y)):=x;show h'.get? a=some (PySem.W.methodObj (.ref f) (.ref y));exact k a _ (.inl rfl) e
 |ext φ=>obtain⟨p,⟨o,e⟩,st⟩:=x;exact⟨st _ _ p λo q=>k _ _ (.inl rfl) q,⟨o,k _ _ (.inl rfl) e⟩,st⟩
theorem HOk.lt(x:HOk P w H h)(e:H a=some o):a<h.objs.size:=(x a o e).lt
theorem HOk.fresh(x:HOk P w H h)(e:h.objs.size<=a):H a=none:=by
 cases q:H a with
 |none=>rfl
 |some u=>exact absurd (hAo (x.lt q) e) (hCv _)
theorem HOk.kept(x:HOk P w H h)(k:∀b u,h.get? b=some u->h'.get? b=some u):HOk P w H h':=λa o e =>
 (x a o e).stay (λb u _ q=>k b u q) (λ_ q=>q) λ_ _ q=>q
theorem HOk.laid(x:HOk P w H h)(k:∀b u,h.get? b=some u->h'.get? b=some u)(hp:h.objs.size<=a)(new:qC0 P w (upd H a o) h' a o):HOk P w (upd H a o) h':=λb u e=>by
 have hn:=x.fresh hp;by_cases hb:b=a
 ·subst hb;rw[upd_same]at e;cases e;exact new
 ·rw[qAk hb]at e;exact(x b u e).stay (λc v _ q=>k c v q) (λc q=>by rw[qAk (qAo q hn)];exact q) λc xs q=>by rw[qAk (qAo q hn)];exact q
end
def Rd(H:Hp)(a:Addr)(u:HO):Prop:=H a=some u\/∃o,H a=some (.frz o u)
theorem Rd.ok(r:Rd H a u)(x:HOk P w H h):qC0 P w H h a u:=by
 rcases r with r|⟨o,r⟩
 ·exact x a u r
 ·obtain⟨_,q⟩:=x a _ r;exact q
def Mut:Option HO->Prop
 |some (.lst _)=>True
 |some (.dK _)=>True
 |some (.dT _)=>True
 |some (.set _ _)=>True
 |some (.ins _ _ _)=>True
 |some (.ext _)=>True
 |_=>False
section
variable{P:Program}{w:World}{H:Hp}{h h':Heap}{x e:Addr}{o':HO}
theorem HOk.write(ok:HOk P w H h)(mu:Mut (H x))(he:e=x\/H e=some (.own x))(k:∀b u,b≠e->h.get? b=some u->h'.get? b=some u)(heo:∃u,h'.get? e=some u)
  (new:qC0 P w (upd H x o') h' x o'):HOk P w (upd H x o') h':=λb u q=>by
 have nown:∀c y,H c=some (.own y)->c≠x:=λc y r z=>by subst z;rw[r]at mu;exact mu
 have ntup:∀c xs,H c=some (.tup xs)->c≠x:=λc xs r z=>by subst z;rw[r]at mu;exact mu
 by_cases hb:b=x
 ·subst hb;rw[upd_same]at q;cases q;exact new
 ·rw[qAk hb]at q;by_cases hbe:b=e
  ·have q':H b=some (.own x):=by
    rcases he with z|z
    ·exact absurd (hbe.trans z) hb
    ·rw[hbe];exact z
   rw[q]at q';cases q';obtain⟨v,hv⟩:=heo;exact⟨v,by rw[hbe];exact hv⟩
  ·refine(ok b u q).stay (λc v hc r=>k c v ?_ r) (λc r=>by rw[qAk (nown c b r)];exact r) λc xs r=>by rw[qAk (ntup c xs r)];exact r
   rcases hc with rfl|hc
   ·exact hbe
   ·rintro rfl;rcases he with z|z
    ·exact nown c b hc z
    ·rw[hc]at z;cases z;exact hb rfl
end
structure Un(fs ex:List Addr)(H H':Hp)(h h':Heap):Prop where
 keep:∀b o,h.get? b=some o->H b=none->b∉fs->b∉ex->h'.get? b=some o
 slot:∀b o,h.get? b=some o->H b=none->b∈fs->b∉ex->∃sl,h'.get? b=some { o with slots:=sl }
 free:∀b o,h.get? b=some o->H b=none->b∉ex->H' b=none
 there:∀b o,h.get? b=some o->b∉ex->∃o',h'.get? b=some o'
 tups:∀b xs,H b=some (.tup xs)->H' b=some (.tup xs)
 frzs:∀b o u,H b=some (.frz o u)->H' b=some (.frz o u)
 tbls:∀b ps,H b=some (.tbl ps)->∃more,H' b=some (.tbl (ps++more))
section
variable{fs fs' ex ex':List Addr}{H H1 H2:Hp}{h h1 h2 h':Heap}{a x e:Addr}{o:HO}
theorem Un.any(u:Un fs ex H H1 h h1)(q:h.get? b=some ob)(n:H b=none)(hx:b∉ex):∃sl,h1.get? b=some { ob with slots:=sl }:=by
 by_cases hb:b∈fs
 ·exact u.slot b ob q n hb hx
 ·exact⟨ob.slots,u.keep b ob q n hb hx⟩
theorem Un.kept(k:∀b u,h.get? b=some u->h'.get? b=some u):Un fs ex H H h h' :=
 ⟨λb ob q _ _ _=>k b ob q,λb ob q _ _ _=>⟨ob.slots,k b ob q⟩,λ_ _ _ n _=>n,λb ob q _=>⟨ob,k b ob q⟩,λ_ _ q=>q,λ_ _ _ q=>q,λ_ ps q=>⟨#[],by rw[q];simp⟩⟩
theorem Un.refl:Un fs ex H H h h:=Un.kept λ_ _ q=>q
theorem Un.laid(k:∀b u,h.get? b=some u->h'.get? b=some u)(hp:h.objs.size<=a)(hn:H a=none):Un fs ex H (upd H a o) h h' where
 keep:=λb u q _ _ _=>k b u q
 slot:=λb u q _ _ _=>⟨u.slots,k b u q⟩
 free:=λb u q n _=>by rw[qAk (hAx (hAo (Heap.lt_size q) hp))];exact n
 there:=λb u q _=>⟨u,k b u q⟩
 tups:=λb xs q=>by rw[qAk (qAo q hn)];exact q
 frzs:=λb u xs q=>by rw[qAk (qAo q hn)];exact q
 tbls:=λb ps q=>⟨#[],by rw[qAk (qAo q hn),q];simp⟩
theorem Un.write(mu:Mut (H x))(he:e=x\/H e=some (.own x))(k:∀b u,b≠e->h.get? b=some u->h'.get? b=some u)(heo:∃u,h'.get? e=some u):Un fs ex H (upd H x o) h h':=by
 have hx:∀b,H b=none->b≠x:=λb n z=>by subst z;rw[n]at mu;exact mu
 have hb:∀b,H b=none->b≠e:=λb n z=>by
  subst z;rcases he with r|r
  ·exact hx b n r
  ·rw[n]at r;cases r
 have hm:∀b u,H b=some u->¬Mut (some u)->b≠x:=λb u q nm z=>by subst z;rw[q]at mu;exact nm mu
 refine⟨λb u q n _ _=>k b u (hb b n) q,λb u q n _ _=>⟨u.slots,k b u (hb b n) q⟩,λb u q n _=>by rw[qAk (hx b n)];exact n,λb u q _=>?_,
  λb xs q=>by rw[qAk (hm b _ q λz=>z)];exact q,λb u xs q=>by rw[qAk (hm b _ q λz=>z)];exact q,λb ps q=>⟨#[],by rw[qAk (hm b _ q λz=>z),q];simp⟩⟩
 by_cases hbe:b=e
 ·subst hbe;exact heo
 ·exact⟨u,k b u hbe q⟩
end
noncomputable def trk(h:Heap)(H:Hp):List Addr:=(List.range h.objs.size).filter λa=>(H a).isSome
def qUf(h:Heap)(H:Hp):Heap:=PySem.W.hideAll h (trk h H)
theorem qUe(h:Heap)(H:Hp):(qUf h H).objs.size=h.objs.size:=PySem.W.hideAll_size _ _
theorem qXx(e:h.get? b=some o)(n:H b=none):(qUf h H).get? b=some o :=
 PySem.W.hideAll_get _ e λhm=>by
  have q:(H b).isSome=true:=(hAd.mp hm).2;rw[n]at q;simp at q
theorem zB4(e:(qUf h H).get? b=some o):h.get? b=some o/\H b=none:=by
 have e':h.get? b=some o:=PySem.W.of_hideAll (trk h H) e;refine⟨e',?_⟩;cases q:H b with
 |none=>rfl
 |some x =>
  have hm:b∈trk h H:=hAd.mpr ⟨hAv.mpr (Heap.lt_size e'),by simp[q]⟩;have z:(qUf h H).get? b=none:=PySem.W.hideAll_none (trk h H) hm;rw[z]at e;cases e
noncomputable def zC4(g h:Heap)(L:Addr):List vH:=(List.range h.objs.size).filterMap λa=>if a=L\/(g.get? a).isSome=true then none else (h.get? a).map λo=>(a,o)
noncomputable def rest(g h:Heap)(L d:Addr):List vH:=(zC4 g h L).filter λp=>decide (p.1≠d)
structure Mod(K:PySem.W.Frag)(mg:Str->Option Value)(base:Heap):Prop where
 kin:K.In base
 glob:base.Ns mainGlobals mg
 blt:∃mb,base.Ns builtinsNs mb/\∀x:Str,x≠"__name__"->mb x=bootBuiltins x
 nolimit:base.NoLimit
structure Cx where
 prog:Program
 w:World
 K:PySem.W.Frag
 mg:Str->Option Value
 base:Heap
 A:Around
 N:List Str
 s₀:Shared
 H₀:Hp
 env:Env
 outer:List Env
 stack:List Env
 ex:List Addr
 fn:Str->Bool
 calm:Bool
 pn:List vH
 xe:Value->Shared->Prop
noncomputable def frs(l:List Env):List Addr:=l.filterMap (·.frame)
abbrev Cx.fs(X:Cx):List Addr:=frs X.outer
def Vis(sc:Scope)(x:Str):Prop:=sc.names.lookup x=some .local\/sc.names.lookup x=some .cell\/sc.names.lookup x=some .free
def Loc(sc:Scope)(x:Str):Prop:=sc.names.lookup x=some .local\/sc.names.lookup x=some .cell
def zHu(env:Env)(h:Heap)(m:Str->Option Value)(x:Str)(u:Value):Prop :=
 (env.kindOf x=some .local/\m x=some u)\/((env.kindOf x=some .cell\/env.kindOf x=some .free)/\∃c,env.cells.lookup x=some c/\h.IsCell c (some u))
structure Cx.Ok(X:Cx):Prop where
 mod:Mod X.K X.mg X.base
 kind:X.env.scope.kind = .function
 glob:X.env.globals=mainGlobals
 blt:X.env.builtins=builtinsNs
 above:X.s₀.heap.objs.size<=X.env.locals
 inj:∀x y c,X.env.cells.lookup x=some c->X.env.cells.lookup y=some c->x=y
 has:∀x,(X.env.kindOf x=some .cell\/X.env.kindOf x=some .free)->∃c,X.env.cells.lookup x=some c
 cab:∀x c,X.fn x=true->X.env.cells.lookup x=some c->X.s₀.heap.objs.size<=c
 hd:X.calm=true->X.A.handled=none
 frames:X.A.frames=some X.stack
 stk:X.stack=X.outer\/(X.stack=X.env :: X.outer/\X.env.frame=some X.env.locals)
 exf:∀b∈X.ex,b≠X.env.locals/\∀x c,X.env.cells.lookup x=some c->c≠b
 bs:∀b o,X.base.get? b=some o->X.s₀.heap.get? b=some o/\X.H₀ b=none
 bsz:X.base.objs.size<=X.s₀.heap.objs.size
 noex:∀b o,X.base.get? b=some o->b∉X.ex
 exfs:∀b∈X.ex,b∉X.fs
 funs:X.s₀.heap.FunFrames X.base X.outer
 frf:∀b∈X.fs,X.H₀ b=none
structure Inv(X:Cx)(aB:List vH)(σ:List (Option V))(H:Hp)(s:Shared):Prop where
 ok:X.Ok
 os:s.os=X.s₀.os
 bare:AllBare s.gens
 base:Un X.fs X.ex X.H₀ H X.s₀.heap s.heap
 loc:∃m,s.heap.Ns X.env.locals m/\∀(i:Nat) (x:Str) (v:V),X.N[i]?=some x->σ[i]?=some (some v)->Vis X.env.scope x->∃u,qDa v u/\zHu X.env s.heap m x u
 cell:∀x c,X.env.cells.lookup x=some c->∃v,s.heap.IsCell c v
 free:H X.env.locals=none
 freeC:∀x c,X.env.cells.lookup x=some c->H c=none
 pin:∀p∈X.pn++aB,s.heap.get? p.1=some p.2/\H p.1=none/\p.1≠X.env.locals/\p.1∉X.fs/\∀v,p.2.data≠.cell v
 hok:HOk X.prog X.w H s.heap
 len:σ.length=X.N.length
section
variable{X:Cx}{aB:List vH}{σ:List (Option V)}{H H':Hp}{s:Shared}{h':Heap}
theorem Cx.Ok.nofr(ok:X.Ok)(e:X.base.get? b=some o):b∉X.fs:=λhb=>by
 have:=(ok.funs.mem hb).1;rw[e]at this;cases this
theorem Inv.bs(I:Inv X aB σ H s):∀b o,X.base.get? b=some o->s.heap.get? b=some o/\H b=none:=λb o e =>
 ⟨I.base.keep b o (I.ok.bs b o e).1 (I.ok.bs b o e).2 (I.ok.nofr e) (I.ok.noex b o e),I.base.free b o (I.ok.bs b o e).1 (I.ok.bs b o e).2 (I.ok.noex b o e)⟩
theorem Inv.bk(I:Inv X aB σ H s):∀b o,X.base.get? b=some o->s.heap.get? b=some o:=λb o e=>(I.bs b o e).1
theorem Inv.mod(I:Inv X aB σ H s):Mod X.K X.mg X.base:=I.ok.mod
theorem Inv.kIn(I:Inv X aB σ H s):X.K.In s.heap:=I.ok.mod.kin.keeps I.bk
theorem Inv.lt(I:Inv X aB σ H s):X.env.locals<s.heap.objs.size:=let ⟨_,hn,_⟩:=I.loc;hn.lt
theorem Inv.sz(I:Inv X aB σ H s):X.s₀.heap.objs.size<=s.heap.objs.size:=hAw I.ok.above (hB9 I.lt)
theorem Inv.nofs(I:Inv X aB σ H s)(h:s.heap.objs.size<=a):a∉X.fs:=λhb=>by
 obtain⟨_,o,ho,_⟩:=I.ok.funs.mem hb;exact absurd (hAo (Heap.lt_size ho) (hAw I.sz h)) (hCv _)
theorem Inv.cne(I:Inv X aB σ H s):∀x c,X.env.cells.lookup x=some c->c≠X.env.locals:=λx c e z=>by
 obtain⟨v,o,ho,hd⟩:=I.cell x c e;obtain⟨m,⟨o',es,ep,ho',hd',_⟩,_⟩:=I.loc;rw[z,ho']at ho;cases ho;rw[hd']at hd;cases hd
theorem Inv.funs(I:Inv X aB σ H s):s.heap.FunFrames X.base X.outer:=by
 have all:∀(l:List Env),(∀b∈frs l,b∈X.fs)->X.s₀.heap.FunFrames X.base l->s.heap.FunFrames X.base l:=by
  intro l
  induction l with
  |nil=>intro _ _;trivial
  |cons env r ih =>
   intro hs hl;obtain⟨hk,⟨L,o,hf,hn,ho,hd⟩,hr⟩:=hl;have hL:L∈X.fs:=hs L (by unfold frs;rw[hBs,hf];exact hA8);obtain⟨sl,e⟩:=I.base.slot L o ho (I.ok.frf L hL) hL λz=>I.ok.exfs L z hL
   exact⟨hk,⟨L,_,hf,hn,e,hd⟩,ih (λb hb=>hs b (by unfold frs;rw[hBs,hf];exact hA6 _ hb)) hr⟩
 exact all X.outer (λ_ hb=>hb) I.ok.funs
theorem Inv.stack(I:Inv X aB σ H s):s.heap.FunFrames X.base X.stack:=by
 rcases I.ok.stk with e|⟨e,hf⟩
 ·rw[e];exact I.funs
 ·rw[e];obtain⟨m,hn,_⟩:=I.loc;refine .cons (by rw[I.ok.kind];decide) hf hn ?_ I.funs;exact Heap.get?_none_of_le (hAw I.ok.bsz I.ok.above)
theorem Inv.stkSub(I:Inv X aB σ H s):∀b∈frs X.stack,b∈X.env.locals :: X.fs:=λb hb=>by
 rcases I.ok.stk with e|⟨e,hf⟩
 ·rw[e]at hb;exact hA6 _ hb
 ·rw[e]at hb;unfold frs at hb;rw[hBs,hf]at hb;exact hb
theorem Inv.stkFree(I:Inv X aB σ H s):∀b∈frs X.stack,H b=none:=λb hb=>by
 rcases hAj.mp (I.stkSub b hb) with e|hb
 ·rw[e];exact I.free
 ·obtain⟨_,o,ho,_⟩:=I.ok.funs.mem hb;exact I.base.free b o ho (I.ok.frf b hb) λz=>I.ok.exfs b z hb
theorem Inv.step{g':Array GenState}{t':Nat}{d':Drawn}{ch:List Addr}(I:Inv X aB σ H s)
  (hch:∀b∈ch,(b∈X.ex\/X.s₀.heap.objs.size<=b)/\b≠X.env.locals/\(∀x c,X.env.cells.lookup x=some c->c≠b)/\∀p∈X.pn++aB,p.1≠b)
  (keep:∀b o,b≠X.env.locals->b∉X.fs->b∉ch->s.heap.get? b=some o->H b=none->h'.get? b=some o)
  (slot:∀b o,b≠X.env.locals->b∈X.fs->b∉ch->s.heap.get? b=some o->H b=none->∃sl,h'.get? b=some { o with slots:=sl }) (free:∀b o,b∉ch->s.heap.get? b=some o->H b=none->H' b=none)
  (there:∀b o,b∉ch->s.heap.get? b=some o->∃o',h'.get? b=some o')
  (tups:∀b xs,H b=some (.tup xs)->H' b=some (.tup xs)) (frzs:∀b o u,H b=some (.frz o u)->H' b=some (.frz o u)) (tbls:∀b ps,H b=some (.tbl ps)->∃more,H' b=some (.tbl (ps++more)))
  (ns:∀m,s.heap.Ns X.env.locals m->h'.Ns X.env.locals m) (hok:HOk X.prog X.w H' h') (hg:AllBare g') :
  Inv X aB σ H' { s with heap:=h',gens:=g',drawn:=d',toks:=t' }:=by
 have neL:∀b o,X.s₀.heap.get? b=some o->b≠X.env.locals:=λb o e=>hAx (hAo (Heap.lt_size e) I.ok.above)
 have neC:∀b o,X.s₀.heap.get? b=some o->b∉X.ex->b∉ch:=λb o e hx hb=>by
  rcases(hch b hb).1 with z|z
  ·exact hx z
  ·exact absurd (hAo (Heap.lt_size e) z) (hCv _)
 have cellK:∀x c,X.env.cells.lookup x=some c->∀v,s.heap.IsCell c v->h'.IsCell c v:=λx c e v ⟨o,ho,hd⟩=>by
  have nch:c∉ch:=λz=>(hch c z).2.2.1 x c e rfl
  by_cases hc:c∈X.fs
  ·obtain⟨sl,q⟩:=slot c o (I.cne x c e) hc nch ho (I.freeC x c e);exact⟨_,q,hd⟩
  ·exact⟨o,keep c o (I.cne x c e) hc nch ho (I.freeC x c e),hd⟩
 refine⟨I.ok,I.os,hg,⟨λb o e n hb hx=>?_,λb o e n hb hx=>?_,λb o e n hx=>?_,λb o e hx=>?_,λb xs e=>tups b xs (I.base.tups b xs e),λb o xs e=>frzs b o xs (I.base.frzs b o xs e),λb ps e=>?_⟩,?_,λx c e=>?_,?_,λx c e=>?_,λp hp=>?_,hok,I.len⟩
 ·exact keep b o (neL b o e) hb (neC b o e hx) (I.base.keep b o e n hb hx) (I.base.free b o e n hx)
 ·obtain⟨sl,e1⟩:=I.base.slot b o e n hb hx;obtain⟨sl',e2⟩:=slot b _ (neL b o e) hb (neC b o e hx) e1 (I.base.free b o e n hx);exact⟨sl',e2⟩
 ·obtain⟨o',e1⟩:=I.base.there b o e hx;exact free b o' (neC b o e hx) e1 (I.base.free b o e n hx)
 ·obtain⟨o',e1⟩:=I.base.there b o e hx;exact there b o' (neC b o e hx) e1
 ·obtain⟨m1,e1⟩:=I.base.tbls b ps e;obtain⟨m2,e2⟩:=tbls b _ e1;exact⟨m1++m2,by rw[e2,Array.append_assoc]⟩
 ·obtain⟨m,hn,hl⟩:=I.loc;refine⟨m,ns m hn,λi x v e1 e2 e3=>?_⟩;obtain⟨u,r,l⟩:=hl i x v e1 e2 e3;refine⟨u,r,?_⟩;rcases l with l|⟨k,c,e,z⟩
  ·exact .inl l
  ·exact .inr ⟨k,c,e,cellK x c e _ z⟩
 ·obtain⟨v,z⟩:=I.cell x c e;exact⟨v,cellK x c e v z⟩
 ·obtain⟨m,⟨o,_,_,ho,_⟩,_⟩:=I.loc;exact free _ o (λz=>(hch _ z).2.1 rfl) ho I.free
 ·obtain⟨v,o,ho,hd⟩:=I.cell x c e;exact free c o (λz=>(hch c z).2.2.1 x c e rfl) ho (I.freeC x c e)
 ·obtain⟨e,n,ne,nf,d⟩:=I.pin p hp;have nch:p.1∉ch:=λz=>(hch p.1 z).2.2.2 p hp rfl
  exact⟨keep p.1 p.2 ne nf nch e n,free p.1 p.2 nch e n,ne,nf,d⟩
theorem Inv.un{t':Nat}(I:Inv X aB σ H s)(u:Un X.fs [] H H' s.heap h')(hok:HOk X.prog X.w H' h'):Inv X aB σ H' { s with heap:=h',toks:=t' }:=by
 obtain⟨m,⟨o,es,ep,ho,r⟩,_⟩:=id I.loc;obtain⟨sl,hL⟩:=u.any ho I.free vI;exact I.step (g':=s.gens) (d':=s.drawn) (ch:=[]) (λ_ z=>nomatch z) (λb o _ hb _ e n=>u.keep b o e n hb vI) (λb o _ hb _ e n=>u.slot b o e n hb vI) (λb o _ e n=>u.free b o e n vI) (λb o _ e=>u.there b o e vI) u.tups u.frzs u.tbls (λm' hm=>by
  obtain⟨o',es',ep',ho',r'⟩:=hm;rw[ho]at ho';cases ho';exact⟨_,es',ep',hL,r'⟩) hok I.bare
theorem Inv.call{g':Array GenState}{t':Nat}{d':Drawn}{ch:List Addr}(I:Inv X aB σ H s)(u:Un (frs X.stack) ch H H' s.heap h')(hok:HOk X.prog X.w H' h')(hg:AllBare g')
  (hch:∀b∈ch,(b∈X.ex\/X.s₀.heap.objs.size<=b)/\b≠X.env.locals/\(∀x c,X.env.cells.lookup x=some c->c≠b)/\∀p∈X.pn++aB,p.1≠b) :
  Inv X aB σ H' { s with heap:=h',gens:=g',drawn:=d',toks:=t' }:=by
 obtain⟨m,⟨o,es,ep,ho,r⟩,_⟩:=id I.loc;obtain⟨sl,hL⟩:=u.any ho I.free λz=>(hch _ z).2.1 rfl
 exact I.step (ch:=ch) hch (λb o hL hb hc e n=>u.keep b o e n (λz=>(hAj.mp (I.stkSub b z)).elim hL hb) hc) (λb o _ _ hc e n=>u.any e n hc) (λb o hc e n=>u.free b o e n hc) (λb o hc e=>u.there b o e hc) u.tups u.frzs u.tbls (λm' hm=>by
  obtain⟨o',es',ep',ho',r'⟩:=hm;rw[ho]at ho';cases ho';exact⟨_,es',ep',hL,r'⟩) hok hg
theorem Inv.turned{t':Nat}{it:Addr}(I:Inv X aB σ H s)(k:∀b o,b≠it->s.heap.get? b=some o->h'.get? b=some o)(hn:H it=none)(hL:it≠X.env.locals)
  (h1:it∈X.ex\/X.s₀.heap.objs.size<=it) (h2:∀x c,X.env.cells.lookup x=some c->c≠it) (h3:∀p∈X.pn++aB,p.1≠it):Inv X aB σ H { s with heap:=h',toks:=t' }:=by
 have nit:∀b u,H b=some u->b≠it:=λb u e z=>by rw[z,hn]at e;cases e
 refine I.step (g':=s.gens) (d':=s.drawn) (ch:=[it]) (λb hb=>?_) (λb o _ _ hc e _=>k b o (λz=>hc (by simp[z])) e) (λb o _ _ hc e _=>⟨o.slots,k b o (λz=>hc (by simp[z])) e⟩) (λ_ _ _ _ n=>n)
  (λb o hc e=>⟨o,k b o (λz=>hc (by simp[z])) e⟩) (λ_ _ e=>e) (λ_ _ _ e=>e) (λb ps e=>⟨#[],by rw[e];simp⟩) (λm hm=>?_) (λb u e=>?_) I.bare
 ·have e:b=it:=by simpa using hb
  subst e;exact⟨h1,hL,h2,h3⟩
 ·obtain⟨o,es,ep,ho,r⟩:=hm;exact⟨o,es,ep,k _ o (Ne.symm hL) ho,r⟩
 ·refine(I.hok b u e).stay (λc v hc q=>k c v ?_ q) (λ_ q=>q) λ_ _ q=>q
  rcases hc with z|z
  ·rw[z];exact nit b u e
  ·exact nit c _ z
theorem Inv.tok(I:Inv X aB σ H s)(t:Nat):Inv X aB σ H { s with toks:=t }:=I.un (h':=s.heap) (t':=t) Un.refl I.hok
theorem Inv.kept(I:Inv X aB σ H s)(k:∀b u,s.heap.get? b=some u->h'.get? b=some u):Inv X aB σ H { s with heap:=h',toks:=t' }:=I.un (Un.kept k) (I.hok.kept k)
theorem Inv.laid(I:Inv X aB σ H s)(k:∀b u,s.heap.get? b=some u->h'.get? b=some u)(hp:s.heap.objs.size<=a)(new:qC0 X.prog X.w (upd H a o) h' a o) :
  Inv X aB σ (upd H a o) { s with heap:=h',toks:=t' }:=I.un (Un.laid k hp (I.hok.fresh hp)) (I.hok.laid k hp new)
theorem Inv.write(I:Inv X aB σ H s)(mu:Mut (H x))(he:e=x\/H e=some (.own x))(k:∀b u,b≠e->s.heap.get? b=some u->h'.get? b=some u)(heo:∃u,h'.get? e=some u)
  (new:qC0 X.prog X.w (upd H x o) h' x o):Inv X aB σ (upd H x o) { s with heap:=h',toks:=t' }:=I.un (Un.write mu he k heo) (I.hok.write mu he k heo new)
theorem Inv.weak(I:Inv X aB σ H s)(hl:σ'.length=σ.length)(w:∀(i:Nat) v,σ'[i]?=some (some v)->σ[i]?=some (some v)):Inv X aB σ' H s :=
 ⟨I.ok,I.os,I.bare,I.base,let ⟨m,hn,hl'⟩:=I.loc;⟨m,hn,λi x v e1 e2 e3=>hl' i x v e1 (w i v e2) e3⟩,I.cell,I.free,I.freeC,I.pin,I.hok,hl.trans I.len⟩
theorem Inv.pins_of(I:Inv X aB σ H s)(h:∀p∈pins',s.heap.get? p.1=some p.2/\H p.1=none/\p.1≠X.env.locals/\p.1∉X.fs/\∀v,p.2.data≠.cell v):Inv X pins' σ H s :=
 ⟨I.ok,I.os,I.bare,I.base,I.loc,I.cell,I.free,I.freeC,λp hp=>(hAb.mp hp).elim (λz=>I.pin p (hAg _ z)) (h p),I.hok,I.len⟩
theorem qPw{N:List Str}(hN:N.Nodup){i j:Nat}{x:Str}(a:N[i]?=some x)(b:N[j]?=some x):i=j:=by
 obtain⟨h1,e1⟩:=hAp.mp a;obtain⟨h2,e2⟩:=hAp.mp b;exact(List.getElem_inj hN).mp (e1.trans e2.symm)
theorem qLd{M:Model}{A:Around}{E:Value->Shared->Prop}{i:Nat}{x:Str}{v:V}{u:Value}{Q:Unit->Shared->Prop}(I:Inv X aB σ H s)(hN:X.N.Nodup)(hi:X.N[i]?=some x)(hx:Loc X.env.scope x)(r:qDa v u)
  (h:∀s',Inv X aB (σ.set i (some v)) H s'->(∃a,Heap.SameBut a s.heap s'.heap/\(a=X.env.locals\/X.env.cells.lookup x=some a))->Q () s') (hf:X.fn x=true\/X.env.scope.names.lookup x=some .local:=by exact kO2):wpAny M A (storeName X.env x u) Q E s:=by
 obtain⟨m,hn,hl⟩:=id I.loc;have hcls:(X.env.scope.kind == .class || (X.env.scope.kind == .module && X.env.locals != X.env.globals))=false:=by rw[I.ok.kind];rfl
 have hiσ:i < σ.length:=by rw[I.len];exact(hAp.mp hi).1
 have cne:=I.cne;have tracked:∀ {a:Addr} {h':Heap},(∃o,s.heap.get? a=some o/\H a=none)->Heap.SameBut a s.heap h'->HOk X.prog X.w H h':=λ{a h'} ha hs b ob e=>by
  obtain⟨_,_,hfree⟩:=ha;refine(I.hok b ob e).stay (λc w' hc q=>(hs.2 c ?_).trans q) (λ_ q=>q) λ_ _ q=>q
  rintro rfl;rcases hc with rfl|hc
  ·rw[hfree]at e;cases e
  ·rw[hfree]at hc;cases hc
 rcases hx with hk|hk
 ·refine wpAny_storeName_local hk hn (λh' hn' hs=>?_) hcls;obtain⟨oL,_,_,hoL,_⟩:=id hn;refine h _ ⟨I.ok,I.os,I.bare,⟨λb o e n hb hx=>?_,λb o e n hb hx=>?_,I.base.free,λb o e hx=>?_,I.base.tups,I.base.frzs,I.base.tbls⟩,⟨_,hn',λj y v' e1 e2 e3=>?_⟩,λy c e=>?_,I.free,I.freeC,λp hp=>?_,tracked ⟨oL,hoL,I.free⟩ hs,by simpa using I.len⟩ ⟨_,hs,.inl rfl⟩
  ·exact(hs.2 b (hAx (hAo (Heap.lt_size e) I.ok.above))).trans (I.base.keep b o e n hb hx)
  ·obtain⟨sl,e1⟩:=I.base.slot b o e n hb hx;exact⟨sl,(hs.2 b (hAx (hAo (Heap.lt_size e) I.ok.above))).trans e1⟩
  ·obtain⟨o',e1⟩:=I.base.there b o e hx;exact⟨o',(hs.2 b (hAx (hAo (Heap.lt_size e) I.ok.above))).trans e1⟩
  ·by_cases hj:j=i
   ·subst hj;rw[hi]at e1;cases e1;rw[List.getElem?_set_self hiσ]at e2;cases e2;exact⟨u,r,.inl ⟨hk,by simp⟩⟩
   ·rw[List.getElem?_set_ne (Ne.symm hj)]at e2;obtain⟨u',r',q⟩:=hl j y v' e1 e2 e3;refine⟨u',r',?_⟩;rcases q with ⟨k,e⟩|⟨k,c,e,z⟩
    ·refine .inl ⟨k,?_⟩;have:y≠x:=λe=>hj (qPw hN e1 (e▸hi))
     simp[this,e]
    ·exact .inr ⟨k,c,e,z.sameBut hs (cne y c e)⟩
  ·obtain⟨w',z⟩:=I.cell y c e;exact⟨w',z.sameBut hs (cne y c e)⟩
  ·obtain⟨e,n,ne,nf,d⟩:=I.pin p hp;exact⟨(hs.2 p.1 ne).trans e,n,ne,nf,d⟩
 ·have hfn:X.fn x=true:=by
   rcases hf with z|z
   ·exact z
   ·rw[z]at hk;cases hk
  obtain⟨c,hc⟩:=I.ok.has x (.inl hk);obtain⟨w',z⟩:=I.cell x c hc;refine wpAny_storeName_cell I.ok.kind hk hc z (λh' hc' hs=>?_);obtain⟨oc,hoc,hocd⟩:=id z;refine h { s with heap:=h' } ⟨I.ok,I.os,I.bare,⟨λb o e n hb hx=>?_,λb o e n hb hx=>?_,I.base.free,λb o e hx=>?_,I.base.tups,I.base.frzs,I.base.tbls⟩,⟨m,hn.sameBut hs (Ne.symm (cne x c hc)),λj y v' e1 e2 e3=>?_⟩,λy c' e=>?_,I.free,I.freeC,λp hp=>?_,tracked ⟨oc,hoc,I.freeC x c hc⟩ hs,by simpa using I.len⟩ ⟨c,hs,.inr hc⟩
  ·exact(hs.2 b (hAx (hAo (Heap.lt_size e) (I.ok.cab x c hfn hc)))).trans (I.base.keep b o e n hb hx)
  ·obtain⟨sl,e1⟩:=I.base.slot b o e n hb hx;exact⟨sl,(hs.2 b (hAx (hAo (Heap.lt_size e) (I.ok.cab x c hfn hc)))).trans e1⟩
  ·obtain⟨o',e1⟩:=I.base.there b o e hx;exact⟨o',(hs.2 b (hAx (hAo (Heap.lt_size e) (I.ok.cab x c hfn hc)))).trans e1⟩
  ·by_cases hj:j=i
   ·subst hj;rw[hi]at e1;cases e1;rw[List.getElem?_set_self hiσ]at e2;cases e2;exact⟨u,r,.inr ⟨.inl hk,c,hc,hc'⟩⟩
   ·rw[List.getElem?_set_ne (Ne.symm hj)]at e2;obtain⟨u',r',q⟩:=hl j y v' e1 e2 e3;refine⟨u',r',?_⟩;rcases q with q|⟨k,c',e,z'⟩
    ·exact .inl q
    ·refine .inr ⟨k,c',e,z'.sameBut hs ?_⟩;rintro rfl;exact hj (qPw hN e1 (I.ok.inj _ _ _ e hc▸hi))
  ·by_cases hcc:c'=c
   ·subst hcc;exact⟨_,hc'⟩
   ·obtain⟨w2,z2⟩:=I.cell y c' e;exact⟨w2,z2.sameBut hs hcc⟩
  ·obtain⟨e,n,ne,nf,d⟩:=I.pin p hp;refine⟨(hs.2 p.1 ?_).trans e,n,ne,nf,d⟩;intro q;rw[q,hoc]at e;have q':oc=p.2:=hAq e;exact d w' (by rw[<-q'];exact hocd)
theorem qJp(I:Inv X aB σ H s)(hN:X.N.Nodup)(hi:X.N[i]?=some x)(hx:Loc X.env.scope x)(r:qDa v u)
  (h:∀s',Inv X aB (σ.set i (some v)) H s'->Q () s') (hf:X.fn x=true\/X.env.scope.names.lookup x=some .local:=by exact kO2):wpAny M A (storeName X.env x u) Q E s :=
 qLd I hN hi hx r (λs' I' _=>h s' I') hf
theorem Inv.call'(I:Inv X aB σ H s)(ho:s'.os=s.os)(u:Un (frs X.stack) ch H H' s.heap s'.heap)(hok:HOk X.prog X.w H' s'.heap)(hg:AllBare s'.gens)
  (hch:∀b∈ch,(b∈X.ex\/X.s₀.heap.objs.size<=b)/\b≠X.env.locals/\(∀x c,X.env.cells.lookup x=some c->c≠b)/\∀p∈X.pn++aB,p.1≠b):Inv X aB σ H' s':=by
 obtain⟨h',g',d',t',o'⟩:=s';have e:o'=s.os:=ho;subst e;exact I.call (g':=g') (t':=t') (d':=d') u hok hg hch
end
abbrev XK:=Value->Option Addr->Hp->Prop
abbrev St:=List (Option V)
abbrev VK:=V->Hp->Prop
abbrev TE:=St->Hp->VK->Prop
abbrev TT:=St->Hp->(Bool->Hp->Prop)->Prop
abbrev TA:=St->Hp->(List V->Hp->Prop)->Prop
structure Ends where
 nx:St->Hp->Prop
 rt:VK
 bk:St->Hp->Prop:=λ_ _=>False
 ct:St->Hp->Prop:=λ_ _=>False
abbrev TS:=Ends->St->Hp->Prop
def EP(X:Cx)(aB:List vH)(σ:St)(Q:VK)(u:Value)(s':Shared):Prop:=∃v H',Inv X aB σ H' s'/\qDa v u/\Q v H'
def TP(X:Cx)(aB:List vH)(σ:St)(Q:Bool->Hp->Prop)(b:Bool)(s':Shared):Prop:=∃H',Inv X aB σ H' s'/\Q b H'
def AP(X:Cx)(aB:List vH)(σ:St)(Q:List V->Hp->Prop)(us:List Value)(s':Shared):Prop:=∃vs H',Inv X aB σ H' s'/\qBx vs us/\Q vs H'
def SP(X:Cx)(aB:List vH)(D:Ends)(f:Flow)(s':Shared):Prop :=
 match f with
 |.next=>∃σ' H',Inv X aB σ' H' s'/\D.nx σ' H'
 |.brk=>∃σ' H',Inv X aB σ' H' s'/\D.bk σ' H'
 |.cont=>∃σ' H',Inv X aB σ' H' s'/\D.ct σ' H'
 |.ret u=>∃v σ' H',Inv X aB σ' H' s'/\qDa v u/\D.rt v H'
def PE(X:Cx)(e:Expr)(t:TE):Prop :=
 ∀(aB:List vH) (s:Shared) (σ:St) (H:Hp) (Q:VK),Inv X aB σ H s->t σ H Q->wpAny vD X.A (eval e X.env) (EP X aB σ Q) X.xe s
def PT(X:Cx)(e:Expr)(t:TT):Prop :=
 ∀(aB:List vH) (s:Shared) (σ:St) (H:Hp) (Q:Bool->Hp->Prop),Inv X aB σ H s->t σ H Q->wpAny vD X.A (isTrue e X.env (eval e X.env)) (TP X aB σ Q) X.xe s
def PW(X:Cx)(e:Expr)(t:TT):Prop :=
 ∀(whole:Sem Value) (aB:List vH) (s:Shared) (σ:St) (H:Hp) (Q:Bool->Hp->Prop),Inv X aB σ H s->t σ H Q->wpAny vD X.A (isTrue e X.env whole) (TP X aB σ Q) X.xe s
theorem PW.pt(h:PW X e t):PT X e t:=h _
def PA(X:Cx)(es:List Expr)(t:TA):Prop :=
 ∀(pos:Pos) (aB:List vH) (s:Shared) (σ:St) (H:Hp) (Q:List V->Hp->Prop),Inv X aB σ H s->t σ H Q->wpAny vD X.A (spliced (backTo pos (starEach es X.env))) (AP X aB σ Q) X.xe s
def PS(X:Cx)(st:Stmt)(t:TS):Prop :=
 ∀(aB:List vH) (s:Shared) (σ:St) (H:Hp) (D:Ends),Inv X aB σ H s->t D σ H->wpAny vD X.A (exec st X.env) (SP X aB D) X.xe s
def PSs(X:Cx)(st:List Stmt)(t:TS):Prop :=
 ∀(aB:List vH) (s:Shared) (σ:St) (H:Hp) (D:Ends),Inv X aB σ H s->t D σ H->wpAny vD X.A (execs st X.env) (SP X aB D) X.xe s
theorem thn(h:wpAny M A t Q E s)(hQ:∀a s,Q a s->Q' a s):wpAny M A t Q' E s:=hEq h hQ λ_ _ x=>x
section
variable{X:Cx}
def qR0(i:Nat):TE:=λσ H Q=>∃v,σ[i]?=some (some v)/\Q v H
def tC(v:V):TE:=λ_ H Q=>Q v H
theorem zD7(hN:X.N[i]?=some x)(hv:Vis X.env.scope x)(hd:(x == ("__debug__" : Str))=false:=by decide)(hcd:(x == ("__classdict__" : Str))=false:=by decide):PE X (.Name x pos) (qR0 i):=by
 intro aB s σ H Q I h;obtain⟨v,e,h⟩:=h;obtain⟨m,hn,hl⟩:=I.loc;obtain⟨u,r,l⟩:=hl i x v hN e hv;have fin:EP X aB σ Q u s:=⟨v,H,I,r,h⟩;rcases l with ⟨hk,hm⟩|⟨hk,c,hc,hcell⟩
 ·exact wpAny_Name (wpAny_loadName_local I.ok.kind hk hn hm fin) hd
 ·rcases hk with hk|hk
  ·exact wpAny_Name (wpAny_loadName_cell I.ok.kind hk hc hcell fin) hd
  ·exact wpAny_Name (wpAny_loadName_free I.ok.kind hk hc hcell fin hcd) hd
theorem qAb{i j pos}:PE X (.Constant (.int i) j pos) (tC (.int i)):=λ_ _ _ H _ I h=>wpAny_Constant_int ⟨.int i,H,I.tok _,⟨_,rfl⟩,h⟩
theorem qG3{b j pos}:PE X (.Constant (.bool b) j pos) (tC (.bl b)):=λ_ _ _ H _ I h=>Constant_bool ⟨.bl b,H,I,rfl,h⟩
theorem qCv{x j pos}:PE X (.Constant (.str x) j pos) (tC (.str x)):=λ_ _ _ H _ I h=>Calls.Constant_str ⟨.str x,H,I.tok _,⟨_,rfl⟩,h⟩
def Gl(X:Cx)(x:Str):Prop:=X.env.kindOf x=some .globalImplicit
theorem zCh(I:Inv X aB σ H s)(hg:Gl X x)(hm:X.mg x=some u)(h:Q u s)
  (hd:(x == ("__debug__" : Str))=false:=by decide):wpAny vD X.A (eval (.Name x pos) X.env) Q E s :=
 Calls.Name_function_global I.ok.kind hg (Calls.loadGlobal_global (by rw[I.ok.glob];exact I.mod.glob.keeps I.bk) hm h) hd
theorem qE5(I:Inv X aB σ H s)(hg:Gl X x)(hm:X.mg x=none)(hv:bootBuiltins x=some u)(h:Q u s)
  (hn:x≠"__name__":=by decide) (hd:(x == ("__debug__" : Str))=false:=by decide):wpAny vD X.A (eval (.Name x pos) X.env) Q E s:=by
 obtain⟨mb,h1,h2⟩:=I.mod.blt;exact Calls.Name_function_global I.ok.kind hg (Calls.loadGlobal_builtin (by rw[I.ok.glob];exact I.mod.glob.keeps I.bk) hm (by rw[I.ok.blt];exact h1.keeps I.bk) ((h2 x hn).trans hv) h) hd
theorem qH5(hg:Gl X x)(hm:X.mg x=none)(hv:bootBuiltins x=some u)(r:qDa v u)(hn:x≠"__name__":=by decide)(hd:(x == ("__debug__" : Str))=false:=by decide):PE X (.Name x pos) (tC v) :=
 λ_ _ _ H _ I h=>qE5 I hg hm hv ⟨v,H,I,r,h⟩ hn hd
variable{a b:Expr}{ta tb:TE}{pos:Pos}
def tB(t:TE):TT:=λσ H Q=>t σ H λx H1=>∃c,x = .bl c/\Q c H1
theorem qD9(h:PE X e t)(he:∀whole,isTrue e X.env whole=(do let v ← whole;standAt e.pos;holding [v] (truthy v)):=by intro _;rfl):PT X e (tB t):=by
 intro aB s σ H Q I hw;refine isTrue_plain (thn (h aB s σ H _ I hw) λv s1 ⟨x,H1,I1,r1,q1⟩=>?_) (he _);obtain⟨d,rfl,q⟩:=q1;cases r1;exact hEt ⟨H1,I1,q⟩
variable{tA tB':TT}{rest:List Expr}
def zHg(t u:TT):TT:=λσ H Q=>t σ H λc H1=>if c=true then u σ H1 Q else Q false H1
def tOr(t u:TT):TT:=λσ H Q=>t σ H λc H1=>if c=true then Q true H1 else u σ H1 Q
def zG9(t:TT):TT:=λσ H Q=>t σ H λc H1=>Q (!c) H1
theorem qGd(ha:PT X a tA):PW X (.BoolOp .And [a] pos) tA:=by
 intro wh aB s σ H Q I h;refine isTrue_and (thn (ha aB s σ H Q I h) λc s1 e=>?_);cases c with
 |true=>exact isTrue_and_nil e
 |false=>exact e
theorem qLs(ha:PT X a tA):PW X (.BoolOp .Or [a] pos) tA:=by
 intro wh aB s σ H Q I h;refine isTrue_or (thn (ha aB s σ H Q I h) λc s1 e=>?_);cases c with
 |false=>exact isTrue_or_nil e
 |true=>exact e
theorem qI9(ha:PT X a tA)(hb:PW X (.BoolOp .And (b :: rest) pos) tB'):PW X (.BoolOp .And (a :: b :: rest) pos) (zHg tA tB'):=by
 intro wh aB s σ H Q I h;refine isTrue_and (thn (ha aB s σ H _ I h) λc s1 ⟨H1,I1,q1⟩=>?_);cases c with
 |true=>exact hb wh aB s1 σ H1 Q I1 q1
 |false=>exact⟨H1,I1,q1⟩
theorem qN0(ha:PT X a tA)(hb:PW X (.BoolOp .Or (b :: rest) pos) tB'):PW X (.BoolOp .Or (a :: b :: rest) pos) (tOr tA tB'):=by
 intro wh aB s σ H Q I h;refine isTrue_or (thn (ha aB s σ H _ I h) λc s1 ⟨H1,I1,q1⟩=>?_);cases c with
 |true=>exact⟨H1,I1,q1⟩
 |false=>exact hb wh aB s1 σ H1 Q I1 q1
theorem qGv(ha:PT X a tA):PT X (.UnaryOp .Not a pos) (zG9 tA):=by
 intro aB s σ H Q I h;exact isTrue_not (ha aB s σ H (λc H1=>Q (!c) H1) I h)
def zFw(ta tb:TE):TE:=λσ H Q=>ta σ H λx H1=>∃c,x = .bl c/\if c=true then tb σ H1 Q else Q (.bl false) H1
def zFr(ta:TE):TE:=λσ H Q=>ta σ H λx H1=>∃c,x = .bl c/\Q (.bl (!c)) H1
theorem qTg{op}(h:PE X a t):PE X (.BoolOp op [a] pos) t:=λaB s σ H Q I hw=>BoolOp_one (h aB s σ H Q I hw)
theorem qPt(ha:PE X a ta)(hb:PE X (.BoolOp .And (b :: rest) pos) tb):PE X (.BoolOp .And (a :: b :: rest) pos) (zFw ta tb):=by
 intro aB s σ H Q I h;refine BoolOp_and (thn (ha aB s σ H _ I h) λv s1 ⟨x,H1,I1,r1,q1⟩=>?_);obtain⟨c,rfl,q1⟩:=q1;cases r1;refine hEt ?_;cases c with
 |true=>exact hb aB s1 σ H1 Q I1 q1
 |false=>exact⟨.bl false,H1,I1,rfl,q1⟩
theorem qZd(ha:PE X a ta):PE X (.UnaryOp .Not a pos) (zFr ta):=by
 intro aB s σ H Q I h;refine UnaryOp_ (thn (ha aB s σ H _ I h) λv s1 ⟨x,H1,I1,r1,q1⟩=>?_);obtain⟨c,rfl,q1⟩:=q1;cases r1;exact not_of (hEt ⟨.bl (!c),H1,I1,rfl,q1⟩)
def tIf(t:TT)(ta tb:TE):TE:=λσ H Q=>t σ H λc H1=>if c=true then ta σ H1 Q else tb σ H1 Q
theorem qEv(hc:PT X c tA)(ha:PE X a ta)(hb:PE X b tb):PE X (.IfExp c a b pos) (tIf tA ta tb):=by
 intro aB s σ H Q I h;refine wpAny_IfExp (thn (hc aB s σ H _ I h) λd s1 ⟨H1,I1,q1⟩=>?_);cases d with
 |true=>exact ha aB s1 σ H1 Q I1 q1
 |false=>exact hb aB s1 σ H1 Q I1 q1
end
def SqL(K:PySem.W.Frag)(H:Hp)(a:Addr)(xs:List V):Prop :=
 Rd H a (.lst xs) \/
  ∃(o:Obj) (its:Array Value) (n:Nat),K.lookup a=some o/\o.cls = .type "list"/\o.dict=none/\o.data = .seq its n/\its.size<=sizeLine/\qBx xs its.toList
def SqT(K:PySem.W.Frag)(H:Hp)(a:Addr)(xs:List V):Prop :=
 Rd H a (.tup xs) \/
  ∃(o:Obj) (its:Array Value) (n:Nat),K.lookup a=some o/\o.cls = .type "tuple"/\o.data = .seq its n/\its.size<=sizeLine/\qBx xs its.toList
noncomputable def zHt:Value->Option V
 |.none=>some .non
 |.bool b=>some (.bl b)
 |.int i _=>some (.int i)
 |.str x _=>some (.str x)
 |.bytes b _=>some (.byt b)
 |.float b _=>some (.flt b)
 |.ref a=>some (.ref a)
 |.type n=>some (.ty n)
 |_=>none
theorem qDa.abs(r:qDa x u):zHt u=some x:=by
 cases x with
 |non=>cases r;rfl
 |bl _=>cases r;rfl
 |int _=>obtain⟨t,rfl⟩:=r;rfl
 |str _=>obtain⟨t,rfl⟩:=r;rfl
 |byt _=>obtain⟨t,rfl⟩:=r;rfl
 |flt _=>obtain⟨t,rfl⟩:=r;rfl
 |ref _=>cases r;rfl
 |ty _=>cases r;rfl
theorem qDa.inj(r:qDa x u)(q:qDa y u):x=y:=hAq (r.abs.symm.trans q.abs)
theorem qBx.inj:∀ {xs ys:List V} {us:List Value},qBx xs us->qBx ys us->xs=ys
 |_,_,_,.nil,.nil=>rfl
 |_,_,_,.cons r t,.cons r' t'=>by rw[r.inj r',qBx.inj t t']
section
variable{X:Cx}{aB:List vH}{σ:St}{H:Hp}{s:Shared}{a:Addr}{xs ys:List V}
theorem SqL.of{K:PySem.W.Frag}(h:H a=some (.lst xs)):SqL K H a xs:=.inl (.inl h)
theorem SqT.of{K:PySem.W.Frag}(h:H a=some (.tup xs)):SqT K H a xs:=.inl (.inl h)
theorem Inv.list(I:Inv X aB σ H s)(h:SqL X.K H a xs):∃its:List Value,qBx xs its/\PlainL s.heap a its.toArray/\xs.length<=sizeLine:=by
 rcases h with h|⟨o,its,n,hk,hc,hd,hs,hz,r⟩
 ·obtain⟨z,its,n,r,e⟩:=h.ok I.hok;exact⟨its,r,⟨_,n,e,rfl,rfl,rfl⟩,z⟩
 ·refine⟨its.toList,r,⟨o,n,I.kIn a o hk,hc,hd,by simpa using hs⟩,?_⟩;have e:=r.length;simp only[hC3]at e;omega
theorem Inv.tuple(I:Inv X aB σ H s)(h:SqT X.K H a xs):∃its:List Value,qBx xs its/\IsTup s.heap a its.toArray/\xs.length<=sizeLine:=by
 rcases h with h|⟨o,its,n,hk,hc,hs,hz,r⟩
 ·obtain⟨z,its,r,p⟩:=h.ok I.hok;exact⟨its,r,p,z⟩
 ·refine⟨its.toList,r,⟨o,I.kIn a o hk,hc,n,by simpa using hs⟩,?_⟩;have e:=r.length;simp only[hC3]at e;omega
theorem Inv.list_inj(I:Inv X aB σ H s)(h:SqL X.K H a xs)(h':SqL X.K H a ys):xs=ys:=by
 obtain⟨its,r,⟨o,n,e,_,_,d⟩,_⟩:=I.list h;obtain⟨its',r',⟨o',n',e',_,_,d'⟩,_⟩:=I.list h';rw[e]at e';cases e';rw[d]at d';injection d' with d1 _
 have:its=its':=by simpa using congrArg Array.toList d1
 subst this;exact r.inj r'
theorem Inv.tuple_inj(I:Inv X aB σ H s)(h:SqT X.K H a xs)(h':SqT X.K H a ys):xs=ys:=by
 obtain⟨its,r,⟨o,e,_,n,d⟩,_⟩:=I.tuple h;obtain⟨its',r',⟨o',e',_,n',d'⟩,_⟩:=I.tuple h';rw[e]at e';cases e';rw[d]at d';injection d' with d1 _
 have:its=its':=by simpa using congrArg Array.toList d1
 subst this;exact r.inj r'
end
noncomputable abbrev Cx.wish(X:Cx)(E:Value->Shared->Prop):Cx:={ X with xe:=E }
noncomputable abbrev Cx.nox(X:Cx):Cx:=X.wish λ_ _=>False
theorem Cx.Ok.wish{X:Cx}(ok:X.Ok)(E:Value->Shared->Prop):(X.wish E).Ok :=
 ⟨ok.mod,ok.kind,ok.glob,ok.blt,ok.above,ok.inj,ok.has,ok.cab,ok.hd,ok.frames,ok.stk,ok.exf,ok.bs,ok.bsz,ok.noex,ok.exfs,ok.funs,ok.frf⟩
theorem Cx.Ok.unwish{X:Cx}{E:Value->Shared->Prop}(ok:(X.wish E).Ok):X.Ok :=
 ⟨ok.mod,ok.kind,ok.glob,ok.blt,ok.above,ok.inj,ok.has,ok.cab,ok.hd,ok.frames,ok.stk,ok.exf,ok.bs,ok.bsz,ok.noex,ok.exfs,ok.funs,ok.frf⟩
section
variable{X:Cx}{aB:List vH}{σ:St}{H:Hp}{s:Shared}{E:Value->Shared->Prop}
theorem Inv.wish(I:Inv X aB σ H s)(E:Value->Shared->Prop):Inv (X.wish E) aB σ H s:=⟨I.ok.wish E,I.os,I.bare,I.base,I.loc,I.cell,I.free,I.freeC,I.pin,I.hok,I.len⟩
theorem Inv.unwish(I:Inv (X.wish E) aB σ H s):Inv X aB σ H s:=⟨I.ok.unwish,I.os,I.bare,I.base,I.loc,I.cell,I.free,I.freeC,I.pin,I.hok,I.len⟩
theorem SP.unwish(h:SP (X.wish E) aB D f s'):SP X aB D f s':=by
 cases f with
 |next=>obtain⟨σ',H',I,q⟩:=h;exact⟨σ',H',I.unwish,q⟩
 |brk=>obtain⟨σ',H',I,q⟩:=h;exact⟨σ',H',I.unwish,q⟩
 |cont=>obtain⟨σ',H',I,q⟩:=h;exact⟨σ',H',I.unwish,q⟩
 |ret u=>obtain⟨v,σ',H',I,r,q⟩:=h;exact⟨v,σ',H',I.unwish,r,q⟩
theorem PSs.nox{st:List Stmt}{t:TS}(h:PSs X.nox st t):PSs X st t:=λaB s σ H D I hw =>
 hEq (h aB s σ H D (I.wish _) hw) (λ_ _ q=>q.unwish) λ_ _ z=>False.elim z
end
section
variable{X:Cx}{st:Stmt}{rest:List Stmt}{t u:TS}{e:Expr}{te:TE}{pos:Pos}
def zFs:TS:=λD σ H=>D.nx σ H
def zG7(t u:TS):TS:=λD σ H=>t { D with nx:=u D } σ H
theorem qA1:PSs X [] zFs:=λ_ _ σ H _ I h=>hFl ⟨σ,H,I,h⟩
theorem qAa(h1:PS X st t)(h2:PSs X rest u):PSs X (st :: rest) (zG7 t u):=by
 intro aB s σ H D I h;refine wpAny_execs_cons (thn (h1 aB s σ H { D with nx:=u D } I h) λf s1 q=>?_);cases f with
 |next =>
  obtain⟨σ',H',I',q⟩:=q;exact h2 aB s1 σ' H' D I' q
 |ret v=>exact q
 |brk=>exact q
 |cont=>exact q
theorem qAe(h1:PS X st t):PSs X [st] t:=by
 intro aB s σ H D I h;refine wpAny_execs_cons (thn (h1 aB s σ H D I h) λf s1 q=>?_);cases f with
 |next=>exact hFl q
 |ret v=>exact q
 |brk=>exact q
 |cont=>exact q
theorem Inv.quiet(I:Inv X aB σ H s):interactive X.env=false:=by simp[interactive,I.ok.kind]
def zFu(te:TE):TS:=λD σ H=>te σ H λ_ H1=>D.nx σ H1
theorem qCp(he:PE X e te)(hs:swapsWith e none pos.line X.env=pure false:=by rfl):PS X (.Expr e pos) (zFu te):=by
 intro aB s σ H D I h;exact wpAny_Expr_any (thn (he aB s σ H _ I h) λv s1 ⟨x,H1,I1,r1,q1⟩=>⟨σ,H1,I1,q1⟩) I.quiet hs
def zG8(te:TE):TS:=λD σ H=>te σ H D.rt
theorem qAt(he:PE X e te):PS X (.Return (some e) pos) (zG8 te):=by
 intro aB s σ H D I h;exact wpAny_Return_some (thn (he aB s σ H _ I h) λv s1 ⟨x,H1,I1,r1,q1⟩=>⟨x,σ,H1,I1,r1,q1⟩)
def zHb(c:TT)(t u:TS):TS:=λD σ H=>c σ H λb H1=>if b=true then t D σ H1 else u D σ H1
theorem qBo(hc:PT X c tc)(ha:PSs X a t)(hb:PSs X b u):PS X (.If c a b pos) (zHb tc t u):=by
 intro aB s σ H D I h;refine wpAny_If (thn (hc aB s σ H _ I h) λd s1 ⟨H1,I1,q1⟩=>?_);cases d with
 |true=>exact ha aB s1 σ H1 D I1 q1
 |false=>exact hb aB s1 σ H1 D I1 q1
end
abbrev TG:=V->St->Hp->(St->Hp->Prop)->Prop
abbrev TGs:=List V->St->Hp->(St->Hp->Prop)->Prop
def PG(X:Cx)(target:Expr)(t:TG):Prop :=
 ∀(aB:List vH) (s:Shared) (σ:St) (H:Hp) (v:V) (u:Value) (Q:St->Hp->Prop),Inv X aB σ H s->qDa v u->t v σ H Q ->
  wpAny vD X.A (assign target X.env u) (λ_ s'=>∃σ' H',Inv X aB σ' H' s'/\Q σ' H') X.xe s
def PGs(X:Cx)(ts:List Expr)(t:TGs):Prop :=
 ∀(aB:List vH) (s:Shared) (σ:St) (H:Hp) (vs:List V) (us:List Value) (Q:St->Hp->Prop),Inv X aB σ H s->qBx vs us->t vs σ H Q ->
  wpAny vD X.A (assignInOrder ((assignEach ts X.env).map (·.2)) us) (λ_ s'=>∃σ' H',Inv X aB σ' H' s'/\Q σ' H') X.xe s
abbrev TIp:=V->V->Hp->VK->Prop
def PIp(X:Cx)(op:Operator)(t:TIp):Prop :=
 ∀(aB:List vH) (s:Shared) (σ:St) (H:Hp) (x y:V) (v u:Value) (Q:VK),Inv X aB σ H s->qDa x v->qDa y u->t x y H Q ->
  wpAny vD X.A (inplaceOp op v u) (EP X aB σ Q) X.xe s
section
variable{X:Cx}{pos:Pos}
def qOg(i:Nat):TG:=λv σ H Q=>Q (σ.set i (some v)) H
theorem qAm(hN:X.N.Nodup)(hi:X.N[i]?=some x)(hx:Loc X.env.scope x)(hf:X.fn x=true\/X.env.scope.names.lookup x=some .local:=by exact kO2):PG X (.Name x pos) (qOg i):=by
 intro aB s σ H v u Q I r h;exact wpAny_assign_Name (qJp I hN hi hx r (λs' I'=>⟨_,H,I',h⟩) hf)
def zHr:TGs:=λvs σ H Q=>vs=[]/\Q σ H
def zGm(t:TG)(u:TGs):TGs:=λvs σ H Q=>∃v r,vs=v :: r/\t v σ H λσ' H'=>u r σ' H' Q
theorem qBl:PGs X [] zHr:=by
 intro aB s σ H vs us Q I r h;obtain⟨e,h⟩:=h;subst e;cases r;exact assignInOrder_nil ⟨σ,H,I,h⟩
theorem qAs(h1:PG X e t)(h2:PGs X es u)
  (hs:(assignEach (e :: es) X.env).map (·.2)=assign e X.env :: (assignEach es X.env).map (·.2):=by rfl):PGs X (e :: es) (zGm t u):=by
 intro aB s σ H vs us Q I r h;obtain⟨v,vr,e1,h⟩:=h;subst e1;cases r with
 |cons r rr =>
  rw[hs];refine assignInOrder_cons (thn (h1 aB s σ H _ _ _ I r h) λ_ s1 ⟨σ1,H1,I1,q1⟩=>?_);exact h2 aB s1 σ1 H1 _ _ Q I1 rr q1
def zCs(K:PySem.W.Frag)(n:Nat)(t:TGs):TG:=λv σ H Q=>∃a xs,v = .ref a/\SqT K H a xs/\xs.length=n/\t xs σ H Q
theorem qB5(hc:X.calm=true)(h:PGs X es t)
  (hn:(assignEach es X.env).length=n:=by rfl) (hst:(assignEach es X.env).findIdx? (·.1)=none:=by rfl):PG X (.Tuple es k pos) (zCs X.K n t):=by
 intro aB s σ H v u Q I r hw;obtain⟨a,xs,e1,hq,hl,hw⟩:=hw;subst e1;cases r;obtain⟨its,rv,ht,hz⟩:=I.tuple hq;refine assign_Tuple_tuple (I.ok.hd hc) ht (by simp[hn,<-hl,rv.length]) hst λh' hx=>?_
 have I1:Inv X aB σ H { s with heap:=h' }:=I.kept (t':=s.toks) λb o e=>hx b o (hAx (Heap.lt_size e)) e
 exact h aB _ σ H xs _ Q I1 (by simpa using rv) hw
def zDj(te:TE)(g:TG):TS:=λD σ H=>te σ H λx H1=>g x σ H1 D.nx
theorem qGw(he:PE X e te)(hg:PG X tg g)(hs:swapsWithSole [tg] e pos.line X.env=pure false:=by rfl)(hw:swappedStores [tg] e X.env=pure none:=by rfl)
  (h1:(assignEach [tg] X.env).map (·.2)=[assign tg X.env]:=by rfl):PS X (.Assign [tg] e pos) (zDj te g):=by
 intro aB s σ H D I h;refine wpAny_Assign_stores (thn (he aB s σ H _ I h) λv s1 ⟨x,H1,I1,r1,q1⟩=>?_) hs hw;rw[h1];exact thn (hg aB s1 σ H1 x v _ I1 r1 q1) λ_ s2 q=>q
theorem qAi(hN:X.N.Nodup)(hi:X.N[i]?=some x)(hx:Loc X.env.scope x)(he:PE X e te)(hs:swapsWith e (some (.Name x pos')) pos.line X.env=pure false:=by rfl)(hf:X.fn x=true\/X.env.scope.names.lookup x=some .local:=by exact kO2) :
  PS X (.Assign [.Name x pos'] e pos) (zDj te (qOg i)):=by
 intro aB s σ H D I h;refine wpAny_Assign_Name (thn (he aB s σ H _ I h) λv s1 ⟨y,H1,I1,r1,q1⟩=>?_) hs;exact qJp I1 hN hi hx r1 (λs2 I2=>⟨_,H1,I2,q1⟩) hf
def zHf(i:Nat)(te:TE)(ti:TIp):TS:=λD σ H=>∃x,σ[i]?=some (some x)/\te σ H λy H1=>ti x y H1 λz H2=>D.nx (σ.set i (some z)) H2
theorem qLu(hN:X.N.Nodup)(hi:X.N[i]?=some x)(hx:Loc X.env.scope x)(he:PE X e te)(ho:PIp X op ti)(hf:X.fn x=true\/X.env.scope.names.lookup x=some .local:=by exact kO2) :
  PS X (.AugAssign (.Name x pos') op e pos) (zHf i te ti):=by
 intro aB s σ H D I h;obtain⟨v,e1,h⟩:=h;obtain⟨m,hn,hl⟩:=I.loc;have vis:Vis X.env.scope x:=by rcases hx with k|k;exact .inl k;exact .inr (.inl k)
 obtain⟨u,r,l⟩:=hl i x v hi e1 vis;refine wpAny_AugAssign_Name ?_;have go:wpAny vD X.A (eval e X.env) (λw s₂=>wpAny vD X.A (inplaceOp op u w) (λr s₃=>wpAny vD X.A (storeName X.env x r) (λ_=>SP X aB D .next) X.xe s₃) X.xe s₂) X.xe s:=by
  refine thn (he aB s σ H _ I h) λw s1 ⟨y,H1,I1,r1,q1⟩=>?_
  refine thn (ho aB s1 σ H1 v y u w _ I1 r r1 q1) λz s2 ⟨zv,H2,I2,r2,q2⟩=>?_
  exact qJp I2 hN hi hx r2 (λs3 I3=>⟨_,H2,I3,q2⟩) hf
 rcases l with ⟨hk,hm⟩|⟨hk,c,hc,hcell⟩
 ·exact wpAny_loadName_local I.ok.kind hk hn hm go
 ·rcases hk with hk|hk
  ·exact wpAny_loadName_cell I.ok.kind hk hc hcell go
  ·rcases hx with k|k
   ·have:X.env.scope.names.lookup x=some .free:=hk;rw[k]at this;cases this
   ·have:X.env.scope.names.lookup x=some .free:=hk;rw[k]at this;cases this
def ipI(f:Int->Int->Int):TIp:=λx y H Q=>∃i j,x = .int i/\y = .int j/\Q (.int (f i j)) H
theorem qQb:PIp X .Add (ipI λi j=>i+j):=by
 intro aB s σ H x y v u Q I r1 r2 h;obtain⟨i,j,e1,e2,q⟩:=h;subst e1;subst e2;obtain⟨t,rfl⟩:=r1;obtain⟨t',rfl⟩:=r2;exact iadd_int ⟨.int _,H,I.tok _,⟨_,rfl⟩,q⟩
theorem zEy:PIp X .Sub (ipI λi j=>i-j):=by
 intro aB s σ H x y v u Q I r1 r2 h;obtain⟨i,j,e1,e2,q⟩:=h;subst e1;subst e2;obtain⟨t,rfl⟩:=r1;obtain⟨t',rfl⟩:=r2;exact isub_int ⟨.int _,H,I.tok _,⟨_,rfl⟩,q⟩
end
section
variable{X:Cx}{pos:Pos}
def zDf(c:TT)(tb:TS):TS:=λD σ H=>∃W:Nat->St->Hp->Prop,(∃m,W m σ H)/\∀m σ H,W m σ H ->
 c σ H λb H1=>if b=true then ∃N:St->Hp->Prop,(∀σ' H',N σ' H'->∃m',m'<m/\W m' σ' H')/\tb { D with nx:=N,ct:=N,bk:=D.nx } σ H1 else D.nx σ H1
theorem qKb(hp:PassesOwn vD X.A X.env X.xe)(hc:PT X c tc)(hb:PSs X body tb):PS X (.While c body [] pos) (zDf tc tb):=by
 intro aB s σ H D I h;obtain⟨W,⟨m0,w0⟩,turn⟩:=h;refine wpAny_While (codeAny_whileLoop (λn s'=>∃σ' H',Inv X aB σ' H' s'/\W n σ' H') ?_ m0 ⟨σ,H,I,w0⟩);rintro n s1 ⟨σ1,H1,I1,w1⟩;refine hEy hp (thn (hc aB s1 σ1 H1 _ I1 (turn n σ1 H1 w1)) λb s2 ⟨H2,I2,q2⟩=>?_);cases b with
 |true =>
  obtain⟨N,hN,q2⟩:=q2;rw[hEk rfl];refine hEy hp (thn (hb aB s2 σ1 H2 _ I2 q2) λf s3 q3=>?_);cases f with
  |next =>
   obtain⟨σ3,H3,I3,n3⟩:=q3;obtain⟨m',hm,w3⟩:=hN σ3 H3 n3;exact⟨m',hm,σ3,H3,I3,w3⟩
  |cont =>
   obtain⟨σ3,H3,I3,n3⟩:=q3;obtain⟨m',hm,w3⟩:=hN σ3 H3 n3;exact⟨m',hm,σ3,H3,I3,w3⟩
  |brk=>exact q3
  |ret v=>exact q3
 |false =>
  rw[hEj hB3];exact hFl ⟨σ1,H2,I2,q2⟩
end
structure It where
 go:Nat->Hp->Prop
 yld:Nat->Hp->V->Hp->Prop
 stop:Nat->Hp->Prop
def qRs(X:Cx)(aB:List vH)(H:Hp)(b:Addr):Prop :=
 H b=none/\b≠X.env.locals/\b∉X.fs/\(b∈X.ex\/X.s₀.heap.objs.size<=b)/\(∀x c,X.env.cells.lookup x=some c->c≠b)/\∀p∈X.pn++aB,p.1≠b
theorem Inv.fpOk(I:Inv X aB σ H s)(hb:s.heap.objs.size<=b)(hn:H' b=none):qRs X aB H' b:=by
 refine⟨hn,hCj (hAo I.lt hb),I.nofs hb,.inr (hAw I.sz hb),λx c e z=>?_,λp hp z=>?_⟩
 ·obtain⟨v,q⟩:=I.cell x c e;exact absurd (hAo q.lt (by rw[z];exact hb)) (hCv _)
 ·exact absurd (hAo (Heap.lt_size (I.pin p hp).1) (by rw[z];exact hb)) (hCv _)
structure Turn(P:Program)(w:World)(K:PySem.W.Frag)(tg:Expr)(J:It)(fp:List Addr)(it:Addr)(tn:Nat->Heap->Prop)(c:Cx->Prop:=λX=>X.calm=true):Prop where
 mem:it∈fp
 obj:∀i h,tn i h->∀b∈fp,∃o,h.get? b=some o/\∀v,o.data≠.cell v
 keep:∀i h h',tn i h->(∀b∈fp,∀o,h.get? b=some o->h'.get? b=some o)->tn i h'
 item:∀(X:Cx),X.prog=P->X.w=w->X.K=K->c X->∀(i:Nat) (aB:List vH) (s:Shared) (σ:St) (H:Hp) (E:Value->Shared->Prop),Inv X aB σ H s->(∀b∈fp,qRs X aB H b)->tn i s.heap->J.go i H ->
  wpAny (model P w) X.A (pyNext (.ref it)) (λr s1=>∃u,r=some u /\
   wpAny (model P w) X.A (letOwnedTupleGo tg (.ref it) u) (λ_ s2=>∃x H',Inv X aB σ H' s2/\qDa x u/\J.yld i H x H'/\tn (i+1) s2.heap/\∀b∈fp,H' b=none) E s1) E s
 done:∀(X:Cx),X.prog=P->X.w=w->X.K=K->c X->∀(i:Nat) (aB:List vH) (s:Shared) (σ:St) (H:Hp) (E:Value->Shared->Prop),Inv X aB σ H s->(∀b∈fp,qRs X aB H b)->tn i s.heap->J.stop i H ->
  wpAny (model P w) X.A (pyNext (.ref it)) (λr s1=>r=none/\Inv X aB σ H s1) E s
 self:∀(A:Around) (i:Nat) (s:Shared) (Q:Value->Shared->Prop) (E:Value->Shared->Prop),tn i s.heap->Q (.ref it) s->wpAny (model P w) A (pyIter (.ref it)) Q E s
abbrev TI:=St->Hp->(It->Hp->Prop)->Prop
def PIE(X:Cx)(aB:List vH)(σ:St)(tg:Expr)(R:It->Hp->Prop)(itv:Value)(s2:Shared):Prop :=
 ∃(it:Addr) (fp:List Addr) (tn:Nat->Heap->Prop) (J:It) (H':Hp),itv = .ref it/\Inv X aB σ H' s2/\Turn X.prog X.w X.K tg J fp it tn/\tn 0 s2.heap/\(∀b∈fp,qRs X aB H' b)/\R J H'
def PI(X:Cx)(tg iter:Expr)(wi:TI):Prop :=
 ∀(aB:List vH) (s:Shared) (σ:St) (H:Hp) (R:It->Hp->Prop),Inv X aB σ H s->wi σ H R ->
  wpAny vD X.A (eval iter X.env) (λv s1=>wpAny vD X.A (pyIter v) (PIE X aB σ tg R) X.xe s1) X.xe s
theorem qXy(ho:s.heap.get? it=some o)(hc:o.cls = .type n)(hd:o.data = .fields vs)
  (hn:["enumerate","zip","dict_itemiterator","dict_reverseitemiterator","odict_iterator","itertools.zip_longest","itertools.pairwise"].contains n=false) (hQ:Q () s):wpAny M A (letOwnedTupleGo tg (.ref it) u) Q E s:=by
 unfold letOwnedTupleGo;cases tg <;> first
  |exact hEh hQ
  |(cases u <;> first
    |exact hEh hQ
    |(refine hEe (wpAny_load ho ?_);rw[hc,hd];show wpAny M A (if (["enumerate","zip","dict_itemiterator","dict_reverseitemiterator","odict_iterator","itertools.zip_longest","itertools.pairwise"].contains n && vs[0]? == some (rawInt _))=true then _ else _) Q E s;rw[hEj (by intro h;rw[hn,Bool.false_and]at h;cases h)];exact hEh hQ))
def Itl(K:PySem.W.Frag)(a:Addr):It :=
 ⟨λi H=>∃xs x,SqL K H a xs/\xs[i]?=some x,λi H x H'=>H'=H/\∀xs,SqL K H a xs->xs[i]?=some x,λi H=>∃xs,SqL K H a xs/\xs.length<=i⟩
def Itt(K:PySem.W.Frag)(a:Addr):It :=
 ⟨λi H=>∃xs x,SqT K H a xs/\xs[i]?=some x,λi H x H'=>H'=H/\∀xs,SqT K H a xs->xs[i]?=some x,λi H=>∃xs,SqT K H a xs/\xs.length<=i⟩
def Itr(lo:Int)(n:Nat):It:=⟨λi _=>i<n,λi H x H'=>H'=H/\x = .int (lo+i),λi _=>n<=i⟩
theorem qRw{P:Program}{w:World}{K:PySem.W.Frag}{tg:Expr}(a it:Addr):Turn P w K tg (Itl K a) [it] it (λi h=>h.IsListIter it a i) where
 mem:=by simp
 obj:=λi h st b hb=>by
  have e:b=it:=by simpa using hb
  subst e;obtain⟨o,e,c,d⟩:=st;exact⟨o,e,λv z=>by rw[d]at z;cases z⟩
 keep:=λi h h' st k=>st.at λo e=>k it vI o e
 item:=by
  intro X hP hw hK hc i aB s σ H E I hf st hg;subst hP hw hK;obtain⟨xs,x,hq,hx⟩:=hg;obtain⟨its,rv,p,hz⟩:=I.list hq;obtain⟨u,hu,ru⟩:=rv.get hx;obtain⟨f0,f1,f2,f3,f4,f5⟩:=hf it vI;refine wpAny_pyNext_list_item st p.isList (x:=u) (by simpa using hu) λh' st' sb=>?_
  have I1:Inv X aB σ H { s with heap:=h' }:=I.turned (t':=s.toks) (λb o hb e=>(sb.2 b hb).trans e) f0 f1 f3 f4 f5;obtain⟨o,e,c,d⟩:=id st';exact⟨u,rfl,qXy (s:={ s with heap:=h' }) e c d (by decide) ⟨x,H,I1,ru,⟨rfl,λys hy=>by rw[I.list_inj hy hq];exact hx⟩,st',λb hb=>(hf b hb).1⟩⟩
 done:=by
  intro X hP hw hK hc i aB s σ H E I hf st hg;subst hP hw hK;obtain⟨xs,hq,hx⟩:=hg;obtain⟨its,rv,p,hz⟩:=I.list hq;obtain⟨f0,f1,f2,f3,f4,f5⟩:=hf it vI;have hl:=rv.length;exact wpAny_pyNext_list_end (I.ok.hd hc) st p.isList (by simp;omega) λh' eb=>⟨rfl,I.turned (t':=s.toks) (λb o hb e=>eb b o hb e) f0 f1 f3 f4 f5⟩
 self:=λ_ _ _ _ _ st h=>wpAny_pyIter_listiter st h
theorem qQ7{P:Program}{w:World}{K:PySem.W.Frag}{tg:Expr}(a it:Addr):Turn P w K tg (Itt K a) [it] it (λi h=>h.IsTupleIter it a i) where
 mem:=by simp
 obj:=λi h st b hb=>by
  have e:b=it:=by simpa using hb
  subst e;obtain⟨o,e,c,d⟩:=st;exact⟨o,e,λv z=>by rw[d]at z;cases z⟩
 keep:=λi h h' st k=>st.at λo e=>k it vI o e
 item:=by
  intro X hP hw hK hc i aB s σ H E I hf st hg;subst hP hw hK;obtain⟨xs,x,hq,hx⟩:=hg;obtain⟨its,rv,p,hz⟩:=I.tuple hq;obtain⟨u,hu,ru⟩:=rv.get hx;obtain⟨f0,f1,f2,f3,f4,f5⟩:=hf it vI;refine wpAny_pyNext_tuple_item st (show s.heap.IsTuple a its.toArray from p) (x:=u) (by simpa using hu) λh' st' sb=>?_
  have I1:Inv X aB σ H { s with heap:=h' }:=I.turned (t':=s.toks) (λb o hb e=>(sb.2 b hb).trans e) f0 f1 f3 f4 f5;obtain⟨o,e,c,d⟩:=id st';exact⟨u,rfl,qXy (s:={ s with heap:=h' }) e c d (by decide) ⟨x,H,I1,ru,⟨rfl,λys hy=>by rw[I.tuple_inj hy hq];exact hx⟩,st',λb hb=>(hf b hb).1⟩⟩
 done:=by
  intro X hP hw hK hc i aB s σ H E I hf st hg;subst hP hw hK;obtain⟨xs,hq,hx⟩:=hg;obtain⟨its,rv,p,hz⟩:=I.tuple hq;obtain⟨f0,f1,f2,f3,f4,f5⟩:=hf it vI;have hl:=rv.length;exact wpAny_pyNext_tuple_end (I.ok.hd hc) st (show s.heap.IsTuple a its.toArray from p) (by simp;omega) λh' eb=>⟨rfl,I.turned (t':=s.toks) (λb o hb e=>eb b o hb e) f0 f1 f3 f4 f5⟩
 self:=λ_ _ _ _ _ st h=>wpAny_pyIter_tupleiter st h
theorem qQ8{P:Program}{w:World}{K:PySem.W.Frag}{tg:Expr}(it:Addr)(lo:Int)(n:Nat):Turn P w K tg (Itr lo n) [it] it (λi h=>IsRangeIter h it (lo+(i:Nat)*1) ((n:Int)-(i:Nat)) 1) where
 mem:=by simp
 obj:=λi h st b hb=>by
  have e:b=it:=by simpa using hb
  subst e;exact⟨_,st,λv z=>by
   have z':Data.fields _=Data.cell v:=z;cases z'⟩
 keep:=λi h h' st k=>k it vI _ st
 item:=by
  intro X hP hw hK hc i aB s σ H E I hf st hg;subst hP hw hK;obtain⟨f0,f1,f2,f3,f4,f5⟩:=hf it vI;have W:=Walks.range (prog:=X.prog) (w:=X.w) (I.ok.hd hc) it lo 1 n;refine W.item i s _ _ hg st λv h' tk hv st' kk=>?_
  obtain⟨t,rfl⟩:=hv;have I1:Inv X aB σ H { s with heap:=h',toks:=tk }:=I.turned (λb o hb e=>kk b o (by simpa using hb) e) f0 f1 f3 f4 f5;refine⟨_,rfl,qXy (s:={ s with heap:=h',toks:=tk }) (n:="range_iterator") st' rfl rfl (by decide) ⟨.int (lo+i),H,I1,⟨t,?_⟩,⟨rfl,rfl⟩,st',λb hb=>(hf b hb).1⟩⟩;rw[Int.mul_one]
 done:=by
  intro X hP hw hK hc i aB s σ H E I hf st hg;subst hP hw hK;obtain⟨f0,f1,f2,f3,f4,f5⟩:=hf it vI;exact wpAny_pyNext_range_end (I.ok.hd hc) st (by have:n<=i:=hg;omega) λh' eb=>⟨rfl,I.turned (t':=s.toks) (λb o hb e=>eb b o hb e) f0 f1 f3 f4 f5⟩
 self:=λ_ _ _ _ _ st h=>wpAny_pyIter_rangeiter st h
section
variable{X:Cx}{tg:Expr}
def zCp(K:PySem.W.Frag)(tl:TE):TI:=λσ H R=>tl σ H λx H1=>∃a,x = .ref a/\(∃xs,SqL K H1 a xs)/\R (Itl K a) H1
def zHq(K:PySem.W.Frag)(tl:TE):TI:=λσ H R=>tl σ H λx H1=>∃a,x = .ref a/\(∃xs,SqT K H1 a xs)/\R (Itt K a) H1
theorem qAp{l:Expr}{tl:TE}(hl:PE X l tl):PI X tg l (zCp X.K tl):=by
 intro aB s σ H R I h;refine thn (hl aB s σ H _ I h) λv s1 ⟨x,H1,I1,r1,q1⟩=>?_
 obtain⟨a,e,⟨xs,hq⟩,q⟩:=q1;subst e;cases r1;obtain⟨its,rv,p,hz⟩:=I1.list hq;refine hFc p.isList ?_;refine⟨s1.heap.objs.size,[s1.heap.objs.size],_,_,H1,rfl,I1.kept (t':=s1.toks) λb o e=>Heap.get?_push_of_some _ e,qRw a _,⟨_,Heap.get?_push_size _ rfl,rfl,rfl⟩,λb hb=>?_,q⟩;have e:b=s1.heap.objs.size:=by simpa using hb
 subst e;exact I1.fpOk (hA9 _) (I1.hok.fresh (hA9 _))
theorem zD6{l:Expr}{tl:TE}(hl:PE X l tl):PI X tg l (zHq X.K tl):=by
 intro aB s σ H R I h;refine thn (hl aB s σ H _ I h) λv s1 ⟨x,H1,I1,r1,q1⟩=>?_
 obtain⟨a,e,⟨xs,hq⟩,q⟩:=q1;subst e;cases r1;obtain⟨its,rv,p,hz⟩:=I1.tuple hq;refine wpAny_pyIter_tuple (show s1.heap.IsTuple a its.toArray from p) ?_;refine⟨s1.heap.objs.size,[s1.heap.objs.size],_,_,H1,rfl,I1.kept (t':=s1.toks) λb o e=>Heap.get?_push_of_some _ e,qQ7 a _,⟨_,Heap.get?_push_size _ rfl,rfl,rfl⟩,λb hb=>?_,q⟩;have e:b=s1.heap.objs.size:=by simpa using hb
 subst e;exact I1.fpOk (hA9 _) (I1.hok.fresh (hA9 _))
theorem qW5{aB:List vH}{σ:St}{H:Hp}{s:Shared}{R:It->Hp->Prop}{E:Value->Shared->Prop}{lo hi:Int}{t u v:Tok}{tk:Nat}(I:Inv X aB σ H s)(h1:-(2^62)<=lo)(h2:lo<2^62)(h3:-(2^62)<=hi)(h4:hi<2^62)
  (q:R (Itr lo (hi-lo).toNat) H):wpAny vD X.A (pyIter (.ref s.heap.objs.size)) (PIE X aB σ tg R) E { s with heap:=s.heap.push { cls:=.type "range",data:=.fields #[.int lo t,.int hi u,.int 1 v] },toks:=tk }:=by
 refine wpAny_pyIter_range (IsRange.new ..) (small_one h1 h2 h3 h4) ?_;have I1:Inv X aB σ H { s with heap:=s.heap.push { cls:=.type "range",data:=.fields #[.int lo t,.int hi u,.int 1 v] },toks:=tk }:=I.kept λb o e=>Heap.get?_push_of_some _ e
 refine⟨(s.heap.push { cls:=.type "range",data:=.fields #[.int lo t,.int hi u,.int 1 v] }).objs.size,[(s.heap.push { cls:=.type "range",data:=.fields #[.int lo t,.int hi u,.int 1 v] }).objs.size],_,_,H,rfl,
  I1.kept (t':=tk) λb o e=>Heap.get?_push_of_some _ e,qQ8 _ lo (hi-lo).toNat,?_,λb hb=>?_,q⟩
 ·have e1:lo+((0:Nat):Int)*1=lo:=by simp
  have e2:(((hi-lo).toNat:Nat):Int)-((0:Nat):Int)=Builtin.Range.rangeSize lo hi 1:=by rw[rangeSize_one];split <;> omega
  show IsRangeIter _ _ (lo+((0:Nat):Int)*1) ((((hi-lo).toNat:Nat):Int)-((0:Nat):Int)) 1;rw[e1,e2];exact Heap.get?_push_size _ rfl
 ·have e:b=(s.heap.push { cls:=.type "range",data:=.fields #[.int lo t,.int hi u,.int 1 v] }).objs.size:=by simpa using hb
  subst e;exact I1.fpOk (hA9 _) (I1.hok.fresh (hA9 _))
def zGi(ta:TA):TI:=λσ H R=>ta σ H λvs H1=>∃j:Int,vs=[.int j]/\-(2^62)<=j/\j<2^62/\R (Itr 0 j.toNat) H1
theorem qBd{a:Expr}{ta:TA}{p pos:Pos}(hg:Gl X "range")(hm:X.mg "range"=none)(ha:PA X [a] ta)(hs:starEach [a] X.env=[(false,eval a X.env)]:=by rfl):PI X tg (.Call (.Name "range" p) [a] [] pos) (zGi ta):=by
 intro aB s σ H R I h;refine Call_ (qE5 I hg hm boot_range (hCw (thn (ha pos aB s σ H _ I h) λus s1 ⟨vs,H1,I1,r1,q1⟩=>?_) hs rfl));obtain⟨j,e,q1,q2,q⟩:=q1;subst e;cases r1 with
 |cons r rr =>
  cases rr;obtain⟨t,rfl⟩:=r;exact call_range_1 (qW5 I1 vG vG q1 q2 (by simpa using q))
def zHc(wi:TI)(g:TG)(tb:TS):TS:=λD σ H=>wi σ H λJ H1=>∃W:Nat->Nat->St->Hp->Prop,(∃m,W 0 m σ H1)/\∀i m σ H,W i m σ H ->
 (J.stop i H/\D.nx σ H)\/(J.go i H/\∃N:St->Hp->Prop,(∀σ' H',N σ' H'->∃m',m'<m/\W (i+1) m' σ' H')/\∀x H',J.yld i H x H'->g x σ H' λσ2 H2=>tb { D with nx:=N,ct:=N,bk:=D.nx } σ2 H2)
def qJb(fp:List Addr)(h:Heap):List vH:=fp.filterMap λb=>(h.get? b).map λo=>(b,o)
theorem qC3(hb:b∈fp)(e:h.get? b=some o):(b,o)∈qJb fp h:=hD8.mpr ⟨b,hb,by rw[e];rfl⟩
theorem qTr(hp:p∈qJb fp h):p.1∈fp/\h.get? p.1=some p.2:=by
 obtain⟨b,hb,e⟩:=hD8.mp hp;cases q:h.get? b with
 |none=>rw[q]at e;cases e
 |some o =>
  rw[q]at e;have e':(b,o)=p:=hAq e;subst e';exact⟨hb,q⟩
theorem Inv.pinned(I:Inv X aB σ H s)(hf:∀b∈fp,qRs X aB H b)(ho:∀b∈fp,∃o,s.heap.get? b=some o/\∀v,o.data≠.cell v):Inv X (aB++qJb fp s.heap) σ H s :=
 I.pins_of λp hp=>(hAb.mp hp).elim (λz=>I.pin p (hA7 _ z)) λz=>by
  obtain⟨hb,e⟩:=qTr z;obtain⟨f0,f1,f2,_⟩:=hf p.1 hb;obtain⟨o,e',d⟩:=ho p.1 hb;rw[e]at e';cases e';exact⟨e,f0,f1,f2,d⟩
theorem Inv.unpinned(I:Inv X (aB++pl) σ H s):Inv X aB σ H s:=I.pins_of λp hp=>I.pin p (hA7 _ (hAg _ hp))
theorem qBa(hp:PassesOwn vD X.A X.env X.xe)(hc:X.calm=true)(hi:PI X tg iter wi)(hg:PG X tg g)(hb:PSs X body tb)
  (hs:∀x,foldedSetIterable iter X.env x=pure x:=by intro _;rfl):PS X (.For tg iter body [] pos) (zHc wi g tb):=by
 intro aB s σ H D I h;refine wpAny_For (thn (hi aB s σ H _ I h) λv s1 h1=>thn h1 λitv s2 h2=>?_) hs;obtain⟨it,fp,tn,J,H2,e,I2,T,st2,f2,W,⟨m0,w0⟩,turn⟩:=h2;subst e;have stat:∀ {H':Hp},(∀b∈fp,H' b=none)->∀b∈fp,qRs X aB H' b:=λhn b hb=>⟨hn b hb,(f2 b hb).2⟩
 refine codeAny_forLoop_any (λn s'=>∃i σ' H',Inv X aB σ' H' s'/\tn i s'.heap/\(∀b∈fp,H' b=none)/\W i n σ' H') ?_ m0 ⟨0,σ,H2,I2,st2,λb hb=>(f2 b hb).1,w0⟩;rintro n s3 ⟨i,σ3,H3,I3,st3,fr3,w3⟩;rcases turn i n σ3 H3 w3 with ⟨stop,qn⟩|⟨go,N,hN,step⟩
 ·refine hEy hp (thn (T.done X rfl rfl rfl hc i aB s3 σ3 H3 X.xe I3 (stat fr3) st3 stop) λr s4 ⟨hr,I4⟩=>?_);subst hr;exact hFl ⟨σ3,H3,I4,qn⟩
 ·refine hEy hp (thn (T.item X rfl rfl rfl hc i aB s3 σ3 H3 X.xe I3 (stat fr3) st3 go) λr s4 ⟨u,hr,h4⟩=>?_);subst hr;refine hEy hp (thn h4 λ_ s5 ⟨x,H5,I5,r5,y5,st5,fr5⟩=>?_);have I5':=I5.pinned (stat fr5) (T.obj _ _ st5);refine hEy hp (thn (hg _ s5 σ3 H5 x u _ I5' r5 (step x H5 y5)) λ_ s6 ⟨σ6,H6,I6,q6⟩=>?_);refine hEy hp (thn (hb _ s6 σ6 H6 _ I6 q6) λf s7 q7=>?_);have again:∀ {σ7:St} {H7:Hp},Inv X (aB++qJb fp s5.heap) σ7 H7 s7->N σ7 H7->∃m,m<n/\∃i σ' H',Inv X aB σ' H' s7/\tn i s7.heap/\(∀b∈fp,H' b=none)/\W i m σ' H':=λ{σ7 H7} I7 n7=>by
   obtain⟨m',hm,w7⟩:=hN σ7 H7 n7;refine⟨m',hm,i+1,σ7,H7,I7.unpinned,T.keep _ _ _ st5 λb hb o e=>(I7.pin (b,o) (hA7 _ (hA7 _ (qC3 hb e)))).1,λb hb=>?_,w7⟩;obtain⟨o,e,d⟩:=T.obj _ _ st5 b hb;exact(I7.pin (b,o) (hA7 _ (hA7 _ (qC3 hb e)))).2.1
  cases f with
  |next=>obtain⟨σ7,H7,I7,n7⟩:=q7;exact again I7 n7
  |cont=>obtain⟨σ7,H7,I7,n7⟩:=q7;exact again I7 n7
  |brk=>obtain⟨σ7,H7,I7,q7⟩:=q7;exact⟨σ7,H7,I7.unpinned,q7⟩
  |ret v=>obtain⟨x7,σ7,H7,I7,r7,q7⟩:=q7;exact⟨x7,σ7,H7,I7.unpinned,r7,q7⟩
end
theorem qBg{K:PySem.W.Frag}{a:Addr}{xs:List V}{g:TG}{tb:TS}{D:Ends}{σ:St}{H:Hp}(Pv:Nat->St->Hp->Prop)(h0:Pv 0 σ H)(hl:∀i σ H,i<=xs.length->Pv i σ H->SqL K H a xs)
  (hs:∀i x σ H,xs[i]?=some x->Pv i σ H->g x σ H λσ2 H2=>tb { D with nx:=Pv (i+1),ct:=Pv (i+1),bk:=D.nx } σ2 H2) (hd:∀σ H,Pv xs.length σ H->D.nx σ H) :
  ∃W:Nat->Nat->St->Hp->Prop,(∃m,W 0 m σ H)/\∀i m σ H,W i m σ H ->
   ((Itl K a).stop i H/\D.nx σ H)\/((Itl K a).go i H/\∃N:St->Hp->Prop,(∀σ' H',N σ' H'->∃m',m'<m/\W (i+1) m' σ' H')/\∀x H',(Itl K a).yld i H x H'->g x σ H' λσ2 H2=>tb { D with nx:=N,ct:=N,bk:=D.nx } σ2 H2):=by
 refine⟨λi m σ H=>m=xs.length-i/\i<=xs.length/\Pv i σ H,⟨xs.length,by simp,hAt _,h0⟩,?_⟩;rintro i m σ H ⟨rfl,hi,p⟩;have q:=hl i σ H hi p;by_cases hlt:i<xs.length
 ·refine .inr ⟨⟨xs,xs[i],q,by simp[hlt]⟩,Pv (i+1),λσ' H' p'=>⟨xs.length-(i+1),by omega,rfl,hlt,p'⟩,λx H' y=>?_⟩;obtain⟨e,y⟩:=y;subst e;exact hs i x σ _ (y xs q) p
 ·have e:i=xs.length:=by omega
  subst e;exact .inl ⟨⟨xs,q,hA9 _⟩,hd σ H p⟩
theorem qB3{lo:Int}{n:Nat}{g:TG}{tb:TS}{D:Ends}{σ:St}{H:Hp}(Pv:Nat->St->Hp->Prop)(h0:Pv 0 σ H)
  (hs:∀i σ H,i<n->Pv i σ H->g (.int (lo+i)) σ H λσ2 H2=>tb { D with nx:=Pv (i+1),ct:=Pv (i+1),bk:=D.nx } σ2 H2) (hd:∀σ H,Pv n σ H->D.nx σ H) :
  ∃W:Nat->Nat->St->Hp->Prop,(∃m,W 0 m σ H)/\∀i m σ H,W i m σ H ->
   ((Itr lo n).stop i H/\D.nx σ H)\/((Itr lo n).go i H/\∃N:St->Hp->Prop,(∀σ' H',N σ' H'->∃m',m'<m/\W (i+1) m' σ' H')/\∀x H',(Itr lo n).yld i H x H'->g x σ H' λσ2 H2=>tb { D with nx:=N,ct:=N,bk:=D.nx } σ2 H2):=by
 refine⟨λi m σ H=>m=n-i/\i<=n/\Pv i σ H,⟨n,by simp,hAt _,h0⟩,?_⟩;rintro i m σ H ⟨rfl,hi,p⟩;by_cases hlt:i<n
 ·refine .inr ⟨hlt,Pv (i+1),λσ' H' p'=>⟨n-(i+1),by omega,rfl,hlt,p'⟩,λx H' y=>?_⟩;obtain⟨e,y⟩:=y;subst e y;exact hs i σ _ hlt p
 ·have e:i=n:=by omega
  subst e;exact .inl ⟨hA9 _,hd σ H p⟩
abbrev R2:=V->V->Hp->VK->Prop
def OpR(X:Cx)(f:Value->Value->Sem Value)(r:R2):Prop :=
 ∀(aB:List vH) (s:Shared) (σ:St) (H:Hp) (x y:V) (v u:Value) (Q:VK),Inv X aB σ H s->qDa x v->qDa y u->r x y H Q ->
  wpAny vD X.A (f v u) (EP X aB σ Q) X.xe s
def UnR(X:Cx)(f:Value->Sem Value)(r:V->Hp->VK->Prop):Prop :=
 ∀(aB:List vH) (s:Shared) (σ:St) (H:Hp) (x:V) (v:Value) (Q:VK),Inv X aB σ H s->qDa x v->r x H Q ->
  wpAny vD X.A (f v) (EP X aB σ Q) X.xe s
def qCm(X:Cx)(f:Value)(r:List V->Hp->VK->Prop):Prop :=
 ∀(aB:List vH) (s:Shared) (σ:St) (H:Hp) (xs:List V) (us:List Value) (Q:VK),Inv X aB σ H s->qBx xs us->r xs H Q ->
  wpAny vD X.A (call f us) (EP X aB σ Q) X.xe s
def tOp(r:R2)(ta tb:TE):TE:=λσ H Q=>ta σ H λx H1=>tb σ H1 λy H2=>r x y H2 Q
def tUn(r:V->Hp->VK->Prop)(ta:TE):TE:=λσ H Q=>ta σ H λx H1=>r x H1 Q
def rI(C:Int->Int->Prop)(g:Int->Int->V):R2:=λx y H Q=>∃i j,x = .int i/\y = .int j/\C i j/\Q (g i j) H
def rI0(g:Int->Int->V):R2:=λx y H Q=>∃i j,x = .int i/\y = .int j/\Q (g i j) H
def rU(g:Int->V):V->Hp->VK->Prop:=λx H Q=>∃i,x = .int i/\Q (g i) H
section
variable{X:Cx}{a b c:Expr}{ta tb tc:TE}{pos:Pos}
theorem zGo(ha:PE X a ta)(hb:PE X b tb){aB:List vH}{s:Shared}{σ:St}{H:Hp}{R:V->V->Hp->Prop}(I:Inv X aB σ H s)
  (h:ta σ H λx H1=>tb σ H1 λy H2=>R x y H2) {Q:Value->Shared->Prop} {f:Value->Value->Sem Value}
  (hf:∀v u s2 x y H2,Inv X aB σ H2 s2->qDa x v->qDa y u->R x y H2->wpAny vD X.A (f v u) Q X.xe s2) :
  wpAny vD X.A (eval a X.env) (λv s₁=>wpAny vD X.A (eval b X.env) (λu s₂=>wpAny vD X.A (f v u) Q X.xe s₂) X.xe s₁) X.xe s:=by
 refine thn (ha aB s σ H _ I h) λv s1 ⟨x,H1,I1,r1,q1⟩=>?_
 refine thn (hb aB s1 σ H1 _ I1 q1) λu s2 ⟨y,H2,I2,r2,q2⟩=>?_
 exact hf v u s2 x y H2 I2 r1 r2 q2
theorem qAg{op:Operator}{r:R2}(ho:OpR X (binaryOp op) r)(ha:PE X a ta)(hb:PE X b tb):PE X (.BinOp a op b pos) (tOp r ta tb):=by
 intro aB s σ H Q I h;exact wpAny_BinOp (zGo ha hb I h λv u s2 x y H2 I2 rx ry q=>ho aB s2 σ H2 x y v u Q I2 rx ry q)
theorem qN1(ho:UnR X (unaryOp op) r)(ha:PE X a ta):PE X (.UnaryOp op a pos) (tUn r ta):=by
 intro aB s σ H Q I h;exact UnaryOp_ (thn (ha aB s σ H _ I h) λv s1 ⟨x,H1,I1,r1,q1⟩=>ho aB s1 σ H1 x v Q I1 r1 q1)
theorem opI{f:Value->Value->Sem Value}{C:Int->Int->Prop}{g:Int->Int->Int}
  (rule:∀(i j:Int) (t u:Tok) (s:Shared) (Q:Value->Shared->Prop) (E:Value->Shared->Prop),C i j->Q (.int (g i j) s.toks) { s with toks:=s.toks+1 }->wpAny vD X.A (f (.int i t) (.int j u)) Q E s) :
  OpR X f (rI C λi j=>.int (g i j)):=by
 intro aB s σ H x y v u Q I rx ry h;obtain⟨i,j,rfl,rfl,hc,q⟩:=h;obtain⟨t,rfl⟩:=rx;obtain⟨t',rfl⟩:=ry;exact rule i j t t' s _ _ hc ⟨.int (g i j),H,I.tok _,⟨_,rfl⟩,q⟩
theorem zEc{f:Value->Value->Sem Value}{g:Int->Int->Int}
  (rule:∀(i j:Int) (t u:Tok) (s:Shared) (Q:Value->Shared->Prop) (E:Value->Shared->Prop),Q (.int (g i j) s.toks) { s with toks:=s.toks+1 }->wpAny vD X.A (f (.int i t) (.int j u)) Q E s) :
  OpR X f (rI0 λi j=>.int (g i j)):=by
 intro aB s σ H x y v u Q I rx ry h;obtain⟨i,j,rfl,rfl,q⟩:=h;obtain⟨t,rfl⟩:=rx;obtain⟨t',rfl⟩:=ry;exact rule i j t t' s _ _ ⟨.int (g i j),H,I.tok _,⟨_,rfl⟩,q⟩
theorem zFm{f:Value->Value->Sem Value}{g:Int->Int->Bool}
  (rule:∀(i j:Int) (t u:Tok) (s:Shared) (Q:Value->Shared->Prop) (E:Value->Shared->Prop),Q (.bool (g i j)) s->wpAny vD X.A (f (.int i t) (.int j u)) Q E s) :
  OpR X f (rI0 λi j=>.bl (g i j)):=by
 intro aB s σ H x y v u Q I rx ry h;obtain⟨i,j,rfl,rfl,q⟩:=h;obtain⟨t,rfl⟩:=rx;obtain⟨t',rfl⟩:=ry;exact rule i j t t' s _ _ ⟨.bl (g i j),H,I,rfl,q⟩
def zGv(i j:Int):Prop:=0<j/\j<1073741824
def zG5(i j:Int):Prop:=0<=j/\j<=1000000/\i.natAbs<2^64
def zGu(i j:Int):Prop:=(-(2^64)<i/\i<2^64)\/(-(2^64)<j/\j<2^64)
theorem zGu.ok(h:zGu i j):IntMulOk i j:=by
 rcases h with ⟨h1,h2⟩|⟨h1,h2⟩
 ·exact .of_left (intBits_le_64 h1 h2)
 ·exact .of_right (intBits_le_64 h1 h2)
theorem qQ5(k:Nat):(0:Int)<=2^k:=by
 rw[two_pow_cast];exact hD9 _
theorem qA9:OpR X (binaryOp .Add) (rI0 λi j=>.int (i+j)):=zEc λ_ _ _ _ _ _ _ q=>add_int q
theorem qCw:OpR X (binaryOp .Sub) (rI0 λi j=>.int (i-j)):=zEc λ_ _ _ _ _ _ _ q=>sub_int q
theorem qE4:OpR X (binaryOp .Mult) (rI zGu λi j=>.int (i*j)):=opI λ_ _ _ _ _ _ _ hc q=>mul_int q hc.ok
theorem qA5:OpR X (binaryOp .FloorDiv) (rI zGv λi j=>.int (i / j)):=opI λi j _ _ _ _ _ hc q=>by
 have h1:(0:Int)<j:=hc.1;have h2:j<1073741824:=hc.2;exact floordiv_int vG (by rw[Int.fdiv_eq_ediv_of_nonneg i vG];exact q) (.inl (PyProof.noPylong_small vG))
theorem qBb:OpR X (binaryOp .Mod) (rI (λ_ j=>0<j) λi j=>.int (i % j)):=opI λi j _ _ _ _ _ hc q=>by
 have h1:(0:Int)<j:=hc;exact mod_int' vG (by rw[Int.fmod_eq_emod_of_nonneg i vG];exact q)
theorem qZf:OpR X (binaryOp .Pow) (rI zG5 λi j=>.int (i^j.toNat)):=opI λ_ _ _ _ _ _ _ hc q=>pow_int_small hc.1 hc.2.1 hc.2.2 q
theorem qCd:OpR X (binaryOp .LShift) (rI zG5 λi j=>.int (i*2^j.toNat)):=opI λ_ _ _ _ _ _ _ hc q=>lshift_int_small hc.1 hc.2.1 hc.2.2 q
theorem qFq:OpR X (binaryOp .RShift) (rI (λ_ j=>0<=j) λi j=>.int (i / 2^j.toNat)):=opI λi j _ _ _ _ _ hc q =>
 rshift_int hc (by rw[Int.fdiv_eq_ediv_of_nonneg i (qQ5 _)];exact q)
theorem qBr:OpR X (binaryOp .BitAnd) (rI0 λi j=>.int (Builtin.bitAnd i j)):=zEc λ_ _ _ _ _ _ _ q=>and_int q
theorem zBb:OpR X (binaryOp .BitOr) (rI0 λi j=>.int (Builtin.bitOr i j)):=zEc λ_ _ _ _ _ _ _ q=>or_int q
theorem qDr:OpR X (binaryOp .BitXor) (rI0 λi j=>.int (Builtin.bitXor i j)):=zEc λ_ _ _ _ _ _ _ q=>xor_int q
theorem unI{f:Value->Sem Value}{g:Int->Int}
  (rule:∀(i:Int) (t:Tok) (s:Shared) (Q:Value->Shared->Prop) (E:Value->Shared->Prop),Q (.int (g i) s.toks) { s with toks:=s.toks+1 }->wpAny vD X.A (f (.int i t)) Q E s) :
  UnR X f (rU λi=>.int (g i)):=by
 intro aB s σ H x v Q I rx h;obtain⟨i,rfl,q⟩:=h;obtain⟨t,rfl⟩:=rx;exact rule i t s _ _ ⟨.int (g i),H,I.tok _,⟨_,rfl⟩,q⟩
theorem qIy:UnR X (unaryOp .USub) (rU λi=>.int (-i)):=unI λ_ _ _ _ _ q=>neg_int q
theorem zDe:UnR X (unaryOp .Invert) (rU λi=>.int (Builtin.bitNot i)):=unI λ_ _ _ _ _ q=>invert_int q
end
noncomputable def zGx:V->V->Bool
 |.non,.non=>true | .non,.int _=>true | .int _,.non=>true | .non,.bl _=>true | .bl _,.non=>true | .non,.str _=>true | .str _,.non=>true
 |.int _,.int _=>true | .bl _,.bl _=>true | .str _,.str _=>true | .byt _,.byt _=>true
 |.int _,.str _=>true | .str _,.int _=>true | .bl _,.str _=>true | .str _,.bl _=>true
 |_,_=>false
def rEq:R2:=λx y H Q=>zGx x y=true/\Q (.bl (decide (x=y))) H
def rNe:R2:=λx y H Q=>zGx x y=true/\Q (.bl (!decide (x=y))) H
theorem qU2:decide (V.int i=V.int j)=(i == j):=by
 rw[hE4];simp
theorem qZw:decide (V.bl i=V.bl j)=(i == j):=by
 rw[hE4];simp
theorem qU1:decide (V.str i=V.str j)=(i == j):=by
 rw[hE4];simp
theorem qU3:decide (V.byt i=V.byt j)=(i.toList == j.toList):=by
 rw[hE4];cases i;cases j;simp
section
variable{X:Cx}{a b c:Expr}{ta tb tc:TE}{pos:Pos}
theorem qBh(I:Inv X aB σ H s)(q:Q (.bl k) H)(e:k=k'):EP X aB σ Q (.bool k') s:=by
 subst e;exact⟨.bl k,H,I,rfl,q⟩
theorem qB8:OpR X (compareOp .Eq) rEq:=by
 intro aB s σ H x y v u Q I rx ry h;obtain⟨hs,q⟩:=h;cases x with
 |non =>
  cases rx;cases y with
  |non=>cases ry;exact PySem.EqNone.eq_none_none (qBh I q vI)
  |bl j=>cases ry;exact PySem.EqNone.eq_none_bool (qBh I q vI)
  |int j=>obtain⟨t',rfl⟩:=ry;exact PySem.EqNone.eq_none_int (qBh I q vI)
  |str j=>obtain⟨t',rfl⟩:=ry;exact PySem.EqNone.eq_none_str (qBh I q vI)
  |_=>exact absurd (show false=true from hs) hB3
 |bl i =>
  cases rx;cases y with
  |non=>cases ry;exact PySem.EqNone.eq_bool_none (qBh I q vI)
  |bl j=>cases ry;exact eq_bool (qBh I q qZw)
  |str j=>obtain⟨t',rfl⟩:=ry;exact PySem.EqMixed.eq_bool_str (qBh I q vI)
  |_=>exact absurd (show false=true from hs) hB3
 |int i =>
  obtain⟨t,rfl⟩:=rx;cases y with
  |non=>cases ry;exact PySem.EqNone.eq_int_none (qBh I q vI)
  |int j=>obtain⟨t',rfl⟩:=ry;exact eq_int (qBh I q qU2)
  |str j=>obtain⟨t',rfl⟩:=ry;exact PySem.EqMixed.eq_int_str (qBh I q vI)
  |_=>exact absurd (show false=true from hs) hB3
 |str i =>
  obtain⟨t,rfl⟩:=rx;cases y with
  |non=>cases ry;exact PySem.EqNone.eq_str_none (qBh I q vI)
  |bl j=>cases ry;exact PySem.EqMixed.eq_str_bool (qBh I q vI)
  |int j=>obtain⟨t',rfl⟩:=ry;exact PySem.EqMixed.eq_str_int (qBh I q vI)
  |str j=>obtain⟨t',rfl⟩:=ry;exact eq_str (qBh I q qU1)
  |_=>exact absurd (show false=true from hs) hB3
 |byt i =>
  obtain⟨t,rfl⟩:=rx;cases y with
  |byt j=>obtain⟨t',rfl⟩:=ry;exact PySem.W.eq_bytes (qBh I q qU3)
  |_=>exact absurd (show false=true from hs) hB3
 |_=>cases y <;> exact absurd (show false=true from hs) hB3
theorem qFr:OpR X (compareOp .NotEq) rNe:=by
 intro aB s σ H x y v u Q I rx ry h;obtain⟨hs,q⟩:=h;cases x with
 |non =>
  cases rx;cases y with
  |non=>cases ry;exact PySem.EqNone.ne_none_none (qBh I q vI)
  |bl j=>cases ry;exact PySem.EqNone.ne_none_bool (qBh I q vI)
  |int j=>obtain⟨t',rfl⟩:=ry;exact PySem.EqNone.ne_none_int (qBh I q vI)
  |str j=>obtain⟨t',rfl⟩:=ry;exact PySem.EqNone.ne_none_str (qBh I q vI)
  |_=>exact absurd (show false=true from hs) hB3
 |bl i =>
  cases rx;cases y with
  |non=>cases ry;exact PySem.EqNone.ne_bool_none (qBh I q vI)
  |bl j=>cases ry;exact ne_bool (qBh I q (congrArg not qZw))
  |str j=>obtain⟨t',rfl⟩:=ry;exact PySem.EqMixed.ne_bool_str (qBh I q vI)
  |_=>exact absurd (show false=true from hs) hB3
 |int i =>
  obtain⟨t,rfl⟩:=rx;cases y with
  |non=>cases ry;exact PySem.EqNone.ne_int_none (qBh I q vI)
  |int j=>obtain⟨t',rfl⟩:=ry;exact ne_int (qBh I q (congrArg not qU2))
  |str j=>obtain⟨t',rfl⟩:=ry;exact PySem.EqMixed.ne_int_str (qBh I q vI)
  |_=>exact absurd (show false=true from hs) hB3
 |str i =>
  obtain⟨t,rfl⟩:=rx;cases y with
  |non=>cases ry;exact PySem.EqNone.ne_str_none (qBh I q vI)
  |bl j=>cases ry;exact PySem.EqMixed.ne_str_bool (qBh I q vI)
  |int j=>obtain⟨t',rfl⟩:=ry;exact PySem.EqMixed.ne_str_int (qBh I q vI)
  |str j=>obtain⟨t',rfl⟩:=ry;exact ne_str (qBh I q (congrArg not qU1))
  |_=>exact absurd (show false=true from hs) hB3
 |byt i =>
  obtain⟨t,rfl⟩:=rx;cases y with
  |byt j=>obtain⟨t',rfl⟩:=ry;exact PySem.W.ne_bytes (qBh I q (congrArg not qU3))
  |_=>exact absurd (show false=true from hs) hB3
 |_=>cases y <;> exact absurd (show false=true from hs) hB3
theorem qFs:OpR X (compareOp .Lt) (rI0 λi j=>.bl (decide (i<j))):=zFm λ_ _ _ _ _ _ _ q=>lt_int q
theorem zF9:OpR X (compareOp .LtE) (rI0 λi j=>.bl (decide (i<=j))):=zFm λ_ _ _ _ _ _ _ q=>le_int q
theorem zBc:OpR X (compareOp .Gt) (rI0 λi j=>.bl (decide (j<i))):=zFm λ_ _ _ _ _ _ _ q=>gt_int q
theorem zGa:OpR X (compareOp .GtE) (rI0 λi j=>.bl (decide (j<=i))):=zFm λ_ _ _ _ _ _ _ q=>ge_int q
theorem qAu(b:Expr)(h:op≠.In:=by decide)(h2:op≠.NotIn:=by decide):behindInMarks op b=false:=by
 have e1:(op == CmpOp.In)=false:=by cases op <;> first|rfl|exact absurd rfl h
 have e2:(op == CmpOp.NotIn)=false:=by cases op <;> first|rfl|exact absurd rfl h2
 cases b <;> simp[behindInMarks,e1,e2]
theorem qDl{op:CmpOp}{r:R2}(ho:OpR X (compareOp op) r)(ha:PE X a ta)(hb:PE X b tb)(hm:behindInMarks op b=false):PE X (.Compare a [op] [b] pos) (tOp r ta tb):=by
 intro aB s σ H Q I h;exact wpAny_Compare1 (zGo ha hb I h λv u s2 x y H2 I2 rx ry q=>ho aB s2 σ H2 x y v u Q I2 rx ry q) hm
def zDg(t:TE):TT:=λσ H Q=>t σ H λx H'=>∃k,x = .bl k/\Q k H'
theorem qAn(ho:OpR X (compareOp op) r)(ha:PE X a ta)(hb:PE X b tb)(hm:behindInMarks op b=false):PT X (.Compare a [op] [b] pos) (zDg (tOp r ta tb)):=by
 intro aB s σ H Q I h;refine wpAny_isTrue_Compare1 (thn (ha aB s σ H _ I h) λv s1 ⟨x,H1,I1,r1,q1⟩=>thn (hb aB s1 σ H1 _ I1 q1) λu s2 ⟨y,H2,I2,r2,q2⟩ =>
  thn (ho aB s2 σ H2 x y v u _ I2 r1 r2 q2) λc s3 ⟨z,H3,I3,r3,k,e,q3⟩=>?_) hm
 subst e;cases r3;exact hEt ⟨H3,I3,q3⟩
def zDh(r r':R2)(ta tb tc:TE):TE:=λσ H Q=>ta σ H λx H1=>tb σ H1 λy H2=>r x y H2 λz H3=>∃k,z = .bl k /\
 (if k=true then tc σ H3 λw' H4=>r' y w' H4 Q else Q (.bl false) H3)
theorem qPs(ho:OpR X (compareOp op) r)(ho':OpR X (compareOp op') r')(ha:PE X a ta)(hb:PE X b tb)(hc:PE X c tc)
  (hm:lastMarks [op,op'] [b,c]=false:=by with_unfolding_all rfl):PT X (.Compare a [op,op'] [b,c] pos) (zDg (zDh r r' ta tb tc)):=by
 intro aB s σ H Q I h;refine isTrue_chain (thn (ha aB s σ H _ I h) λv s1 ⟨x,H1,I1,r1,q1⟩=>test_link (thn (hb aB s1 σ H1 _ I1 q1) λu s2 ⟨y,H2,I2,r2,q2⟩ =>
  thn (ho aB s2 σ H2 x y v u _ I2 r1 r2 q2) λd s3 ⟨z,H3,I3,r3,k,e,q3⟩=>?_)) hm
 subst e;cases r3;refine hEt ?_;cases k with
 |false =>
  obtain⟨k',e',q'⟩:=q3;cases e';exact ite_ff ⟨H3,I3,q'⟩
 |true =>
  refine ite_tt (test_last (thn (hc aB s3 σ H3 _ I3 q3) λw' s4 ⟨z',H4,I4,r4,q4⟩=>thn (ho' aB s4 σ H4 y z' u w' _ I4 r2 r4 q4) λd' s5 ⟨z2,H5,I5,r5,k2,e2,q5⟩=>?_));subst e2;cases r5;exact hEt ⟨H5,I5,q5⟩
theorem qL7:(sizeLine:Nat)<2^63:=by rw[hEn];decide
theorem qEx:OpR X (binaryOp .Add) (λx y H Q=>∃i j,x = .str i/\y = .str j/\i.length+j.length<=sizeLine/\Q (.str (i++j)) H):=by
 intro aB s σ H x y v u Q I rx ry h;obtain⟨i,j,rfl,rfl,hz,q⟩:=h;obtain⟨t,rfl⟩:=rx;obtain⟨t',rfl⟩:=ry;exact add_str (λt' tk=>⟨.str (i++j),H,I.tok _,⟨_,rfl⟩,q⟩) hz
theorem qCy(r:qBx [x] us):∃u,us=[u]/\qDa x u:=by
 cases r with
 |cons r1 r2=>cases r2;exact⟨_,rfl,r1⟩
theorem qZ8(r:qBx [x,y] us):∃u w',us=[u,w']/\qDa x u/\qDa y w':=by
 cases r with
 |cons r1 r2 =>
  cases r2 with
  |cons r3 r4=>cases r4;exact⟨_,_,rfl,r1,r3⟩
theorem qQw:qCm X (.builtin "abs") (λxs H Q=>∃i,xs=[.int i]/\Q (.int (if i<0 then -i else i)) H):=by
 intro aB s σ H xs us Q I r h;obtain⟨i,rfl,q⟩:=h;obtain⟨u,rfl,t,rfl⟩:=qCy r;exact call_abs_int λu tk=>⟨.int (if i<0 then -i else i),H,I.tok _,⟨_,rfl⟩,q⟩
theorem qF5(hc:X.calm=true):qCm X (.builtin "min") (λxs H Q=>∃i j,xs=[.int i,.int j]/\Q (.int (if j<i then j else i)) H):=by
 intro aB s σ H xs us Q I r h;obtain⟨i,j,rfl,q⟩:=h;obtain⟨u,w',rfl,⟨t,rfl⟩,⟨t',rfl⟩⟩:=qZ8 r;refine min_two_ints (I.ok.hd hc) λh' tk k=>⟨_,H,I.kept k,?_,q⟩
 by_cases hj:j<i
 ·rw[hEk hj,hEk hj];exact⟨_,rfl⟩
 ·rw[hEj hj,hEj hj];exact⟨_,rfl⟩
theorem qVh:qCm X (.type "int") (λxs H Q=>(∃i,xs=[.int i]/\Q (.int i) H)\/∃k,xs=[.bl k]/\Q (.int (if k then 1 else 0)) H):=by
 intro aB s σ H xs us Q I r h;rcases h with ⟨i,rfl,q⟩|⟨k,rfl,q⟩
 ·obtain⟨u,rfl,t,rfl⟩:=qCy r;exact call_int_int ⟨.int i,H,I,⟨_,rfl⟩,q⟩
 ·obtain⟨u,rfl,r1⟩:=qCy r;cases r1;exact call_int_bool ⟨.int (if k then 1 else 0),H,I.tok _,⟨_,rfl⟩,q⟩
theorem qMp:qCm X (.type "str") (λxs H Q=>∃i,xs=[.int i]/\i.natAbs.log2<1920/\Q (.str (toString i)) H):=by
 intro aB s σ H xs us Q I r h;obtain⟨i,rfl,hz,q⟩:=h;obtain⟨u,rfl,t,rfl⟩:=qCy r;exact PySem.P.str_of_int hz ⟨.str _,H,I.tok _,⟨_,rfl⟩,q⟩
end
structure ObjM(h:Heap)(x dx C:Addr)(mA:Str->Option Value):Prop where
 obj:h.get? x=some (PySem.W.instObj C dx)
 ns:h.Ns1 dx mA
 ne:dx≠x
theorem qT3{h:Heap}{dx:Addr}{mA:Str->Option Value}(n:h.Ns1 dx mA):∃od,h.get? dx=some od/\∀name,PySem.W.lookIn name od=some (mA name):=by
 obtain⟨o,es,ep,ho,hd,hk,_,hm⟩:=n;refine⟨o,ho,λname=>?_⟩;have e:=hm name;unfold nsFind findBy at e;rw[<-Array.find?_toList]at e;unfold PySem.W.lookIn;rw[hd];dsimp only;split
 ·rename_i y q;rw[q]at e;exact congrArg some e
 ·rename_i q;rw[q]at e;have a:es.toList.any (·.refKey)=false:=by
   rw[List.any_eq_false];intro y hy;obtain⟨z,t,hkey⟩:=hk y (Array.mem_toList_iff.mp hy);simp[DictEntry.refKey,hkey]
  have a':¬es.toList.any (·.refKey)=true:=by rw[a];exact hB3
  rw[hEj a'];exact congrArg some e
theorem ObjM.look(I:ObjM h x dx C mA):∃od,PySem.W.InstAt h x (PySem.W.instObj C dx) C (some od)/\∀name,PySem.W.lookIn name od=some (mA name) :=
 let ⟨od,ho,hl⟩:=qT3 I.ns
 ⟨od,⟨I.obj,rfl,rfl,ho⟩,hl⟩
section
variable{P:Program}{w:World}{H H':Hp}{h h':Heap}{a C dx:Addr}{fs fs':List (Str×V)}
theorem zCm(hok:HOk P w H h)(e:H a=some (.ins C dx fs)):∃mA,ObjM h a dx C mA/\(∀f,zGs (fs.lookup f) (mA f))/\PySem.Within mA (fs.map (·.1))/\fs.length<=1000/\H dx=some (.own a):=by
 obtain⟨d,z,ne,ob,mA,n,r,q⟩:=(show qC0 P w H h a (.ins C dx fs) from hok a _ e);exact⟨mA,⟨ob,n,ne⟩,r,q,z,d⟩
end
structure Cls(K:PySem.W.Frag)(C:Addr):Prop where
 pg:PySem.W.plainGet K C Str.empty=true
 hd:PySem.W.hasDictIn K C=true
 po:PySem.W.plainOver K C=true
 sa:PySem.W.findIn K (.ref C) "__setattr__"=some (some (.builtin "object.__setattr__"))
theorem Cls.get{K:PySem.W.Frag}{C:Addr}(c:Cls K C)(f:Str):PySem.W.plainGet K C f=true:=c.pg
structure Con(K:PySem.W.Frag)(C:Addr)(f:Str)(v:V)(u:Value):Prop where
 at_:PySem.W.findIn K (.ref C) f=some (some u)
 rel:qDa v u
 get:PySem.W.specialIn K u "__get__"=some none
 cp:PySem.W.copiedNames.contains f=false
structure Meth(K:PySem.W.Frag)(C:Addr)(m:Str)(f:Addr):Prop where
 at_:PySem.W.findIn K (.ref C) m=some (some (.ref f))
 fn:PySem.W.isFn K (.ref f)=true
 kp:PySem.W.keepIn K (.ref f)=true
section
variable{X:Cx}{aB:List vH}{σ:St}{H:Hp}{s:Shared}{A:Around}{E:Value->Shared->Prop}{Q:Value->Shared->Prop}{c:Value}{b:Bool}
inductive TyOf (K:PySem.W.Frag) (H:Hp):V->Value->Prop where
 |non:TyOf K H .non (.type "NoneType")
 |bl (x:Bool):TyOf K H (.bl x) (.type "bool")
 |int (i:Int):TyOf K H (.int i) (.type "int")
 |str (x:Str):TyOf K H (.str x) (.type "str")
 |flt (x:UInt64):TyOf K H (.flt x) (.type "float")
 |lst {a:Addr} {xs:List V} (e:H a=some (.lst xs)):TyOf K H (.ref a) (.type "list")
 |frz {a:Addr} {o:Obj} {xs:List V} (e:H a=some (.frz o (.lst xs))):TyOf K H (.ref a) (.type "list")
 |tup {a:Addr} {xs:List V} (e:H a=some (.tup xs)):TyOf K H (.ref a) (.type "tuple")
 |dK {a:Addr} {kvs:List (Key×V)} (e:H a=some (.dK kvs)):TyOf K H (.ref a) (.type "dict")
 |dT {a:Addr} {kvs:List (List Key×V)} (e:H a=some (.dT kvs)):TyOf K H (.ref a) (.type "dict")
 |ins {a C dx:Addr} {fs:List (Str×V)} (e:H a=some (.ins C dx fs)) (cl:Cls K C) (ha:PySem.W.findIn K (.ref C) "__class__"=some (some (.builtin "object.__class__")))
   (hn:PySem.W.specialIn K (.builtin "object.__class__") "__get__"=some (some (.builtin "getset_descriptor.__get__"))) (htk:PySem.W.takesIn K (.builtin "object.__class__")=some true)
   (hm:PySem.W.mroIn K C (.type "object")=some true):TyOf K H (.ref a) (.ref C)
theorem qT8(I:Inv X aB σ H s)(rx:qDa x u)(ty:TyOf X.K H x t)(e:PySem.W.kitOne X.K t c=some b)(h:∀tk,Q (.bool b) { s with toks:=tk }) :
  wpAny vD A (call (.builtin "isinstance") [u,c]) Q E s:=by
 cases ty with
 |non=>cases(show u=Value.none from rx);exact hCr PySem.W.kitx_none I.kIn True.intro e (λz=>nomatch z) h
 |bl y=>cases(show u=Value.bool y from rx);exact hCr PySem.W.kitx_bool I.kIn True.intro e (λz=>nomatch z) h
 |int i=>obtain⟨t,q⟩:=(show ∃t,u=Value.int i t from rx);cases q;exact hCr PySem.W.kitx_int I.kIn True.intro e (λz=>nomatch z) h
 |str y=>obtain⟨t,q⟩:=(show ∃t,u=Value.str y t from rx);cases q;exact hCr PySem.W.kitx_str I.kIn True.intro e (λz=>nomatch z) h
 |flt y=>obtain⟨t,q⟩:=(show ∃t,u=Value.float y t from rx);cases q;exact hCr PySem.W.kitx_float I.kIn True.intro e (λz=>nomatch z) h
 |@lst a xs ea =>
  cases(show u=Value.ref a from rx);obtain⟨_,_,n,_,h1⟩:=(show qC0 X.prog X.w H s.heap a (.lst xs) from I.hok a _ ea);exact hCr PySem.W.kitx_list I.kIn ⟨_,h1,rfl⟩ e (λz=>nomatch z) h
 |@frz a ob xs ea =>
  cases(show u=Value.ref a from rx);obtain⟨_,_,_,n,_,h1⟩:=(show qC0 X.prog X.w H s.heap a (.frz ob (.lst xs)) from I.hok a _ ea);exact hCr PySem.W.kitx_list I.kIn ⟨_,h1,rfl⟩ e (λz=>nomatch z) h
 |@tup a xs ea =>
  cases(show u=Value.ref a from rx);obtain⟨_,_,_,p⟩:=(show qC0 X.prog X.w H s.heap a (.tup xs) from I.hok a _ ea);obtain⟨o,h1,h2,_⟩:=p;exact hCr PySem.W.kitx_tuple I.kIn ⟨o,h1,h2⟩ e (λz=>nomatch z) h
 |@dK a kvs ea =>
  cases(show u=Value.ref a from rx);obtain⟨_,_,vs,_,p⟩:=(show qC0 X.prog X.w H s.heap a (.dK kvs) from I.hok a _ ea);obtain⟨o,es,ep,h1,h2,_⟩:=p;exact hCr PySem.W.kitx_dict I.kIn ⟨o,h1,h2.1⟩ e (λz=>nomatch z) h
 |@dT a kvs ea =>
  cases(show u=Value.ref a from rx);obtain⟨_,_,xs,_,o,es,ep,h1,h2,_⟩:=(show qC0 X.prog X.w H s.heap a (.dT kvs) from I.hok a _ ea);exact hCr PySem.W.kitx_dict I.kIn ⟨o,h1,h2.1⟩ e (λz=>nomatch z) h
 |@ins a C dx fs ea cl ha hn htk hm =>
  cases(show u=Value.ref a from rx);obtain⟨mA,O,_⟩:=zCm I.hok ea;obtain⟨od,J,_⟩:=O.look;exact hCr (PySem.W.kitx_own (cl.get _) cl.hd ha hn htk hm) I.kIn J e (λz=>nomatch z) h
end
structure Room(k:Nat)(A:Around):Prop where
 hd:A.handled=none
 dp:A.depth+3*k+5<recursionLimit
 un:A.units+16*k+200<cLine
 gd:A.guards=some []
theorem Room.mono(r:Room k A)(h:j<=k):Room j A:=⟨r.hd,by have:=r.dp;omega,by have:=r.un;omega,r.gd⟩
theorem Room.deeper(r:Room (k+1) A)(env:Env):Room k (A.deeper env) :=
 ⟨r.hd,by have:=r.dp;show A.depth+1+3*k+5<_;omega,by have:=r.un;show A.units+3+16*k+200<_;omega,r.gd⟩
theorem Room.in1(r:Room (k+1) A):Room k A.in1 :=
 ⟨r.hd,by have:=r.dp;show A.depth+3*k+5<_;omega,by have:=r.un;show A.units+1+16*k+200<_;omega,r.gd⟩
theorem Room.depth(r:Room k A):A.depth<recursionLimit:=by have:=r.dp;omega
def zGw:TA:=λ_ H Q=>Q [] H
def qQ9(ta:TE)(tr:TA):TA:=λσ H Q=>ta σ H λx H1=>tr σ H1 λxs H2=>Q (x :: xs) H2
section
variable{X:Cx}{e:Expr}{es:List Expr}{te:TE}{t:TA}{pos:Pos}
theorem qA3:PA X [] zGw:=λ_ _ _ _ H Q I h=>Calls.spliced_nil ⟨[],H,I,.nil,h⟩
theorem qAd(ha:PE X e te)(hr:PA X es t)(hs:starEach (e :: es) X.env=(false,eval e X.env) :: starEach es X.env:=by rfl):PA X (e :: es) (qQ9 te t):=by
 intro pos aB s σ H Q I h;rw[hs];show wpAny _ _ (spliced ((false,eval e X.env) :: backTo pos (starEach es X.env))) _ _ s;refine Calls.spliced_cons (thn (ha aB s σ H _ I h) λu s1 ⟨x,H1,I1,r1,q1⟩=>?_);exact thn (hr pos aB s1 σ H1 _ I1 q1) λus s2 ⟨xs,H2,I2,r2,q2⟩=>⟨x :: xs,H2,I2,.cons r1 r2,q2⟩
theorem pa1{X:Cx}{e:Expr}{te:TE}(ha:PE X e te)(hs:starEach [e] X.env=(false,eval e X.env) :: starEach [] X.env:=by rfl):PA X [e] (qQ9 te zGw):=qAd ha qA3 hs
def zG6(t:TA):TE:=λσ H Q=>t σ H λxs H1=>xs.length<=sizeLine/\∀p,H1 p=none->Q (.ref p) (upd H1 p (.tup xs))
def zHa(t:TA):TE:=λσ H Q=>t σ H λxs H1=>xs.length<=sizeLine/\∀p,H1 p=none->Q (.ref p) (upd H1 p (.lst xs))
theorem qA6{x1}(h:PA X es t):PE X (.Tuple es x1 pos) (zG6 t):=by
 intro aB s σ H Q I hq;refine wpAny_Tuple_spliced (thn (h pos aB s σ H _ I hq) λus s1 ⟨xs,H1,I1,r,z,q⟩=>⟨by rw[<-r.length];exact z,?_⟩);have hf:H1 s1.heap.objs.size=none:=I1.hok.fresh (hA9 _);refine⟨.ref s1.heap.objs.size,upd H1 s1.heap.objs.size (.tup xs),I1.laid (t':=s1.toks) (λb u e=>Heap.get?_push_of_some _ e) (hA9 _) ?_,rfl,q _ hf⟩;exact⟨z,us,r,⟨_,Heap.get?_push_size _ rfl,rfl,_,rfl⟩⟩
theorem qA4(h:PA X es t):PE X (.List es pos) (zHa t):=by
 intro aB s σ H Q I hq;refine wpAny_List_spliced (thn (h pos aB s σ H _ I hq) λus s1 ⟨xs,H1,I1,r,z,q⟩=>⟨by rw[<-r.length];exact z,?_⟩);have hf:H1 s1.heap.objs.size=none:=I1.hok.fresh (hA9 _);refine⟨.ref s1.heap.objs.size,upd H1 s1.heap.objs.size (.lst xs),I1.laid (t':=s1.toks) (λb u e=>Heap.get?_push_of_some _ e) (hA9 _) ?_,rfl,q _ hf⟩;exact⟨z,us,0,r,Heap.get?_push_size _ rfl⟩
end
abbrev Sp:=List V->Hp->VK->XK->Prop
abbrev CXT:=List Env->Hp->Shared->XK->Value->Shared->Prop
structure Env0(P:Program)(w:World)(K:PySem.W.Frag)(mg:Str->Option Value)(base:Heap)(A:Around)(outer:List Env)(s:Shared)(H:Hp):Prop where
 frames:A.frames=some outer
 mod:Mod K mg base
 bs:∀b o,base.get? b=some o->s.heap.get? b=some o/\H b=none
 bsz:base.objs.size<=s.heap.objs.size
 funs:s.heap.FunFrames base outer
 frf:∀b∈frs outer,H b=none
 hok:HOk P w H s.heap
 bare:AllBare s.gens
def CE(outer:List Env)(P:Program)(w:World)(H:Hp)(s:Shared)(Q:VK)(u:Value)(s':Shared):Prop :=
 ∃v H',s'.os=s.os/\AllBare s'.gens/\Un (frs outer) [] H H' s.heap s'.heap/\HOk P w H' s'.heap/\qDa v u/\Q v H'
def CR(CX:CXT)(outer:List Env)(P:Program)(w:World)(H:Hp)(s:Shared)(Q:VK)(E:XK)(r:Result)(s':Shared):Prop :=
 match r with
 |.ok (.ret u)=>CE outer P w H s Q u s'
 |.ok _=>False
 |.error e=>CX outer H s E e s'
structure FnOk(P:Program)(w:World)(K:PySem.W.Frag)(mg:Str->Option Value)(base:Heap)(CX:CXT)(k:Nat)(f:Addr)(fd:FuncData)(ps:List Str)(sp:Sp):Prop where
 len:∀vs H Q E,sp vs H Q E->vs.length=ps.length
 run:∀(A:Around) (outer:List Env) (s:Shared) (H:Hp) (args:Args) (us:List Value) (vs:List V) (Q:VK) (E:XK),Room k A->Env0 P w K mg base A outer s H->BindsTo s fd args (ps.zip us)->qBx vs us->sp vs H Q E ->
  codeAny (model P w) A (.call (.ref f) args) (CR CX outer P w H s Q E) s
theorem Env0.in1{P:Program}{w:World}{K:PySem.W.Frag}{mg:Str->Option Value}{base:Heap}{A:Around}{outer:List Env}{s:Shared}{H:Hp}(e:Env0 P w K mg base A outer s H) :
  Env0 P w K mg base A.in1 outer s H:=⟨e.frames,e.mod,e.bs,e.bsz,e.funs,e.frf,e.hok,e.bare⟩
section
variable{X:Cx}{aB:List vH}{σ:St}{H:Hp}{s s':Shared}
theorem Inv.env0(I:Inv X aB σ H s):Env0 X.prog X.w X.K X.mg X.base X.A X.stack s H :=
 ⟨I.ok.frames,I.ok.mod,I.bs,hAw I.ok.bsz I.sz,I.stack,I.stkFree,I.hok,I.bare⟩
theorem Inv.after(I:Inv X aB σ H s)(h:CE X.stack X.prog X.w H s Q u s'):EP X aB σ Q u s':=by
 obtain⟨v,H',os,bare,un,hok,r,q⟩:=h;obtain⟨hh,g,d,t,os'⟩:=s';obtain rfl:os'=s.os:=os;exact⟨v,H',I.call (h':=hh) (g':=g) (d':=d) (t':=t) (ch:=[]) un hok bare (λb z=>absurd z vI),r,q⟩
end
def zDi(sp:Sp)(dvs:List V)(E:XK)(t:TA):TE:=λσ H Q=>t σ H λvs H1=>sp (vs++dvs) H1 Q E
def qOu(K:PySem.W.Frag)(fd:FuncData)(ps:List Str)(ds:List Value):Prop :=
 ∀(s:Shared) (us:List Value),K.In s.heap->(us++ds).length=ps.length->BindsTo s fd ⟨us,[]⟩ (ps.zip (us++ds))
theorem qOu.all{K:PySem.W.Frag}{fd:FuncData}{ps:List Str}(h:∀us:List Value,us.length=ps.length->bindArgs fd ⟨us,[]⟩=pure (ps.zip us)):qOu K fd ps []:=λs us _ hl=>by
 rw[hCc]at hl ⊢;exact .of_eq (h us hl)
def qQ3(CX:CXT)(X:Cx)(E:XK):Prop:=∀(aB:List vH) (σ:St) (H:Hp) (s:Shared) (e:Value) (s':Shared),Inv X aB σ H s->CX X.stack H s E e s'->X.xe e s'
section
variable{X:Cx}{CX:CXT}{k:Nat}{f C:Addr}{fd:FuncData}{ps:List Str}{sp:Sp}{dvs:List V}{ds:List Value}{E:XK}{x m:Str}{p pos apos:Pos}{e o:Expr}{es:List Expr}{ta:TE}{t:TA}
theorem zDy(F:FnOk X.prog X.w X.K X.mg X.base CX k f fd ps sp)(hr:Room k X.A)(hb:qOu X.K fd ps ds)(hd:qBx dvs ds)(hx:qQ3 CX X E)
  (I:Inv X aB σ H s) (r:qBx vs us) (h:sp (vs++dvs) H Q E):wpAny vD X.A (call (.ref f) us) (EP X aB σ Q) X.xe s:=by
 have r2:qBx (vs++dvs) (us++ds):=r.append hd;have hl:(us++ds).length=ps.length:=by rw[<-r2.length];exact F.len _ _ _ _ h
 refine wpAny_call (hF9 (F.run X.A X.stack s H ⟨us,[]⟩ (us++ds) (vs++dvs) Q E hr I.env0 (hb s us I.kIn hl) r2 h) λr s' hq=>?_);cases r with
 |error e=>exact hx aB σ H s e s' I hq
 |ok fl =>
  cases fl with
  |ret u=>exact I.after hq
  |next=>exact False.elim hq
  |brk=>exact False.elim hq
  |cont=>exact False.elim hq
theorem qN4(F:FnOk X.prog X.w X.K X.mg X.base CX k f fd ps sp)(hr:Room k X.A)(hg:Gl X x)(hm:X.mg x=some (.ref f))(hk:PySem.W.keepIn X.K (.ref f)=true)(hb:qOu X.K fd ps ds)(hd:qBx dvs ds)(hx:qQ3 CX X E)
  (ha:PA X (e :: es) t) (hdb:(x == ("__debug__" : Str))=false:=by decide) (he:starEach (e :: es) X.env=(false,eval e X.env) :: starEach es X.env:=by rfl) (hpl:(backTo pos (starEach es X.env)).any (·.1)=false:=by rfl) :
  PE X (.Call (.Name x p) (e :: es) [] pos) (zDi sp dvs E t):=by
 intro aB s σ H Q I h;refine hEv (zCh I hg hm ?_ hdb);refine PySem.W.callWith_K (h₀:=X.base) I.ok.mod.kin hk (thn (ha pos aB s σ H _ I h) λus s1 ⟨vs,H1,I1,r,q⟩=>⟨I1.kIn,?_⟩) he hpl;exact zDy F hr hb hd hx I1 r q
structure Mk(K:PySem.W.Frag)(C f:Addr):Prop where
 makes:PySem.W.makesIn K C=true
 init:PySem.W.findIn K (.ref C) "__init__"=some (some (.ref f))
 fn:PySem.W.isFn K (.ref f)=true
 kp:PySem.W.keepIn K (.ref C)=true
end
section
variable{X:Cx}{CX:CXT}{k:Nat}{f C:Addr}{fd:FuncData}{ps ks:List Str}{sp:Sp}{E:XK}{x m:Str}{p pos apos kpos:Pos}{e o:Expr}{es:List Expr}{kws:List Keyword}{te ta:TE}{t tk:TA}{nm:Option Str}
structure KBinds(K:PySem.W.Frag)(fd:FuncData)(ps ks:List Str)(g:List Value->List Value->List Value)(gV:List V->List V->List V):Prop where
 to:∀(s:Shared) (us ws:List Value),K.In s.heap->(g us ws).length=ps.length->BindsTo s fd ⟨us,ks.zip ws⟩ (ps.zip (g us ws))
 rel:∀ {vs:List V} {us:List Value} {zs:List V} {ws:List Value},qBx vs us->qBx zs ws->qBx (gV vs zs) (g us ws)
variable{g:List Value->List Value->List Value}{gV:List V->List V->List V}
end
structure FnScope(N P:List Str)(sc:Scope):Prop where
 kind:sc.kind = .function
 co:sc.isCoroutine=false
 gen:sc.isGenerator=false
 nd:N.Nodup
 pre:N.take P.length=P
 par:∀x∈P,sc.names.lookup x=some .local\/sc.names.lookup x=some .cell
 nofree:∀y∈sc.names,y.2≠.free
theorem fsk{N P:List Str}{sc:Scope}(a:sc.kind = .function:=by rfl)(b:sc.isCoroutine=false:=by rfl)(c:sc.isGenerator=false:=by rfl)(d:N.Nodup:=by decide +kernel)(e:N.take P.length=P:=by rfl)(f:∀x∈P,sc.names.lookup x=some .local\/sc.names.lookup x=some .cell:=by decide +kernel)(g:∀y∈sc.names,y.2≠.free:=by decide +kernel):FnScope N P sc:=⟨a,b,c,d,e,f,g⟩
theorem qMv{kindOf:Str->Option NameKind}{x:Str}:∀ {binds:List (Str×Value)} {m:Str->Option Value},(∀v,(x,v)∉binds)->bindL kindOf binds m x=m x
 |[],_,_=>rfl
 |(n,v) :: r,m,h=>by
  unfold bindL;rw[qMv λw hw=>h w (hA6 _ hw)];split
  ·have:x≠n:=by rintro rfl;exact h v hA8
   simp[this]
  ·rfl
theorem qMx{kindOf:Str->Option NameKind}{x:Str}:∀ {binds:List (Str×Value)} {m:Str->Option Value},(∀v,(x,v)∉binds)->bindC kindOf binds m x=m x
 |[],_,_=>rfl
 |(n,v) :: r,m,h=>by
  unfold bindC;rw[qMx λw hw=>h w (hA6 _ hw)];split
  ·rfl
  ·have:x≠n:=by rintro rfl;exact h v hA8
   simp[this]
theorem qMw{kindOf:Str->Option NameKind}{x:Str}{v:Value}:∀ {P:List Str} {vs:List Value} {i:Nat} {m:Str->Option Value},P.Nodup->P[i]?=some x->vs[i]?=some v->kindOf x=some .local ->
  bindL kindOf (P.zip vs) m x=some v
 |[],_,_,_,_,h,_,_=>by simp at h
 |_ :: _,[],_,_,_,_,h,_=>by simp at h
 |p :: P,w :: vs,0,m,nd,h1,h2,hk=>by
  simp at h1 h2;subst h1;subst h2;show bindL kindOf ((p,w) :: P.zip vs) m p=_;unfold bindL;rw[qMv λv hv=>(hBb.mp nd).1 (List.of_mem_zip hv).1,hEk hk];simp
 |p :: P,w :: vs,i+1,m,nd,h1,h2,hk=>by
  show bindL kindOf ((p,w) :: P.zip vs) m x=_;unfold bindL;exact qMw (i:=i) (hBb.mp nd).2 (by simpa using h1) (by simpa using h2) hk
theorem qMy{kindOf:Str->Option NameKind}{x:Str}{v:Value}:∀ {P:List Str} {vs:List Value} {i:Nat} {m:Str->Option Value},P.Nodup->P[i]?=some x->vs[i]?=some v->kindOf x≠some .local ->
  bindC kindOf (P.zip vs) m x=some v
 |[],_,_,_,_,h,_,_=>by simp at h
 |_ :: _,[],_,_,_,_,h,_=>by simp at h
 |p :: P,w :: vs,0,m,nd,h1,h2,hk=>by
  simp at h1 h2;subst h1;subst h2;show bindC kindOf ((p,w) :: P.zip vs) m p=_;unfold bindC;rw[qMx λv hv=>(hBb.mp nd).1 (List.of_mem_zip hv).1,hEj hk];simp
 |p :: P,w :: vs,i+1,m,nd,h1,h2,hk=>by
  show bindC kindOf ((p,w) :: P.zip vs) m x=_;unfold bindC;exact qMy (i:=i) (hBb.mp nd).2 (by simpa using h1) (by simpa using h2) hk
noncomputable def start(N:List Str)(vs:List V):St:=vs.map some++List.replicate (N.length-vs.length) none
noncomputable def qQp(CX:CXT)(P:Program)(w:World)(K:PySem.W.Frag)(mg:Str->Option Value)(base:Heap)(N:List Str)(qual:Str)(scope:Scope)(f:Addr)(cd:Value)(A:Around)(outer:List Env)(s:Shared)(H:Hp)(E:XK):Cx where
 prog:=P
 w:=w
 K:=K
 mg:=mg
 base:=base
 A:=A.deeper (envOfC qual scope s.heap.objs.size f cd)
 N:=N
 s₀:=s
 H₀:=H
 env:=envOfC qual scope s.heap.objs.size f cd
 outer:=outer
 stack:=envOfC qual scope s.heap.objs.size f cd :: outer
 ex:=[]
 calm:=true
 fn:=λ_=>true
 pn:=[]
 xe:=λe s'=>wpAny (model P w) (A.deeper (envOfC qual scope s.heap.objs.size f cd)) (leaving (envOfC qual scope s.heap.objs.size f cd) e) (λ_ s''=>CX outer H s E e s'') (λe' s''=>CX outer H s E e' s'') s'
theorem qQv{sc:Scope}{n:Nat}{x:Str}(h:sc.names.lookup x=some .cell):∃c,(cellsFrom n sc.names []).lookup x=some c:=by
 have q:=hE2 sc.names n [] (.inl h);exact Option.isSome_iff_exists.mp q
theorem qMb{CX:CXT}{P:Program}{w:World}{K:PySem.W.Frag}{mg:Str->Option Value}{base:Heap}{N ps:List Str}{qual:Str}{scope:Scope}{f:Addr}{cd:Value}{A:Around}{outer:List Env}{s s1:Shared}{H:Hp}{E:XK}{us:List Value}{vs:List V}
  (S:FnScope N ps scope) (hd:A.handled=none) (e0:Env0 P w K mg base A outer s H) (hl:vs.length=ps.length) (r:qBx vs us)
  (x:InCallC s s.heap.objs.size (bindL (envOfC qual scope s.heap.objs.size f cd).kindOf (ps.zip us) λ_=>none) (cellsFrom (s.heap.objs.size+1) scope.names []) (bindC (envOfC qual scope s.heap.objs.size f cd).kindOf (ps.zip us) λ_=>none) s1) :
  Inv (qQp CX P w K mg base N qual scope f cd A outer s H E) [] (start N vs) H s1:=by
 have hpl:ps.length<=N.length:=by have:=congrArg List.length S.pre;rw[hAm]at this;omega
 obtain⟨h1,tk,rfl,hk⟩:=x.done;have noA:∀b:Addr,b∉(qQp CX P w K mg base N qual scope f cd A outer s H E).ex:=λb z=>absurd (show b∈([]:List Addr) from z) vI
 refine⟨⟨e0.mod,S.kind,rfl,rfl,hA9 _,λy z c h1 h2=>?_,λy hy=>?_,λy c _ h=>?_,λ_=>hd,Around.frames_deeper e0.frames,.inr ⟨rfl,rfl⟩,λb z=>absurd z (noA b),e0.bs,e0.bsz,λb _ _=>noA b,λb z=>absurd z (noA b),e0.funs,e0.frf⟩,
  rfl,e0.bare,Un.kept hk,⟨_,x.toInCall.ns,λi y v h1 h2 h3=>?_⟩,λy c h=>⟨_,x.cell y c h⟩,e0.hok.fresh (hA9 _),λy c h=>?_,λp hp=>absurd (show p∈([]:List vH) from hp) vI,e0.hok.kept hk,?_⟩
 ·exact name_of_addr x.apart (hCh h1) (hCh h2)
 ·have hy:scope.names.lookup y=some .cell\/scope.names.lookup y=some .free:=hy;rcases hy with hy|hy
  ·exact qQv hy
  ·exact absurd rfl (S.nofree _ (hCh hy))
 ·exact hB9 (x.above y c (hCh h))
 ·have hi:i<vs.length:=by
   unfold start at h2;by_cases hi:i<vs.length
   ·exact hi
   ·rw[hDl (by simpa using hi)]at h2;rw[List.getElem?_replicate]at h2;split at h2 <;> cases h2
  have ha:vs[i]?=some v:=by
   unfold start at h2;rw[hD4 (by simpa using hi),hAl]at h2;cases e:vs[i]? with
   |none=>rw[e]at h2;cases h2
   |some a=>rw[e]at h2;cases h2;rfl
  obtain⟨u,hu,rv⟩:=r.get ha;have hp:ps[i]?=some y:=by
   rw[<-S.pre,List.getElem?_take_of_lt vG];exact h1
  have ndP:ps.Nodup:=by rw[<-S.pre];exact S.nd.sublist (List.take_sublist _ _)
  refine⟨u,rv,?_⟩;rcases S.par y (hAc hp) with k|k
  ·exact .inl ⟨k,qMw ndP hp hu k⟩
  ·obtain⟨c,e⟩:=qQv (n:=s.heap.objs.size+1) k;refine .inr ⟨.inl k,c,e,?_⟩;have q:=x.cell y c e;rw[qMy ndP hp hu (by show scope.names.lookup y≠_;rw[k];decide)]at q;exact q
 ·exact e0.hok.fresh (hB9 (x.above y c (hCh h)))
 ·unfold start;show _=N.length;rw[hAf,hA1,hDo];omega
theorem zE3{CX:CXT}{P:Program}{w:World}{K:PySem.W.Frag}{mg:Str->Option Value}{base:Heap}{k:Nat}{f:Addr}{name qual:Str}{params:Arguments}{body:List Stmt}{scope:Scope}{dV kV doc pm cdv ct oc:Value}{an od:Option Addr}
  {osl:Array (Option Value)} {N ps:List Str} {sp:Sp} (lk:K.lookup f=some ⟨oc,od,.func (PySem.W.fnOf name qual params body scope dV kV doc pm an cdv ct),osl⟩) (hcd:PySem.W.codeIn K cdv qual=true) (S:FnScope N ps scope)
  (len:∀vs H Q E,sp vs H Q E->vs.length=ps.length)
  (hbody:∀(A:Around) (outer:List Env) (s:Shared) (H:Hp) (vs:List V) (Q:VK) (E:XK),Room k (A.deeper (envOfC qual scope s.heap.objs.size f cdv))->sp vs H Q E ->
   ∃t,PSs (qQp CX P w K mg base N qual scope f cdv A outer s H E) body t/\t { nx:=λ_ H'=>Q .non H',rt:=Q } (start N vs) H) :
  FnOk P w K mg base CX (k+1) f (PySem.W.fnOf name qual params body scope dV kV doc pm an cdv ct) ps sp:=by
 refine⟨len,λA outer s H args us vs Q E hr e0 hb r hsp=>?_⟩;have hl:=len _ _ _ _ hsp;have KX:K.In s.heap:=e0.mod.kin.keeps λb o e=>(e0.bs b o e).1
 have lim:s.heap.NoLimit:=e0.mod.nolimit.keeps λb o e=>(e0.bs b o e).1
 have hkind:∀y∈ps.zip us,scope.names.lookup y.1=some .local\/(scope.names.lookup y.1=some .cell/\((cellsFrom (s.heap.objs.size+1) scope.names []).lookup y.1).isSome=true):=λ⟨n,v⟩ hy=>by
  rcases S.par n (List.of_mem_zip hy).1 with q|q
  ·exact .inl q
  ·exact .inr ⟨q,hE2 _ _ _ (.inl q)⟩
 refine codeAny_call_function hr.depth (KX _ _ lk) rfl S.co S.gen rfl (PySem.W.codeRec_of KX hcd) (hb _ _ _ _ ?_);refine wpAny_newFunctionEnv_cells S.kind hkind λenv he s1 x=>?_
 subst he;refine⟨lim.keeps x.toInCall.keep,codeAny_func ?_⟩;obtain⟨t,ht,hq⟩:=hbody A outer s H vs Q E (hr.deeper _) hsp;have I:Inv (qQp CX P w K mg base N qual scope f cdv A outer s H E) [] (start N vs) H s1:=qMb S hr.hd e0 hl r x;refine hEq (ht [] s1 (start N vs) H _ I hq) (λfl s' hs=>?_) λe s' hs=>hs
 have fin:∀ {σ':St} {H':Hp} {v:V} {u:Value},Inv (qQp CX P w K mg base N qual scope f cdv A outer s H E) [] σ' H' s'->qDa v u->Q v H'->CE outer P w H s Q u s' :=
  λ{σ' H' v u} J rv q=>⟨v,H',J.os,J.bare,J.base,J.hok,rv,q⟩
 cases fl with
 |ret u =>
  obtain⟨v,σ',H',J,rv,q⟩:=hs;exact fin J rv q
 |next =>
  obtain⟨σ',H',J,q⟩:=hs;exact fin (v:=V.non) (u:=Value.none) J rfl q
 |brk =>
  obtain⟨_,_,_,q⟩:=hs;exact False.elim q
 |cont =>
  obtain⟨_,_,_,q⟩:=hs;exact False.elim q
section
variable{X:Cx}{x:Str}{p pos:Pos}{e:Expr}{es:List Expr}{t:TA}{id T:String}{r:List V->Hp->VK->Prop}
def tCB(r:List V->Hp->VK->Prop)(t:TA):TE:=λσ H Q=>t σ H λvs H1=>r vs H1 Q
theorem qAj(hc:qCm X (.builtin id) r)(hg:Gl X x)(hm:X.mg x=none)(hv:bootBuiltins x=some (.builtin id))(ha:PA X (e :: es) t)(hn:x≠"__name__":=by decide)(hdb:(x == ("__debug__" : Str))=false:=by decide)
  (he:starEach (e :: es) X.env=(false,eval e X.env) :: starEach es X.env:=by rfl) (hpl:(backTo pos (starEach es X.env)).any (·.1)=false:=by rfl):PE X (.Call (.Name x p) (e :: es) [] pos) (tCB r t):=by
 intro aB s σ H Q I h;refine hEv (qE5 I hg hm hv ?_ hn hdb);exact PyProof.Rows.callWith_builtin1 (thn (ha pos aB s σ H _ I h) λus s1 ⟨vs,H1,I1,r1,q1⟩=>hc aB s1 σ H1 vs us Q I1 r1 q1) he hpl
theorem qBy(hc:qCm X (.type T) r)(hg:Gl X x)(hm:X.mg x=none)(hv:bootBuiltins x=some (.type T))(ha:PA X (e :: es) t)(hn:x≠"__name__":=by decide)(hdb:(x == ("__debug__" : Str))=false:=by decide)
  (he:starEach (e :: es) X.env=(false,eval e X.env) :: starEach es X.env:=by rfl) (hpl:(backTo pos (starEach es X.env)).any (·.1)=false:=by rfl):PE X (.Call (.Name x p) (e :: es) [] pos) (tCB r t):=by
 intro aB s σ H Q I h;refine hEv (qE5 I hg hm hv ?_ hn hdb);exact hCw (thn (ha pos aB s σ H _ I h) λus s1 ⟨vs,H1,I1,r1,q1⟩=>hc aB s1 σ H1 vs us Q I1 r1 q1) he hpl
end
end L2
namespace HT
open PySem PyProof.Rows
section
variable{prog:Program}{w:World}{A:Around}{E:Value->Shared->Prop}{s:Shared}
theorem cat_tup(ht:IsTup s.heap t vs.toArray)(hb:IsTup s.heap b ws.toArray)(hv:vs≠[])
  (h1:ws=[]->Q (.ref t) s) (h2:ws≠[]->Q (.ref s.heap.objs.size) { s with heap:=s.heap.push { cls:=.type "tuple",data:=.seq (vs++ws).toArray } })
  (hsz:vs.length+ws.length<=sizeLine):wpAny (model prog w) A (binaryOp .Add (.ref t) (.ref b)) Q E s:=by
 obtain⟨⟨cls,dd,data,sl⟩,ho,hc,n,hd⟩:=id ht;obtain⟨⟨cls2,dd2,data2,sl2⟩,ho2,hc2,n2,hd2⟩:=id hb;simp only at hc hd hc2 hd2;subst hc hd hc2 hd2;have e:vs.toArray++ws.toArray=(vs++ws).toArray:=by simp
 by_cases hw:ws=[]
 ·exact concat_meets ⟨_,ho,rfl⟩ ⟨_,ho2,rfl⟩ noFill_tuple_add seq_tuple_add PySem.F.slot_tuple_add PySem.F.entry_tuple_add (PySem.F.args_tuple_add_2 _ _)
   (tuple_addW1 t b vs.toArray ws.toArray n n2 dd dd2 sl sl2 (by simpa using hv) (by simp[hw])) ⟨ho,ho2,h1 hw⟩
 ·refine concat_meets ⟨_,ho,rfl⟩ ⟨_,ho2,rfl⟩ noFill_tuple_add seq_tuple_add PySem.F.slot_tuple_add PySem.F.entry_tuple_add (PySem.F.args_tuple_add_2 _ _)
   (tuple_addW2 t b vs.toArray ws.toArray n n2 dd dd2 sl sl2 (by simpa using hv) (by simpa using hw) (by rw[hAk,hAk];exact hsz)) ⟨ho,ho2,?_⟩
  rw[e];exact h2 hw
noncomputable def sIx(n d:Nat):Option Int->Nat
 |none=>d
 |some v=>if v<0 then (v+(n:Int)).toNat else min v.toNat n
theorem sIx_none(n d:Nat):sIx n d none=d:=rfl
theorem sIx_nat(n d k:Nat):sIx n d (some (k:Int))=min k n:=by
 show(if (k:Int)<0 then ((k:Int)+(n:Int)).toNat else min (k:Int).toNat n)=min k n;rw[hEj vG,hB7]
end
end HT
namespace L2
open PySem PySem.Spec PyProof.Rows
abbrev TO:=St->Hp->(Option Int->Hp->Prop)->Prop
def PO(X:Cx)(e:Option Expr)(t:TO):Prop :=
 ∀(aB:List vH) (s:Shared) (σ:St) (H:Hp) (Q:Option Int->Hp->Prop),Inv X aB σ H s->t σ H Q ->
  wpAny vD X.A (evalPart e X.env) (λu s'=>∃o H',Inv X aB σ H' s'/\IsPart u o/\Q o H') X.xe s
def zAc:TO:=λ_ H Q=>Q none H
def zFq(t:TE):TO:=λσ H Q=>t σ H λx H1=>∃i,x = .int i/\Q (some i) H1
section
variable{X:Cx}{e:Expr}{te:TE}{lo hi:Option Expr}{tl th:TO}{pos p2:Pos}
theorem qH2:PO X none zAc:=by
 intro aB s σ H Q I h;rw[evalPart_none];exact hEh ⟨none,H,I,.none,h⟩
theorem qH1(h:PE X e te):PO X (some e) (zFq te):=by
 intro aB s σ H Q I hw;rw[evalPart_some];refine thn (h aB s σ H _ I hw) λu s1 ⟨x,H1,I1,r1,q1⟩=>?_
 obtain⟨i,rfl,q⟩:=q1;obtain⟨t,rfl⟩:=r1;exact⟨some i,H1,I1,.int i t,q⟩
def SlR(X:Cx)(r:V->Option Int->Option Int->Hp->VK->Prop):Prop :=
 ∀(aB:List vH) (s:Shared) (σ:St) (H:Hp) (x:V) (v vl vu:Value) (lo hi:Option Int) (sl:Addr) (Q:VK),Inv X aB σ H s->qDa x v->s.heap.IsSliceOf sl vl vu .none->IsPart vl lo->IsPart vu hi->r x lo hi H Q ->
  ∃T id,typeLookup (.type T) "__getitem__"=pure (some (.builtin id))/\s.TypeIs v T/\wpAny vD X.A (getItem v (.ref sl)) (EP X aB σ Q) X.xe s
def tSl(r:V->Option Int->Option Int->Hp->VK->Prop)(te:TE)(tl th:TO):TE:=λσ H Q=>te σ H λx H1=>tl σ H1 λl H2=>th σ H2 λu H3=>r x l u H3 Q
theorem qFp(hr:SlR X r)(he:PE X e te)(hl:PO X lo tl)(hu:PO X hi th):PE X (.Subscript e (.Slice lo hi none p2) pos) (tSl r te tl th):=by
 intro aB s σ H Q I h;refine Subscript_ (thn (he aB s σ H _ I h) λv s1 ⟨x,H1,I1,r1,q1⟩=>?_);refine wpAny_Slice (thn (hl aB s1 σ H1 _ I1 q1) λvl s2 ⟨l,H2,I2,pl,q2⟩=>thn (hu aB s2 σ H2 _ I2 q2) λvu s3 ⟨u,H3,I3,pu,q3⟩=>?_);rw[evalPart_none];refine hEh ?_;have I4:Inv X aB σ H3 { s3 with heap:=s3.heap.push { cls:=.type "slice",data:=.fields #[vl,vu,.none] } }:=I3.kept (t':=s3.toks) λb ob q=>Heap.get?_push_of_some _ q
 obtain⟨T,id,hT,ht,hg⟩:=hr aB { s3 with heap:=s3.heap.push { cls:=.type "slice",data:=.fields #[vl,vu,.none] } } σ H3 x v vl vu l u s3.heap.objs.size Q I4 r1 (Heap.IsSliceOf.new ..) pl pu q3;show wpAny vD X.A (subscriptTail e (.Slice lo hi none p2) v (.ref s3.heap.objs.size)) (EP X aB σ Q) X.xe { s3 with heap:=s3.heap.push { cls:=.type "slice",data:=.fields #[vl,vu,.none] } };exact tail_any (ops:=[.ref s3.heap.objs.size,v]) ht hT hg (by with_unfolding_all rfl)
noncomputable def qX5(xs:List V)(lo hi:Option Int):List V:=(xs.drop (HT.sIx xs.length 0 lo)).take (HT.sIx xs.length xs.length hi-HT.sIx xs.length 0 lo)
theorem qOi(xs:List V)(lo hi:Option Int):(qX5 xs lo hi).length<=xs.length:=by
 unfold qX5;rw[hAm,List.length_drop];omega
def zF5(K:PySem.W.Frag):R2:=λx y H Q=>∃a b xs ys,x = .ref a/\y = .ref b/\SqT K H a xs/\SqT K H b ys/\xs≠[]/\xs.length+ys.length<=sizeLine /\
 (ys=[]->Q (.ref a) H)/\(ys≠[]->∀p,H p=none->Q (.ref p) (upd H p (.tup (xs++ys))))
theorem qBx.nil_iff(r:qBx xs us):us=[]↔xs=[]:=by
 cases r with
 |nil=>simp
 |cons _ _=>simp
theorem qTk:OpR X (binaryOp .Add) (zF5 X.K):=by
 intro aB s σ H x y v u Q I rx ry h;obtain⟨a,b,xs,ys,rfl,rfl,ha,hb,hx,hz,q1,q2⟩:=h;cases rx;cases ry;obtain⟨its,r1,p1,_⟩:=I.tuple ha;obtain⟨its2,r2,p2,_⟩:=I.tuple hb;refine HT.cat_tup p1 p2 (λz=>hx (r1.nil_iff.mp z)) (λz=>⟨.ref a,H,I,rfl,q1 (r2.nil_iff.mp z)⟩) (λz=>?_) (by rw[<-r1.length,<-r2.length];exact hz);refine⟨.ref s.heap.objs.size,_,I.laid (t':=s.toks) (o:=.tup (xs++ys)) (λb ob q=>Heap.get?_push_of_some _ q) (hA9 _) ?_,rfl,q2 (λw=>z (r2.nil_iff.mpr w)) _ (I.hok.fresh (hA9 _))⟩;exact⟨by rw[hAf];exact hz,_,r1.append r2,IsTup.new _ _⟩
end
noncomputable def ixN(n:Nat)(i:Int):Option Nat:=if 0<=i then (if i<n then some i.toNat else none) else if -(n:Int)<=i then some (i+n).toNat else none
noncomputable def atI{α:Type}(xs:List α)(i:Int):Option α:=(ixN xs.length i).bind λj=>xs[j]?
theorem zCl(h:ixN n i=some j):seqIndex? i n=some j/\j<n/\-(n:Int)<=i/\i<n:=by
 unfold ixN at h;by_cases h0:0<=i
 ·rw[hEk h0]at h;by_cases h1:i<n
  ·rw[hEk h1]at h;have e:i.toNat=j:=hAq h;exact⟨by rw[seqIndex_of h0 h1,e],by omega,by omega,h1⟩
  ·rw[hEj h1]at h;cases h
 ·rw[hEj h0]at h;by_cases h1:-(n:Int)<=i
  ·rw[hEk h1]at h;have e:(i+n).toNat=j:=hAq h;exact⟨by rw[seqIndex_neg vG h1,e],by omega,h1,by omega⟩
  ·rw[hEj h1]at h;cases h
theorem qOq(h:atI xs i=some v):∃j,seqIndex? i xs.length=some j/\xs[j]?=some v/\j<xs.length/\-(xs.length:Int)<=i/\i<xs.length:=by
 unfold atI at h;cases e:ixN xs.length i with
 |none=>rw[e]at h;cases h
 |some j =>
  rw[e]at h;obtain⟨h1,h2,h3,h4⟩:=zCl e;exact⟨j,h1,h,h2,h3,h4⟩
theorem qA0{α:Type}{xs:List α}{j:Nat}{v:α}(h:xs[j]?=some v):atI xs (j:Int)=some v:=by
 have hj:j<xs.length:=(hAp.mp h).1;have e:ixN xs.length (j:Int)=some j:=by
  unfold ixN;rw[hEk vG,hEk vG];simp
 unfold atI;rw[e];exact h
def zC8(b:Expr):Prop:=∀o i,subscripted b false o i=operate [o,i] (getItem o i)
def IxR(X:Cx)(r:R2):Prop :=
 ∀(value slice:Expr) (aB:List vH) (s:Shared) (σ:St) (H:Hp) (x y:V) (v u:Value) (Q:VK),Inv X aB σ H s->qDa x v->qDa y u->r x y H Q ->
  subscripted slice false v u=operate [v,u] (getItem v u)->wpAny vD X.A (subscriptTail value slice v u) (EP X aB σ Q) X.xe s
def MtR(X:Cx)(id:String)(r:V->List V->Hp->VK->Prop):Prop :=
 ∀(aB:List vH) (s:Shared) (σ:St) (H:Hp) (x:V) (xs:List V) (v:Value) (us:List Value) (Q:VK),Inv X aB σ H s->qDa x v->qBx xs us->r x xs H Q ->
  wpAny vD X.A (call (.builtin id) (v :: us)) (EP X aB σ Q) X.xe s
section
variable{X:Cx}{a b:Expr}{ta tb:TE}{pos:Pos}
theorem qBe(hr:IxR X r)(ha:PE X a ta)(hb:PE X b tb)(hs:zC8 b):PE X (.Subscript a b pos) (tOp r ta tb):=by
 intro aB s σ H Q I h;exact Subscript_ (zGo ha hb I h λv u s2 x y H2 I2 rx ry q=>hr a b aB s2 σ H2 x y v u Q I2 rx ry q (hs _ _))
def zFl(K:PySem.W.Frag):R2:=λx y H Q=>∃p xs i v,x = .ref p/\y = .int i/\SqL K H p xs/\atI xs i=some v/\Q v H
def qNz(K:PySem.W.Frag):R2:=λx y H Q=>∃p xs i v,x = .ref p/\y = .int i/\SqT K H p xs/\atI xs i=some v/\Q v H
def zHj:R2:=λx y H Q=>∃z i c,x = .str z/\y = .int i/\z.length<=sizeLine/\atI z.cps.toList i=some c/\Q (.str ⟨#[c]⟩) H
theorem qB0:IxR X (zFl X.K):=by
 intro value slice aB s σ H x y v u Q I rx ry h hs;obtain⟨p,xs,i,z,rfl,rfl,hq,he,q⟩:=h;cases rx;obtain⟨t,rfl⟩:=ry;obtain⟨its,r,pl,hz⟩:=I.list hq;obtain⟨j,h1,h2,h3,h4,h5⟩:=qOq he;obtain⟨w,ew,rw'⟩:=r.get h2;have hl:=r.length;have hn:=qL7;have fin:EP X aB σ Q w s:=⟨z,H,I,rw',q⟩;by_cases h0:0<=i
 ·have hj:i.toNat=j:=by
   rw[seqIndex_of h0 h5]at h1;exact hAq h1
  exact item_listR pl.isList h0 vG (by rw[hj];simpa using ew) fin hs
 ·have hj:(i+(its.toArray.size:Int)).toNat=j:=by
   rw[seqIndex_neg vG h4]at h1;rw[hAk,<-hl];exact hAq h1
  exact subscriptTail_builtinR (x:=w) pl.isList.typeIs slot_list_getitem.lookup
   (wpAny_getItem_list_neg (Q:=λr s'=>r=w/\EP X aB σ Q r s') pl.isList vG (by rw[hAk] <;> omega) vG (by rw[hj];simpa using ew) ⟨rfl,fin⟩) hs
theorem qBq:IxR X (qNz X.K):=by
 intro value slice aB s σ H x y v u Q I rx ry h hs;obtain⟨p,xs,i,z,rfl,rfl,hq,he,q⟩:=h;cases rx;obtain⟨t,rfl⟩:=ry;obtain⟨its,r,pl,hz⟩:=I.tuple hq;obtain⟨j,h1,h2,h3,h4,h5⟩:=qOq he;obtain⟨w,ew,rw'⟩:=r.get h2;have hl:=r.length;have hn:=qL7;have fin:EP X aB σ Q w s:=⟨z,H,I,rw',q⟩;exact subscriptTail_builtinR (x:=w) pl.typeIs slot_tuple_getitem.lookup
  (getItem_tuple (j:=j) (Q:=λr s'=>r=w/\EP X aB σ Q r s') pl vG vG (by rw[hAk,<-hl];exact h1) (by simpa using ew) ⟨rfl,fin⟩) hs
theorem qZn:IxR X zHj:=by
 intro value slice aB s σ H x y v u Q I rx ry h hs;obtain⟨z,i,c,rfl,rfl,hz,he,q⟩:=h;obtain⟨t,rfl⟩:=rx;obtain⟨t',rfl⟩:=ry;obtain⟨j,h1,h2,h3,h4,h5⟩:=qOq he;have hl:z.cps.toList.length=z.length:=by simp[Str.length]
 rw[hl]at h1 h4 h5;have hn:=qL7;exact tail_any (typeIs_str s z t) slot_str_getitem.lookup (getItem_str (c:=c) (by
  have e1:decide (i < -(2^63:Int))=false:=hEg vG;have e2:decide (i >= 2^63)=false:=hEg vG;rw[e1,e2,Bool.or_false]) (by rw[h1];simpa using h2) ⟨.str ⟨#[c]⟩,H,I.tok _,⟨_,rfl⟩,q⟩) hs
theorem qLg(lo hi:Option Int)(n:Nat):(sliceBounds lo hi none n).1=((HT.sIx n 0 lo:Nat):Int)/\(sliceBounds lo hi none n).2.1=((HT.sIx n n hi:Nat):Int)/\(sliceBounds lo hi none n).2.2=1:=by
 refine⟨?_,?_,rfl⟩
 ·cases lo with
  |none=>simp[sliceBounds,HT.sIx]
  |some i =>
   simp only[sliceBounds,HT.sIx,Option.getD_none,show(1:Int) > 0 by decide,if_true];by_cases h:i<0
   ·simp only[h,if_true] <;> omega
   ·simp only[h,hFf] <;> omega
 ·cases hi with
  |none=>simp[sliceBounds,HT.sIx]
  |some i =>
   simp only[sliceBounds,HT.sIx,Option.getD_none,show(1:Int) > 0 by decide,if_true];by_cases h:i<0
   ·simp only[h,if_true] <;> omega
   ·simp only[h,hFf] <;> omega
theorem qJx(its:List Value)(lo hi:Option Int):slicePick its.toArray lo hi none=((its.drop (HT.sIx its.length 0 lo)).take (HT.sIx its.length its.length hi-HT.sIx its.length 0 lo)).toArray:=by
 obtain⟨h1,h2,h3⟩:=qLg lo hi its.toArray.size;unfold slicePick;rw[h1,h2,h3];simp only[sliceRange_one,pick_run,hAk] <;> rfl
def zHh(K:PySem.W.Frag):V->Option Int->Option Int->Hp->VK->Prop:=λx lo hi H Q=>∃a xs,x = .ref a/\SqL K H a xs/\∀p,H p=none->Q (.ref p) (upd H p (.lst (qX5 xs lo hi)))
theorem qNf:SlR X (zHh X.K):=by
 intro aB s σ H x v vl vu lo hi sl Q I rx hs pl pu h;obtain⟨a,xs,rfl,hx,q⟩:=h;cases rx;obtain⟨its,r,ht,hz⟩:=I.list hx;have hlen:=r.length;refine⟨"list",_,slot_list_getitem.lookup,ht.isList.typeIs,?_⟩;refine wpAny_getItem_list_slice ht.isList hs pl pu .none vI ?_ (by rw[hAk] <;> omega);rw[qJx,<-hlen];refine⟨.ref s.heap.objs.size,_,I.laid (t':=s.toks) (o:=.lst (qX5 xs lo hi)) (λb ob q=>Heap.get?_push_of_some _ q) (hA9 _) ?_,rfl,q _ (I.hok.fresh (hA9 _))⟩;exact⟨hAw (qOi xs lo hi) hz,_,0,(r.drop (HT.sIx xs.length 0 lo)).take (HT.sIx xs.length xs.length hi-HT.sIx xs.length 0 lo),Heap.get?_push_size _ rfl⟩
def qIm:V->Bool
 |.non=>true
 |.bl _=>true
 |.int _=>true
 |.str _=>true
 |_=>false
noncomputable def eqV:V->V->Bool
 |.non,.non=>true
 |.bl a,.bl b=>a == b
 |.bl a,.int b=>(if a then 1 else 0) == b
 |.int a,.bl b=>a == (if b then 1 else 0)
 |.int a,.int b=>a == b
 |.str a,.str b=>a == b
 |_,_=>false
theorem zE8(ry:qDa y u)(rx:qDa x v)(fy:qIm y=true)(fx:qIm x=true):SeqAt.EqAt A s u v (eqV y x):=by
 cases y with
 |non =>
  cases ry;cases x with
  |non=>cases rx;exact SeqAt.EqAt.same _
  |bl b=>cases rx;exact SeqAt.EqAt.none_bool b
  |int b=>obtain⟨t,rfl⟩:=rx;exact SeqAt.EqAt.none_int b t
  |str b=>obtain⟨t,rfl⟩:=rx;exact SeqAt.EqAt.none_str b t
  |_=>exact absurd (show false=true from fx) hB3
 |bl a =>
  cases ry;cases x with
  |non=>cases rx;exact SeqAt.EqAt.bool_none a
  |bl b=>cases rx;exact SeqAt.EqAt.bool_bool a b
  |int b=>obtain⟨t,rfl⟩:=rx;exact SeqAt.EqAt.bool_int a b t
  |str b=>obtain⟨t,rfl⟩:=rx;exact SeqAt.EqAt.bool_str a b t
  |_=>exact absurd (show false=true from fx) hB3
 |int a =>
  obtain⟨t',rfl⟩:=ry;cases x with
  |non=>cases rx;exact SeqAt.EqAt.int_none a t'
  |bl b=>cases rx;exact SeqAt.EqAt.int_bool a t' b
  |int b=>obtain⟨t,rfl⟩:=rx;exact SeqAt.EqAt.int_int a t' b t
  |str b=>obtain⟨t,rfl⟩:=rx;exact SeqAt.EqAt.int_str a t' b t
  |_=>exact absurd (show false=true from fx) hB3
 |str a =>
  obtain⟨t',rfl⟩:=ry;cases x with
  |non=>cases rx;exact SeqAt.EqAt.str_none a t'
  |bl b=>cases rx;exact SeqAt.EqAt.str_bool a t' b
  |int b=>obtain⟨t,rfl⟩:=rx;exact SeqAt.EqAt.str_int a t' b t
  |str b=>obtain⟨t,rfl⟩:=rx;exact SeqAt.EqAt.str_str a t' b t
  |_=>exact absurd (show false=true from fx) hB3
 |_=>exact absurd (show false=true from fy) hB3
noncomputable def eqU(x:V)(u:Value):Bool:=match u with
 |.none=>eqV .non x
 |.bool b=>eqV (.bl b) x
 |.int i _=>eqV (.int i) x
 |.str z _=>eqV (.str z) x
 |_=>false
theorem qZr(r:qDa y u)(f:qIm y=true):eqU x u=eqV y x:=by
 cases y with
 |non=>cases r;rfl
 |bl b=>cases r;rfl
 |int i=>obtain⟨t,rfl⟩:=r;rfl
 |str z=>obtain⟨t,rfl⟩:=r;rfl
 |_=>exact absurd (show false=true from f) hB3
theorem qIs:∀ {xs:List V} {us:List Value},qBx xs us->xs.all qIm=true->us.any (eqU x)=xs.any λy=>eqV y x
 |_,_,.nil,_=>rfl
 |y :: xs,u :: us,.cons r t,f=>by
  rw[List.all_cons,hCm]at f;rw[hEb,hEb,qZr r f.1,qIs t f.2]
theorem qFt(rx:qDa x v)(fx:qIm x=true):∀ {xs:List V} {us:List Value},qBx xs us->xs.all qIm=true->∀u∈us,SeqAt.EqAt A s u v (eqU x u)
 |_,_,.nil,_=>λu hu=>by cases hu
 |y :: xs,u :: us,.cons r t,f=>λu' hu=>by
  rw[List.all_cons,hCm]at f;rcases hAj.mp hu with rfl|hu
  ·rw[qZr r f.1];exact zE8 r rx f.1 fx
  ·exact qFt rx fx t f.2 u' hu
noncomputable def inV(x:V)(xs:List V):Bool:=xs.any λy=>eqV y x
def rIn(K:PySem.W.Frag)(neg:Bool):R2:=λx y H Q=>∃p xs,y = .ref p/\(SqL K H p xs\/SqT K H p xs)/\qIm x=true/\xs.all qIm=true/\Q (.bl (if neg then !inV x xs else inV x xs)) H
theorem qDs:OpR X (compareOp .In) (rIn X.K false):=by
 intro aB s σ H x y v u Q I rx ry h;obtain⟨p,xs,rfl,hq,fx,fs,q⟩:=h;cases ry;rcases hq with hq|hq
 ·obtain⟨its,r,pl,hz⟩:=I.list hq;refine SeqAt.in_listAt (eqU x) pl.isList (λw hw=>qFt rx fx r fs w (by simpa using hw)) ⟨.bl _,H,I,rfl,?_⟩;rw[show its.toArray.any (eqU x)=its.any (eqU x) by simp,qIs r fs];exact q
 ·obtain⟨its,r,pl,hz⟩:=I.tuple hq;refine SeqAt.in_tupleAt (eqU x) pl (λw hw=>qFt rx fx r fs w (by simpa using hw)) ⟨.bl _,H,I,rfl,?_⟩;rw[show its.toArray.any (eqU x)=its.any (eqU x) by simp,qIs r fs];exact q
theorem qCe:OpR X (compareOp .NotIn) (rIn X.K true):=by
 intro aB s σ H x y v u Q I rx ry h;obtain⟨p,xs,rfl,hq,fx,fs,q⟩:=h;cases ry;rcases hq with hq|hq
 ·obtain⟨its,r,pl,hz⟩:=I.list hq;refine SeqAt.notIn_listAt (eqU x) pl.isList (λw hw=>qFt rx fx r fs w (by simpa using hw)) ⟨.bl _,H,I,rfl,?_⟩;rw[show its.toArray.any (eqU x)=its.any (eqU x) by simp,qIs r fs];exact q
 ·obtain⟨its,r,pl,hz⟩:=I.tuple hq;refine SeqAt.notIn_tupleAt (eqU x) pl (λw hw=>qFt rx fx r fs w (by simpa using hw)) ⟨.bl _,H,I,rfl,?_⟩;rw[show its.toArray.any (eqU x)=its.any (eqU x) by simp,qIs r fs];exact q
theorem qAl:qCm X (.builtin "len") (λxs H Q=>∃p ys,xs=[.ref p]/\(SqL X.K H p ys\/SqT X.K H p ys)/\Q (.int ys.length) H):=by
 intro aB s σ H xs us Q I r h;obtain⟨p,ys,rfl,hq,q⟩:=h;obtain⟨u,rfl,rx⟩:=qCy r;cases rx;have hn:=qL7;rcases hq with hq|hq
 ·obtain⟨its,r',pl,hz⟩:=I.list hq;have hlen:=r'.length;exact Calls.call_len_list pl.isList (by simp only[hAk] <;> omega) ⟨.int ys.length,H,I.tok _,⟨s.toks+1,by rw[hAk,hlen]⟩,q⟩
 ·obtain⟨its,r',pl,hz⟩:=I.tuple hq;have hlen:=r'.length;exact len_tuple pl (by simp only[hAk] <;> omega) ⟨.int ys.length,H,I.tok _,⟨s.toks+1,by rw[hAk,hlen]⟩,q⟩
theorem qMq:qCm X (.builtin "len") (λxs H Q=>∃z,xs=[.str z]/\z.length<=sizeLine/\Q (.int z.length) H):=by
 intro aB s σ H xs us Q I r h;obtain⟨z,rfl,hz,q⟩:=h;obtain⟨u,rfl,t,rfl⟩:=qCy r;have hn:=qL7;exact len_str vG ⟨.int z.length,H,I.tok _,⟨_,rfl⟩,q⟩
theorem qDh:qCm X (.type "list") (λxs H Q=>∃p ys,xs=[.ref p]/\(SqL X.K H p ys\/SqT X.K H p ys)/\∀l,H l=none->Q (.ref l) (upd H l (.lst ys))):=by
 intro aB s σ H xs us Q I r h;obtain⟨p,ys,rfl,hq,q⟩:=h;obtain⟨u,rfl,rx⟩:=qCy r;cases rx;have fin:∀(its:List Value),qBx ys its->ys.length<=sizeLine->∀(h':Heap) (c':Nat),(∀b o',s.heap.get? b=some o'->h'.get? b=some o') ->
   h'.get? s.heap.objs.size=some { cls:=.type "list",dict:=none,data:=.seq its.toArray c',slots:=#[] }->EP X aB σ Q (.ref s.heap.objs.size) { s with heap:=h' }:=λits r' hz h' c' kp e =>
  ⟨.ref s.heap.objs.size,_,I.laid (t':=s.toks) kp (hA9 _) (show qC0 X.prog X.w _ h' _ (.lst ys) from ⟨hz,its,c',r',e⟩),rfl,q _ (I.hok.fresh (hA9 _))⟩
 rcases hq with hq|hq
 ·obtain⟨its,r',pl,hz⟩:=I.list hq;have hlen:=r'.length;obtain⟨o,ho,hc,n,hd⟩:=pl.isList;exact call_list_seq p (.inl rfl) ho hc hd (λh' c' kp e=>fin its r' hz h' c' kp e) (by simp only[hAk] <;> omega)
 ·obtain⟨its,r',pl,hz⟩:=I.tuple hq;have hlen:=r'.length;obtain⟨o,ho,hc,n,hd⟩:=pl;exact call_list_seq p (.inr rfl) ho hc hd (λh' c' kp e=>fin its r' hz h' c' kp e) (by simp only[hAk] <;> omega)
theorem qF2:qCm X (.type "tuple") (λxs H Q=>∃p ys,xs=[.ref p]/\((SqL X.K H p ys/\∀l,H l=none->Q (.ref l) (upd H l (.tup ys)))\/(SqT X.K H p ys/\Q (.ref p) H))):=by
 intro aB s σ H xs us Q I r h;obtain⟨p,ys,rfl,h⟩:=h;obtain⟨u,rfl,rx⟩:=qCy r;cases rx;rcases h with ⟨hq,q⟩|⟨hq,q⟩
 ·obtain⟨its,r',pl,hz⟩:=I.list hq;have hlen:=r'.length;refine call_tuple_list pl.isList (λh' kp=>?_) (by simp only[hAk] <;> omega);have I1:Inv X aB σ H { s with heap:=h' }:=I.kept (t':=s.toks) kp;have I2:Inv X aB σ (upd H h'.objs.size (.tup ys)) { s with heap:=h'.push { cls:=.type "tuple",data:=.seq its.toArray } } :=
   I1.laid (t':=s.toks) (λb o e=>Heap.get?_push_of_some _ e) (hA9 _) (show qC0 X.prog X.w _ _ _ (.tup ys) from ⟨hz,its,r',IsTup.new _ _⟩)
  exact⟨.ref h'.objs.size,_,I2,rfl,q _ (I1.hok.fresh (hA9 _))⟩
 ·obtain⟨its,r',pl,hz⟩:=I.tuple hq;exact call_tuple_same pl ⟨.ref p,H,I,rfl,q⟩
def tyV(K:PySem.W.Frag)(T:String)(x:V)(H:Hp):Prop:=match x with
 |.str _=>T = "str"
 |.int _=>T = "int"
 |.ref p=>(T = "list"/\∃xs,SqL K H p xs)\/(T = "tuple"/\∃o,K.lookup p=some o/\o.cls = .type "tuple"/\o.dict=none) \/
   (T = "dict"/\((∃kvs,H p=some (.dK kvs))\/∃kvs,H p=some (.dT kvs)))\/(T = "set"/\∃S n,H p=some (.set S n))
 |_=>False
theorem qYe(I:Inv X aB σ H s)(r:qDa x v)(ty:tyV X.K T x H) :
  s.TypeIs v T/\∀a,v = .ref a->∃ob,s.heap.get? a=some ob/\ob.dict=none:=by
 cases x with
 |str z =>
  obtain⟨t,rfl⟩:=r;cases(show T = "str" from ty);exact⟨typeIs_str s z t,λ_ e=>nomatch e⟩
 |int i =>
  obtain⟨t,rfl⟩:=r;cases(show T = "int" from ty);exact⟨typeIs_int s i t,λ_ e=>nomatch e⟩
 |ref p =>
  cases r;rcases ty with ⟨rfl,xs,hq⟩|⟨rfl,o,hk,hc,hd⟩|⟨rfl,hk⟩|⟨rfl,S,n,hk⟩
  ·obtain⟨its,_,pl,_⟩:=I.list hq;refine⟨pl.isList.typeIs,λa e=>?_⟩;cases e;obtain⟨o,n,e,c,hd,_⟩:=pl;exact⟨o,e,hd⟩
  ·refine⟨⟨o,I.kIn p o hk,hc⟩,λa e=>?_⟩;cases e;exact⟨o,I.kIn _ o hk,hd⟩
  ·have z:∃o,s.heap.get? p=some o/\o.ExactDict:=by
    rcases hk with ⟨kvs,hk⟩|⟨kvs,hk⟩
    ·obtain⟨_,_,_,_,o,_,_,e,ex,_⟩:=I.hok p _ hk;exact⟨o,e,ex⟩
    ·obtain⟨_,_,_,_,o,_,_,e,ex,_⟩:=I.hok p _ hk;exact⟨o,e,ex⟩
   obtain⟨o,e,ex⟩:=z;refine⟨⟨o,e,ex.1⟩,λa e2=>?_⟩;cases e2;exact⟨o,e,ex.2.1⟩
  ·obtain⟨o,_,_,_,e,ex,_⟩:=I.hok p _ hk;refine⟨⟨o,e,ex.1⟩,λa e2=>?_⟩;cases e2;exact⟨o,e,ex.2.1⟩
 |_=>exact False.elim ty
def zHe(K:PySem.W.Frag)(T:String)(r:V->List V->Hp->VK->Prop)(to:TE):TE:=λσ H Q=>to σ H λx H1=>tyV K T x H1/\r x [] H1 Q
def tBM(K:PySem.W.Frag)(T:String)(r:V->List V->Hp->VK->Prop)(to:TE)(t:TA):TE:=λσ H Q=>to σ H λx H1=>tyV K T x H1/\t σ H1 λxs H2=>r x xs H2 Q
variable{o e:Expr}{es:List Expr}{to:TE}{t:TA}{name:Str}{apos cpos:Pos}{T id:String}{r:V->List V->Hp->VK->Prop}
theorem zD9(pa:PlainAttrs T)(slot:Slot T name id)(hty:typeOf (.builtin id)=pure (.type "method_descriptor"))(hm:MtR X id r)(ho:PE X o to)
  (hbase:attributeBase o name X.env (eval o X.env)=eval o X.env:=by rfl) (hline:(apos.endLine == cpos.line)=true:=by rfl):PE X (.Call (.Attribute o name apos) [] [] cpos) (zHe X.K T r to):=by
 intro aB s σ H Q I h;refine wpAny_Call_method0_late hbase hline (thn (ho aB s σ H _ I h) λv s1 ⟨x,H1,I1,r1,ty,q1⟩=>?_);obtain⟨h1,h2⟩:=qYe I1 r1 ty;exact⟨T,id,pa,slot,hty,h1,h2,Calls.callWith_builtin rfl (PySem.evalArgs_none (hm aB s1 σ H1 x [] v [] Q I1 r1 .nil q1))⟩
theorem qEb(pa:PlainAttrs T)(slot:Slot T name id)(hty:typeOf (.builtin id)=pure (.type "method_descriptor"))(hm:MtR X id r)(ho:PE X o to)(ha:PA X (e :: es) t)
  (hbase:attributeBase o name X.env (eval o X.env)=eval o X.env:=by rfl)
  (hfew:((backTo cpos (starEach (e :: es) X.env)).all (λx=>!x.1) && (backToKw cpos (keywordEach [] X.env)).all (λx=>x.1.isSome)
   && decide ((e :: es).length+([]:List Keyword).length+(if ([]:List Keyword).isEmpty then 0 else 1)<30))=true:=by rfl)
  (hline:(apos.endLine == cpos.line)=true:=by rfl) (hs:starEach (e :: es) X.env=(false,eval e X.env) :: starEach es X.env:=by rfl) (hplain:(backTo cpos (starEach es X.env)).any (·.1)=false:=by rfl) :
  PE X (.Call (.Attribute o name apos) (e :: es) [] cpos) (tBM X.K T r to t):=by
 intro aB s σ H Q I h;refine wpAny_Call_method_late hbase hfew hline rfl (thn (ho aB s σ H _ I h) λv s1 ⟨x,H1,I1,r1,ty,q1⟩=>?_);obtain⟨h1,h2⟩:=qYe I1 r1 ty;refine⟨T,id,pa,slot,hty,h1,h2,?_⟩;have hA:=ha cpos aB s1 σ H1 _ I1 q1;rw[hs]at hA ⊢;refine Calls.callWith_builtin (by show(false || (backTo cpos (starEach es X.env)).any (·.1))=false;rw[hplain] <;> rfl) (Calls.evalArgs_plain ?_);exact thn hA λus s2 ⟨vs,H2,I2,r2,q2⟩=>hm aB s2 σ H2 x vs v us Q I2 r1 r2 q2
end
def MtM(X:Cx)(id:String)(r:V->List V->Hp->VK->Prop):Prop :=
 ∀(aB:List vH) (s:Shared) (σ:St) (H:Hp) (x:V) (xs:List V) (v:Value) (us:List Value) (Q:VK),Inv X aB σ H s->qDa x v->qBx xs us->r x xs H Q ->
  wpAny vD X.A (call (.builtin id) (v :: us)) (EP X aB σ Q) X.xe s
theorem qBx.one:∀ {x:V} {us:List Value},qBx [x] us->∃u,us=[u]/\qDa x u
 |_,_,.cons r .nil=>⟨_,rfl,r⟩
theorem qBx.zero:∀ {us:List Value},qBx [] us->us=[]
 |_,.nil=>rfl
theorem qBx.eraseIdx:∀ {xs:List V} {us:List Value} (i:Nat),qBx xs us->qBx (xs.eraseIdx i) (us.eraseIdx i)
 |_,_,_,.nil=>.nil
 |_,_,0,.cons _ t=>t
 |_,_,i+1,.cons r t=>.cons r (qBx.eraseIdx i t)
theorem qL8:∀(l:List α) (i:Nat),(l.eraseIdx i).length<=l.length
 |[],_=>hA9 _
 |_ :: _,0=>hBq _
 |_ :: r,i+1=>hD0 (qL8 r i)
section
variable{X:Cx}{aB:List vH}{σ:St}{H:Hp}{s:Shared}{l b:Addr}{xs ys zs:List V}
theorem Inv.lset{its its':List Value}{n:Nat}{f:Array Value->Array Value}{t':Nat}(I:Inv X aB σ H s)(hH:H l=some (.lst xs))
  (e:s.heap.get? l=some { cls:=.type "list",data:=.seq its.toArray n }) (hf:f its.toArray=its'.toArray) (hv:qBx ys its') (hz:ys.length<=sizeLine) :
  Inv X aB σ (upd H l (.lst ys)) { s with heap:=s.heap.update l (Obj.mapSeq f),toks:=t' }:=by
 have q:=PySem.IsL.update e f;rw[hf]at q;refine I.write (x:=l) (e:=l) (by rw[hH];exact trivial) (.inl rfl) (λb' u hb hu=>(Heap.get?_update_other s.heap (Obj.mapSeq f) (Ne.symm hb)).trans hu) ⟨_,q⟩ ?_;exact⟨hz,its',_,hv,q⟩
theorem Inv.lnew(I:Inv X aB σ H s)(hv:qBx ys its)(hz:ys.length<=sizeLine) :
  Inv X aB σ (upd H s.heap.objs.size (.lst ys)) { s with heap:=s.heap.push { cls:=.type "list",data:=.seq its.toArray },toks:=t' } :=
 I.laid (λ_ _ q=>Heap.get?_push_of_some _ q) (hA9 _) ⟨hz,its,0,hv,Heap.get?_push_size _ rfl⟩
theorem Inv.fresh(I:Inv X aB σ H s):H s.heap.objs.size=none:=I.hok.fresh (hA9 _)
theorem Inv.lstM(I:Inv X aB σ H s)(hH:H l=some (.lst xs)):xs.length<=sizeLine/\∃(its:List Value) (n:Nat),qBx xs its/\xs.length=its.length/\s.heap.get? l=some { cls:=.type "list",data:=.seq its.toArray n }:=by
 obtain⟨z,its,n,r,e⟩:=I.hok l _ hH;exact⟨z,its,n,r,r.length,e⟩
end
section
variable{X:Cx}
def zAz:V->List V->Hp->VK->Prop:=λx vs H Q=>∃l xs y,x = .ref l/\vs=[y]/\H l=some (.lst xs)/\xs.length<sizeLine/\Q .non (upd H l (.lst (xs++[y])))
theorem qBz:MtM X "list.append" zAz:=by
 intro aB s σ H x vs v us Q I rx rv h;obtain⟨l,xs,y,rfl,rfl,hH,hz,q⟩:=h;cases rx;obtain⟨u,rfl,ru⟩:=rv.one;obtain⟨z,its,n,r,hl,e⟩:=I.lstM hH;refine hFj F.slot_list_append ⟨_,e,rfl⟩ F.entry_list_append (F.args_list_append_2 _ _) (PySem.list_append l its.toArray n u (by rw[hAk];omega)) ⟨e,?_⟩;refine⟨.non,_,I.lset (its':=its++[u]) hH e vI (r.append (.cons ru .nil)) ?_,rfl,q⟩;rw[hAf,List.length_singleton];omega
def zD2:V->List V->Hp->VK->Prop:=λx vs H Q=>∃l xs i k y,x = .ref l/\vs=[.int i]/\H l=some (.lst xs)/\-(2^63)<=i/\i<2^63/\seqIndex? i xs.length=some k/\xs[k]?=some y/\Q y (upd H l (.lst (xs.eraseIdx k)))
theorem qP0:MtM X "list.pop" zD2:=by
 intro aB s σ H x vs v us Q I rx rv h;obtain⟨l,xs,i,k,y,rfl,rfl,hH,h1,h2,hk,hy,q⟩:=h;cases rx;obtain⟨u,rfl,ru⟩:=rv.one;obtain⟨t,rfl⟩:=ru;obtain⟨z,its,n,r,hl,e⟩:=I.lstM hH;obtain⟨w,hw,rw'⟩:=r.get hy;refine hFj F.slot_list_pop ⟨_,e,rfl⟩ F.entry_list_pop (F.args_list_pop_2 _ _)
  (MeetsSeq.list_pop_at l its.toArray n i t k w (fitsIndex_both h1 h2) (by rw[hAk,<-hl];exact hk) (by rw[<-hBi];exact hw) (by rw[hAk];omega)) ⟨e,?_⟩
 refine⟨y,_,I.lset (its':=its.eraseIdx k) hH e ?_ (r.eraseIdx k) ?_,rw',q⟩
 ·show its.toArray.eraseIdxIfInBounds k=(its.eraseIdx k).toArray;rw[List.eraseIdxIfInBounds_toArray]
 ·have:=qL8 xs k;omega
def rClear:V->List V->Hp->VK->Prop:=λx vs H Q=>∃l xs,x = .ref l/\vs=[]/\H l=some (.lst xs)/\Q .non (upd H l (.lst []))
theorem qXn:MtM X "list.clear" rClear:=by
 intro aB s σ H x vs v us Q I rx rv h;obtain⟨l,xs,rfl,rfl,hH,q⟩:=h;cases rx;have hus:=rv.zero;subst hus;obtain⟨z,its,n,r,hl,e⟩:=I.lstM hH;refine hFj F.slot_list_clear ⟨_,e,rfl⟩ F.entry_list_clear (F.args_list_clear_1 _) (AutoSeq1.list_clear_list_0 l its.toArray n (by rw[hAk];omega)) ⟨e,?_⟩;exact⟨.non,_,I.lset (its':=[]) (ys:=[]) hH e rfl .nil (hAt _),rfl,q⟩
def zHk:R2:=λx y H Q=>∃l b xs zs,x = .ref l/\y = .ref b/\H l=some (.lst xs)/\H b=some (.lst zs)/\xs.length+zs.length<=sizeLine/\∀p,H p=none->Q (.ref p) (upd H p (.lst (xs++zs)))
theorem qCi:OpR X (binaryOp .Add) zHk:=by
 intro aB s σ H x y v u Q I rx ry h;obtain⟨l,b,xs,zs,rfl,rfl,hH,hB,hz,q⟩:=h;cases rx;cases ry;obtain⟨z,its,n,r,hl,e⟩:=I.lstM hH;obtain⟨z2,its2,n2,r2,hl2,e2⟩:=I.lstM hB;refine PySem.P.add_list e e2 ?_ (by rw[hAk,hAk];omega);have ea:its.toArray++its2.toArray=(its++its2).toArray:=by simp
 rw[ea];exact⟨.ref _,_,I.lnew (t':=s.toks) (r.append r2) (by rw[hAf];omega),rfl,q _ I.fresh⟩
end
end L2
namespace Att
open PySem PySem.W PySem.Calls PyProof.Rows
theorem qIg:∀(ns:List Int) (vs:List Value),WellAll P h vs (ns.map WData.int)->IntsAre vs ns:=by
 intro ns
 induction ns with
 |nil =>
  intro vs w;rw[List.map_nil]at w;cases w;exact .nil
 |cons n ns ih =>
  intro vs w;rw[hBm]at w;cases w with
  |cons a b =>
   cases a;exact .cons _ _ (ih _ b)
theorem qSm{l:OpenLaw}{n:Nat}(hn:l.most=some n){P:Params}{h:Heap}{args:List WData}{vals:List Value}
  (hpre:l.row.toRowW.claim.pre args=true) (hwl:WellAll P h vals args) :
  ∃a vs ns,vals=[Value.ref a]/\args=[WData.list (ns.map WData.int)]/\h.get? a=some { cls:=.type "list",data:=.seq vs.toArray }/\IntsAre vs ns/\ns.length<=n:=by
 have hsh:WShape.hasAll [] args [.list .int]=true:=(pre_splitW hpre).1;have hc:l.pre.holds [] { args:=args }=true:=(pre_splitW hpre).2;obtain⟨d,r,rfl,h1,h2⟩:=hasAllW_cons hsh;obtain rfl:=hasAllW_nil h2;obtain⟨xs,rfl,h3⟩:=hasW_list h1;obtain⟨ns,rfl⟩:=items_int h3;have hlen:ns.length<=n:=by
  unfold OpenLaw.pre at hc;have h4:(WTm.not (.lt (.lit (.int (n:Int))) (.len (.arg 0)))).holds [] { args:=[.list (ns.map .int)] }=true:=by
   have h4:=(holds_andW hc).1;rw[hn]at h4;exact h4
  have h5:=condW_of h4 (w_not (w_lt w_lit (w_len_list (w_arg rfl))));rw[hA1]at h5;refine Nat.le_of_not_lt λq=>?_
  have q':(n:Int)<((ns.length:Nat):Int):=by omega
  first
   |(rw[hEf q']at h5;exact absurd h5 (by decide))
   |(simp at h5;omega)
 cases hwl with
 |cons w1 w2 =>
  cases w2;cases w1 with
  |list ho hall=>exact⟨_,_,ns,rfl,rfl,ho,qIg ns _ hall,hlen⟩
theorem qTd(l:OpenLaw)(args:List WData):l.row.toRowW.claim.post args (.bool true) args=true :=
 postW_of (r:=l.row.toRowW) (X:=(true == true))
  (show WShape.has [] (.bool true) .bool=true by first|rfl|decide|simp[WShape.has,WShape.arms,WShape.armsAll])
  (show(WTm.eq .res (.lit (.bool true))).value [] { args:=args,res:=some (.bool true),after:=args }=some (.bool (true == true)) from w_eq_bool (w_res rfl) w_lit) rfl
theorem attach_call{l:OpenLaw}{n:Nat}{q:Program}{loose:List Str}{XP:(Str->Option Value)->Heap->Prop}{YP:World->Heap->Prop}{d:DefRec}
  (hn:l.most=some n) (hdf:d.params.defaults=[])
  (call:∀(w:World) (s₀ s₁:Shared) (mg mb:Str->Option Value) (fa:Addr) (o:Obj) (pm cd doc:Value) (a:Addr) (vs:List Value) (ns:List Int),
   Ground q loose [] XP w s₀ mg mb s₁.heap->YP w s₁.heap ->
   s₁.heap.get? fa=some o->o.data = .func (docDef d.name d.params d.body d.scope pm cd doc)->s₁.heap.CodeRec cd d.name->mg d.name=some (.ref fa) ->
   s₁.heap.get? a=some { cls:=.type "list",data:=.seq vs.toArray }->IntsAre vs ns->ns.length<=n->s₁.gens=#[] ->
   codeAny (model l.prog w) callerA (.call (.ref fa) ⟨[.ref a],[]⟩) (λr s'=>r = .ok (.ret (.bool true))/\OldK s₁.heap s'.heap/\s'.os=s₁.os/\AllBare s'.gens) s₁) :
  WalkO q loose XP YP l.row.toRowW d [] (λf vs=>PySem.call f vs):=by
 intro w s₀ s₁ mg mb G Y fa o pm cd doc dV kV ho hd hcd hD hmg hg args vals as hpre hlay hrd hwl hlo;obtain rfl:dV = .none:=Dflts.none hD hdf;obtain rfl:kV = .none:=Dflts.noKw hD;obtain⟨a,vs,ns,rfl,rfl,hobj,hints,hlen⟩:=qSm hn hpre hwl;refine enter_call (hF9 (call w s₀ s₁ mg mb fa o pm cd doc a vs ns G Y ho (fd_plain hd) hcd hmg hobj hints hlen hg) λr s' hq=>?_);obtain⟨rfl,h2,h3,h4⟩:=hq;exact⟨.inl ⟨.bool true,.bool true,[],rfl,λ_=>rfl,.bool true,qTd l _,λ_=>⟨List.Pairwise.nil,λ_ hm=>(nomatch hm)⟩⟩,h2,h3,h4⟩
section
variable{prog:Program}{w:World}{A:Around}{E:Value->Shared->Prop}{s:Shared}{K:Frag}
noncomputable def zG3(h:Heap)(L d:Addr):List vH:=(List.range h.objs.size).filterMap λa=>if a=L\/a=d then none else (h.get? a).map λo=>(a,o)
end
end Att
namespace L2
open PySem PySem.Spec PyProof.Rows
theorem qLa:∀ {vs:List Value} {ns:List Int},IntsAre vs ns->qBx (ns.map V.int) vs
 |_,_,.nil=>.nil
 |_,_,.cons n t h=>.cons ⟨t,rfl⟩ (qLa h)
end L2
namespace L2
open PySem PySem.Spec PyProof.Rows
noncomputable def qDm(s:Stmt):Arguments:=match s with
 |.FunctionDef _ a _ _ _ _ _ _ _ _=>a
 |_=>{ posonlyargs:=[],args:=[],vararg:=none,kwonlyargs:=[],kw_defaults:=[],kwarg:=none,defaults:=[] }
def qCb(s:Stmt):List Stmt:=match s with
 |.FunctionDef _ _ b _ _ _ _ _ _ _=>b
 |_=>[]
noncomputable def qAc(s:Stmt):Scope:=match s with
 |.FunctionDef _ _ _ _ _ _ sc _ _ _=>sc
 |_=>{ kind:=.function,names:=[],isGenerator:=false,isCoroutine:=false }
abbrev CX0:CXT:=λ_ _ _ _ _ _=>False
abbrev E0:XK:=λ_ _ _=>False
theorem qAv:qQ3 CX0 X E0:=λ_ _ _ _ _ _ _ h=>h.elim
structure Fun(K:PySem.W.Frag)(x qual:Str)(st:Stmt)(f:Addr)(fd:FuncData):Prop where
 ex:∃(oc:Value) (od:Option Addr) (kV doc pm:Value) (an:Option Addr) (cdv ct:Value) (osl:Array (Option Value)),
  fd=PySem.W.fnOf x qual (qDm st) (qCb st) (qAc st) .none kV doc pm an cdv ct/\K.lookup f=some ⟨oc,od,.func fd,osl⟩/\PySem.W.codeIn K cdv qual=true
 kp:PySem.W.keepIn K (.ref f)=true
section
variable{P:Program}{w:World}{K:PySem.W.Frag}{mg:Str->Option Value}{base:Heap}
theorem Fun.ok{x qual:Str}{st:Stmt}{f:Addr}{fd:FuncData}{N ps:List Str}{k:Nat}{sp:Sp}(F:Fun K x qual st f fd)(S:FnScope N ps (qAc st))(len:∀vs H Q E,sp vs H Q E->vs.length=ps.length)
  (hbody:∀(cdv:Value) (A:Around) (outer:List Env) (s:Shared) (H:Hp) (vs:List V) (Q:VK) (E:XK),Room k (A.deeper (envOfC qual (qAc st) s.heap.objs.size f cdv))->sp vs H Q E ->
   ∃t,PSs (qQp CX0 P w K mg base N qual (qAc st) f cdv A outer s H E).nox (qCb st) t/\t { nx:=λ_ H'=>Q .non H',rt:=Q } (start N vs) H):v8 (k+1) f fd ps sp:=by
 obtain⟨oc,od,kV,doc,pm,an,cdv,ct,osl,rfl,lk,hcd⟩:=F.ex;refine zE3 lk hcd S len λA outer s H vs Q E hr hsp=>?_
 obtain⟨t,h,q⟩:=hbody cdv A outer s H vs Q E hr hsp;exact⟨t,h.nox,q⟩
theorem Fun.okA{x qual:Str}{st:Stmt}{f:Addr}{fd:FuncData}{N ps:List Str}{k:Nat}{sp:Sp}(F:Fun K x qual st f fd)(S:FnScope N ps (qAc st))
  (hbody:∀(cdv:Value) (A:Around) (outer:List Env) (s:Shared) (H:Hp) (vs:List V) (Q:VK) (E:XK),Room k (A.deeper (envOfC qual (qAc st) s.heap.objs.size f cdv))->sp vs H Q E ->
   ∃t,PSs (qQp CX0 P w K mg base N qual (qAc st) f cdv A outer s H E).nox (qCb st) t/\t { nx:=λ_ H'=>Q .non H',rt:=Q } (start N vs) H)
  (len:∀vs H Q E,sp vs H Q E->vs.length=ps.length:=by exact kO1):v8 (k+1) f fd ps sp:=Fun.ok F S len hbody
theorem Fun.binds{x qual:Str}{st:Stmt}{f:Addr}{fd:FuncData}{ps:List Str}(F:Fun K x qual st f fd)
  (h:∀(kV doc pm:Value) (an:Option Addr) (cdv ct:Value) (us:List Value),us.length=ps.length->bindArgs (PySem.W.fnOf x qual (qDm st) (qCb st) (qAc st) .none kV doc pm an cdv ct) ⟨us,[]⟩=pure (ps.zip us)):qOu K fd ps []:=by
 obtain⟨oc,od,kV,doc,pm,an,cdv,ct,osl,rfl,lk,hcd⟩:=F.ex;exact .all (h kV doc pm an cdv ct)
theorem qQd{x qual:Str}{st:Stmt}{f:Addr}{oc:Value}{od an:Option Addr}{osl:Array (Option Value)}{kV doc pm cdv ct:Value}(l:K.lookup f=some ⟨oc,od,.func (PySem.W.fnOf x qual (qDm st) (qCb st) (qAc st) .none kV doc pm an cdv ct),osl⟩)
  (c:PySem.W.codeIn K cdv qual=true) (k:PySem.W.keepIn K (.ref f)=true):Fun K x qual st f (PySem.W.fnOf x qual (qDm st) (qCb st) (qAc st) .none kV doc pm an cdv ct):=⟨⟨oc,od,kV,doc,pm,an,cdv,ct,osl,rfl,l,c⟩,k⟩
end
theorem qAf(h:n<=1000):n<sizeLine:=hDa h (by decide)
section
variable{X:Cx}
theorem pv(i:Nat)(hN:X.N[i]?=some x:=by rfl)(hv:Vis X.env.scope x:=by exact kO3)(hd:(x == ("__debug__" : Str))=false:=by decide)
  (hcd:(x == ("__classdict__" : Str))=false:=by decide):PE X (.Name x pos) (qR0 i):=zD7 hN hv hd hcd
end
theorem qG5{A B:Prop}(h:B):if false=true then A else B:=by
 rw[hEj hB3];exact h
theorem iteT{A B:Prop}(h:A):if true=true then A else B:=by
 rw[hEk rfl];exact h
theorem qBw{c A B:Prop}[Decidable c](h1:c->A)(h2:¬c->B):if c then A else B:=by
 by_cases h:c
 ·rw[hEk h];exact h1 h
 ·rw[hEj h];exact h2 h
end L2
set_option linter.all false
namespace L2
open PySem PySem.Spec PyProof.Rows
structure M1(X:Cx)(o:Expr)(m:Str)(apos:Pos)(e:Expr)(cpos:Pos):Prop where
 base:attributeBase o m X.env (eval o X.env)=eval o X.env
 few:((backTo cpos (starEach [e] X.env)).all (λx=>!x.1) && (backToKw cpos (keywordEach [] X.env)).all (λx=>x.1.isSome)
  && decide (([e]:List Expr).length+([]:List Keyword).length+(if ([]:List Keyword).isEmpty then 0 else 1)<30))=true
 line:(apos.endLine == cpos.line)=true
 trees:backTo cpos (starEach [e] X.env)=[(false,eval e X.env)]
structure M2(X:Cx)(o:Expr)(m:Str)(apos:Pos)(e f:Expr)(cpos:Pos):Prop where
 base:attributeBase o m X.env (eval o X.env)=eval o X.env
 few:((backTo cpos (starEach [e,f] X.env)).all (λx=>!x.1) && (backToKw cpos (keywordEach [] X.env)).all (λx=>x.1.isSome)
  && decide (([e,f]:List Expr).length+([]:List Keyword).length+(if ([]:List Keyword).isEmpty then 0 else 1)<30))=true
 line:(apos.endLine == cpos.line)=true
 trees:backTo cpos (starEach [e,f] X.env)=[(false,eval e X.env),(false,eval f X.env)]
noncomputable def qDn(cells:List (Str×Addr)):List (Str×NameKind)->List (Str×Addr)->List (Str×Addr)
 |[],acc=>acc
 |(n,k) :: r,acc=>if k == .free then qDn cells r ((n,(cells.lookup n).getD 0) :: acc) else qDn cells r acc
theorem qJg(env:Env)(f:Str×NameKind->List (Str×Addr)->Sem (ForInStep (List (Str×Addr))))
  (hf:∀n k cs,f (n,k) cs=if k == .free then (do let a ← cellOf env n;pure (.yield ((n,a) :: cs))) else pure (.yield cs)) :
  ∀(aA:List (Str×NameKind)) (acc:List (Str×Addr)),(∀x∈aA,x.2 = .free->∃c,env.cells.lookup x.1=some c)->forIn aA acc f=pure (qDn env.cells aA acc)
 |[],acc,_=>by rw[List.forIn_nil];rfl
 |(n,k) :: r,acc,h=>by
  have ih:=qJg env f hf r;rw[List.forIn_cons,hf];unfold qDn;by_cases hk:(k == NameKind.free)=true
  ·rw[hEk hk,hEk hk];obtain⟨c,hc⟩:=h (n,k) hA8 (by simpa using hk);have e:cellOf env n=pure c:=by unfold cellOf;rw[hc]
   rw[e,hc];exact ih _ λx hx=>h x (hA6 _ hx)
  ·rw[hEj hk,hEj hk];exact ih _ λx hx=>h x (hA6 _ hx)
theorem qK3(h:∀x∈scope.names,x.2 = .free->∃c,env.cells.lookup x.1=some c):closureFor scope env=pure (qDn env.cells scope.names []):=by
 simp only[closureFor];rw[qJg env _ (λn k cs=>by cases hk:k == NameKind.free <;> simp[hk]) scope.names [] h];rfl
theorem qIr:∀ {aA:List (Str×NameKind)} {acc:List (Str×Addr)} {x:Str} {c:Addr},(x,c)∈qDn cells aA acc->(x,c)∈acc\/((x,NameKind.free)∈aA/\c=(cells.lookup x).getD 0)
 |[],acc,x,c,h=>.inl h
 |(n,k) :: r,acc,x,c,h=>by
  unfold qDn at h;by_cases hk:(k == NameKind.free)=true
  ·rw[hEk hk]at h;rcases qIr h with q|⟨q,e⟩
   ·rcases hAj.mp q with z|z
    ·cases z;exact .inr ⟨by rw[show NameKind.free=k from (by simpa using hk:k=NameKind.free).symm];exact hA8,rfl⟩
    ·exact .inl z
   ·exact .inr ⟨hA6 _ q,e⟩
  ·rw[hEj hk]at h;rcases qIr h with q|⟨q,e⟩
   ·exact .inl q
   ·exact .inr ⟨hA6 _ q,e⟩
theorem qG4{α:Type}{x n:Str}{c:α}{l:List (Str×α)}(h:(l.lookup x).isSome=true):(((n,c) :: l).lookup x).isSome=true:=by
 rw[hDc];cases x == n <;> simp[h]
theorem qGo{cells:List (Str×Addr)}{x:Str}:∀ {aA:List (Str×NameKind)} {acc:List (Str×Addr)},((x,NameKind.free)∈aA\/(acc.lookup x).isSome=true)->((qDn cells aA acc).lookup x).isSome=true
 |[],acc,h=>by
  rcases h with h|h
  ·cases h
  ·exact h
 |(n,k) :: r,acc,h=>by
  unfold qDn;by_cases hk:(k == NameKind.free)=true
  ·rw[hEk hk];refine qGo ?_;rcases h with h|h
   ·rcases hAj.mp h with z|z
    ·cases z;exact .inr (by rw[hDc];simp)
    ·exact .inl z
   ·exact .inr (qG4 h)
  ·rw[hEj hk];refine qGo ?_;rcases h with h|h
   ·rcases hAj.mp h with z|z
    ·cases z;exact absurd rfl hk
    ·exact .inl z
   ·exact .inr h
theorem qD5:∀ {aA:List (Str×NameKind)} {n:Nat} {acc:List (Str×Addr)} {x:Str} {c:Addr},(x,c)∈cellsFrom n aA acc->(x,c)∈acc\/(x,NameKind.cell)∈aA
 |[],_,_,_,_,h=>.inl h
 |(y,k) :: r,n,acc,x,c,h=>by
  unfold cellsFrom at h;by_cases hk:(k == NameKind.cell)=true
  ·rw[hEk hk]at h;rcases qD5 h with q|q
   ·rcases hAj.mp q with z|z
    ·cases z;exact .inr (by rw[show NameKind.cell=k from (by simpa using hk:k=NameKind.cell).symm];exact hA8)
    ·exact .inl z
   ·exact .inr (hA6 _ q)
  ·rw[hEj hk]at h;rcases qD5 h with q|q
   ·exact .inl q
   ·exact .inr (hA6 _ q)
structure CellsTwo(h:Heap)(lo:Nat)(acc cs:List (Str×Addr)):Prop where
 part:∀x c,(x,c)∈cs->(x,c)∈acc\/(h.IsCell c none/\lo<=c)
 inj:∀x y c,lo<=c->(x,c)∈cs->(y,c)∈cs->x=y
theorem qD4:∀(aA:List (Str×NameKind)) (h:Heap) (lo:Nat) (acc:List (Str×Addr)),CellsTwo h lo acc0 acc->(∀x c,(x,c)∈acc->c<h.objs.size)->lo<=h.objs.size ->
  CellsTwo (pushCells h aA) lo acc0 (cellsFrom h.objs.size aA acc)
 |[],_,_,_,x,_,_=>x
 |(name,kind) :: r,h,lo,acc,x,hl,hlo=>by
  unfold pushCells cellsFrom;split
  ·have:=qD4 (acc0:=acc0) r (h.push { cls:=.type "cell",data:=.cell none }) lo ((name,h.objs.size) :: acc)
    ⟨λn c hm=>by
      rcases hAj.mp hm with e|hm
      ·cases e;exact .inr ⟨⟨_,Heap.get?_push_size _ rfl,rfl⟩,hlo⟩
      ·rcases x.part n c hm with q|q
       ·exact .inl q
       ·exact .inr ⟨q.1.keeps λb o e=>Heap.get?_push_of_some _ e,q.2⟩,
     λa b c hc h1 h2=>by
      rcases hAj.mp h1 with e1|h1 <;> rcases hAj.mp h2 with e2|h2
      ·cases e1;cases e2;rfl
      ·cases e1;exact absurd (hl _ _ h2) (hCv _)
      ·cases e2;exact absurd (hl _ _ h1) (hCv _)
      ·exact x.inj a b c hc h1 h2⟩
    (λn c hm=>by
     rw[Heap.size_push];rcases hAj.mp hm with e|hm
     ·cases e;exact hC8 _
     ·exact hC1 (hl n c hm)) (by rw[Heap.size_push];omega)
   rwa [Heap.size_push]at this
  ·exact qD4 r h lo acc x hl hlo
noncomputable def qE6(env:Env)(scope:Scope)(C:Addr):Env :=
 { scope:=relabel scope env,locals:=C,globals:=env.globals,cells:=cellsFrom (C+1) scope.names (qDn env.cells scope.names []),qual:=env.qual,func:=none,code:=env.code,frame:=env.frame,builtins:=env.builtins }
theorem qJk
  (hQ:Q { scope:=scope,locals:=s.heap.objs.size,globals:=env.globals,cells:=cellsFrom (s.heap.objs.size+1) scope.names cl,qual:=env.qual,func:=none,code:=env.code,frame:=env.frame,builtins:=env.builtins }
   { s with heap:=pushCells (s.heap.push { cls:=.type "dict",data:=.dict #[] }) scope.names }) :
  wpAny M A (newFunctionEnv scope env.globals cl [] env.qual none .none (some env)) Q E s:=by
 simp only[newFunctionEnv,Option.isSome_some,if_true];refine hEe (wpAny_alloc ?_);refine hEe (wpAny_layCells _ (λname kind cells=>by cases hkc:kind == NameKind.cell <;> simp[hkc]) _ _ _ _ ?_);rw[show({ s with heap:=s.heap.push { cls:=.type "dict",data:=.dict #[] } }:Shared).heap.objs.size=s.heap.objs.size+1 from Heap.size_push ..];rw[List.forIn_nil];exact hEe (hEh (hEh hQ))
theorem qMn(I:Nat->Shared->Prop)
  (turn:∀n s,I n s->wpAny (model prog w) A (pyNext it) (λr s₁=>match r with
   |none=>R (.ok .next) s₁
   |some v=>wpAny (model prog w) A (letOwnedTupleGo target it v) (λ_ s₁'=>wpAny (model prog w) A (assign target env v) (λ_ s₂ =>
     wpAny (model prog w) A (forIn ifs true λc r=>if r=true then do let ok ← isTrue c env (eval c env);pure (ForInStep.yield ok) else pure (ForInStep.yield r)) (λok s₃ =>
      if ok=true then wpAny (model prog w) A (eval elt env) (λx s₄ =>
       wpAny (model prog w) A (call (.builtin "list.append") [acc,x]) (λ_ s₅=>∃m,m<n/\I m s₅) (λ_ _=>False) s₄) (λ_ _=>False) s₃
      else ∃m,m<n/\I m s₃) (λ_ _=>False) s₂) (λ_ _=>False) s₁') (λ_ _=>False) s₁) (λ_ _=>False) s)
  (n:Nat) (h:I n s) :
  codeAny (model prog w) A (.compLoop (.ListComp elt [⟨target,iter,ifs,0⟩] scope pos) 0 it acc env) R s:=by
 refine codeAny_loop rfl I (λn s hI=>?_) n h;show wpAny _ A ((compTurn (.ListComp elt [⟨target,iter,ifs,0⟩] scope pos) 0 it acc env).onRaise (λx=>do noteFrame x env;theTreesLotGoes x)) _ _ s;refine wpAny_noted ?_;rw[compTurn_list];refine hEe (wpAny_standAt (hEe (hEq (turn n s hI) (λr s₁ h₁=>?_) λ_ _ h'=>h'.elim)));cases r with
 |none=>exact hEh h₁
 |some v =>
  refine hEe (hEq h₁ (λ_ s₁' h₁=>?_) λ_ _ h'=>h'.elim);refine hEe (hEq h₁ (λ_ s₂ h₂=>hEe (hEq h₂ (λok s₃ h₃=>?_) λ_ _ h'=>h'.elim)) λ_ _ h'=>h'.elim);cases ok with
  |false=>exact hEh ⟨rfl,h₃⟩
  |true =>
   exact hEe (hEe (hEq h₃ (λx s₄ h₄=>hEe (hEq h₄ (λ_ s₅ h₅=>hEh (hEh ⟨rfl,h₅⟩)) λ_ _ h'=>h'.elim)) λ_ _ h'=>h'.elim))
noncomputable def zD1(scope sc:Scope):Scope :=
 { scope with names:=scope.names.map λ(n,k)=>if (k == .free && sc.kind == .function && sc.names.lookup n == some .cell) then (n,.cell) else (n,k) }
noncomputable def qCq(X:Cx)(scope:Scope)(N':List Str)(C:Addr)(s:Shared)(H:Hp)(fp:List Addr):Cx :=
 { X with N:=N',s₀:=s,H₀:=H,env:=qE6 X.env scope C,outer:=X.stack,stack:=X.stack,ex:=fp,fn:=λx=>!(scope.names.lookup x == some .free),pn:=[],xe:=λ_ _=>False }
noncomputable def subσ(sub:List (Option Nat))(σ:St):St:=sub.map λo=>o.bind λi=>(σ[i]?).join
noncomputable def qZz(N:List Str)(sc:Scope)(N':List Str)(scope:Scope)(sub:List (Option Nat)):Bool :=
 scope.kind == .function && decide ((scope.names.map (·.1)).Nodup) && decide N'.Nodup && sub.length == N'.length &&
 (scope.names.all λx=>!(x.2 == .free) || sc.names.lookup x.1 == some .cell || sc.names.lookup x.1 == some .free) &&
 ((sub.zip N').all λp=>match p.1 with
  |none=>true
  |some i=>N[i]? == some p.2 && scope.names.lookup p.2 == some .free)
structure CmpOk(N:List Str)(sc:Scope)(N':List Str)(scope:Scope)(sub:List (Option Nat)):Prop where
 kind:scope.kind = .function
 nd:(scope.names.map (·.1)).Nodup
 nd':N'.Nodup
 len:sub.length=N'.length
 free:∀x∈scope.names,x.2 = .free->sc.names.lookup x.1=some .cell\/sc.names.lookup x.1=some .free
 sub:∀(j i:Nat) (x:Str),sub[j]?=some (some i)->N'[j]?=some x->N[i]?=some x/\scope.names.lookup x=some .free
theorem CmpOk.of{N:List Str}{sc:Scope}{N':List Str}{scope:Scope}{sub:List (Option Nat)}(h:qZz N sc N' scope sub=true):CmpOk N sc N' scope sub:=by
 unfold qZz at h;simp only[hCm]at h;obtain⟨⟨⟨⟨⟨h1,h2⟩,h3⟩,h4⟩,h5⟩,h6⟩:=h;refine⟨by simpa using h1,hEi h2,hEi h3,by simpa using h4,λx hx hf=>?_,λj i x hj hx=>?_⟩
 ·have q:=hE0.mp h5 x hx;rw[hf]at q;simp only[hF3,Bool.not_true,Bool.false_or,hE5]at q;rcases q with q|q
  ·exact .inl (by simpa using q)
  ·exact .inr (by simpa using q)
 ·have q:=hE0.mp h6 (some i,x) (by
   refine hAc (i:=j) ?_;rw[List.getElem?_zip_eq_some];exact⟨hj,hx⟩)
  simp only[hCm]at q;exact⟨by simpa using q.1,by simpa using q.2⟩
theorem qCz:∀ {l:List (Str×α)} {x:Str} {c:α},(l.map (·.1)).Nodup->(x,c)∈l->l.lookup x=some c
 |(y,d) :: r,x,c,nd,h=>by
  rw[hDc];rcases hAj.mp h with e|h
  ·cases e;simp
  ·have ne:x≠y:=λe=>by
    rw[hBm]at nd;exact(hBb.mp nd).1 (by rw[<-e];exact hAe.mpr ⟨(x,c),h,rfl⟩)
   rw[show(x == y)=false from by simpa using ne];exact qCz (hBb.mp nd).2 h
theorem qGy{sc:Scope}:∀ {aA:List (Str×NameKind)} {x:Str},
  ((aA.map λ(n,k)=>if (k == NameKind.free && sc.kind == .function && sc.names.lookup n == some .cell) then (n,NameKind.cell) else (n,k)).lookup x) =
   (aA.lookup x).map λk=>if (k == NameKind.free && sc.kind == .function && sc.names.lookup x == some .cell) then NameKind.cell else k
 |[],x=>rfl
 |(n,k) :: r,x=>by
  have ih:=@qGy sc r x;rw[hBm];show List.lookup x ((if (k == NameKind.free && sc.kind == .function && sc.names.lookup n == some .cell)=true then (n,NameKind.cell) else (n,k)) :: _)=_;by_cases hc:(k == NameKind.free && sc.kind == .function && sc.names.lookup n == some .cell)=true
  ·rw[hEk hc,hDc,hDc];by_cases hx:x=n
   ·subst hx;rw[show(x == x)=true from hF3 x];show some NameKind.cell=Option.map _ (some k);rw[Option.map_some,hEk hc]
   ·rw[show(x == n)=false by simpa using hx];exact ih
  ·rw[hEj hc,hDc,hDc];by_cases hx:x=n
   ·subst hx;rw[show(x == x)=true from hF3 x];show some k=Option.map _ (some k);rw[Option.map_some,hEj hc]
   ·rw[show(x == n)=false by simpa using hx];exact ih
section
variable{X:Cx}{aB:List vH}{σ:St}{H H':Hp}{s:Shared}
theorem qRl(I:Inv X aB σ H s)(hb:b∈frs X.stack)(n1:b≠X.env.locals):b∈X.fs:=(hAj.mp (I.stkSub b hb)).elim (λe=>absurd e n1) id
theorem qOk{N':List Str}{scope:Scope}{sub:List (Option Nat)}{h3:Heap}(I:Inv X aB σ H s)(O:CmpOk X.N X.env.scope N' scope sub)
  (hk:∀b o,s.heap.get? b=some o->h3.get? b=some o) :
  (∀x c,(cellsFrom (h3.objs.size+1) scope.names (qDn X.env.cells scope.names [])).lookup x=some c ->
   (((pushCells (h3.push { cls:=.type "dict",data:=.dict #[] }) scope.names).IsCell c none/\h3.objs.size+1<=c/\(x,NameKind.cell)∈scope.names)\/((x,NameKind.free)∈scope.names/\X.env.cells.lookup x=some c))) /\
  (∀x y c,(cellsFrom (h3.objs.size+1) scope.names (qDn X.env.cells scope.names [])).lookup x=some c->(cellsFrom (h3.objs.size+1) scope.names (qDn X.env.cells scope.names [])).lookup y=some c->x=y):=by
 have hin:∀x c,(x,c)∈qDn X.env.cells scope.names []->(x,NameKind.free)∈scope.names/\X.env.cells.lookup x=some c:=λx c h=>by
  rcases qIr h with q|⟨q,e⟩
  ·cases q
  ·have hx:∃c,X.env.cells.lookup x=some c:=by
    refine I.ok.has x ?_;rcases O.free _ q rfl with z|z
    ·exact .inl z
    ·exact .inr z
   obtain⟨c',hc'⟩:=hx;rw[hc']at e;exact⟨q,by rw[hc',e];rfl⟩
 have hlt:∀x c,(x,c)∈qDn X.env.cells scope.names []->c<h3.objs.size:=λx c h=>by
  obtain⟨v,o,ho,_⟩:=I.cell x c (hin x c h).2;exact Heap.lt_size (hk _ _ ho)
 have two:=qD4 (acc0:=qDn X.env.cells scope.names []) scope.names (h3.push { cls:=.type "dict",data:=.dict #[] }) (h3.objs.size+1) (qDn X.env.cells scope.names [])
  ⟨λx c h=>.inl h,λx y c hc h1 _=>absurd (hlt x c h1) (Nat.not_lt.mpr (Nat.le_of_succ_le hc))⟩ (λx c h=>by rw[Heap.size_push];exact hC1 (hlt x c h)) (by rw[Heap.size_push];exact hA9 _)
 rw[Heap.size_push]at two;refine⟨λx c h=>?_,λx y c h1 h2=>?_⟩
 ·have m:=hCh h;rcases two.part x c m with q|q
  ·exact .inr (hin x c q)
  ·refine .inl ⟨q.1,q.2,?_⟩;rcases qD5 m with z|z
   ·exact absurd (hlt x c z) (Nat.not_lt.mpr (Nat.le_of_succ_le q.2))
   ·exact z
 ·have m1:=hCh h1;have m2:=hCh h2;by_cases hc:h3.objs.size+1<=c
  ·exact two.inj x y c hc m1 m2
  ·rcases two.part x c m1 with q1|q1
   ·rcases two.part y c m2 with q2|q2
    ·exact I.ok.inj x y c (hin x c q1).2 (hin y c q2).2
    ·exact absurd q2.2 hc
   ·exact absurd q1.2 hc
theorem qXv{N':List Str}{scope:Scope}{sub:List (Option Nat)}{fp:List Addr}(I:Inv X aB σ H s)(O:CmpOk X.N X.env.scope N' scope sub)(hf:∀b∈fp,qRs X aB H b)
  (hfl:∀b∈fp,b<s.heap.objs.size) :
  Inv (qCq X scope N' (s.heap.objs.size+1) s H fp) [(s.heap.objs.size,{ cls:=.type "list",data:=.seq #[] })] (subσ sub σ) H
   { s with heap:=pushCells ((s.heap.push { cls:=.type "list",data:=.seq #[] }).push { cls:=.type "dict",data:=.dict #[] }) scope.names }:=by
 have hk3:∀b o,s.heap.get? b=some o->(s.heap.push { cls:=.type "list",data:=.seq #[] }).get? b=some o:=λb o e=>Heap.get?_push_of_some _ e
 have sz3:(s.heap.push { cls:=.type "list",data:=.seq #[] }).objs.size=s.heap.objs.size+1:=Heap.size_push ..;have hk:∀b o,s.heap.get? b=some o->(pushCells ((s.heap.push { cls:=.type "list",data:=.seq #[] }).push { cls:=.type "dict",data:=.dict #[] }) scope.names).get? b=some o :=
  λb o e=>hFm _ _ b o (Heap.get?_push_of_some _ (hk3 b o e))
 have cf:=qOk (h3:=s.heap.push { cls:=.type "list",data:=.seq #[] }) I O hk3;rw[sz3]at cf;have hC:H (s.heap.objs.size+1)=none:=I.hok.fresh (hBq _);have nsC:(pushCells ((s.heap.push { cls:=.type "list",data:=.seq #[] }).push { cls:=.type "dict",data:=.dict #[] }) scope.names).Ns (s.heap.objs.size+1) (λ_=>none):=by
  rw[<-sz3];exact(Heap.Ns.new _ _).keeps (hFm _ _)
 have has:∀x,(scope.names.lookup x=some .cell\/scope.names.lookup x=some .free)->∃c,(cellsFrom (s.heap.objs.size+1+1) scope.names (qDn X.env.cells scope.names [])).lookup x=some c:=λx hx=>by
  refine Option.isSome_iff_exists.mp (hE2 _ _ _ ?_);rcases hx with z|z
  ·exact .inl z
  ·exact .inr (qGo (.inl (hCh z)))
 have kindB:∀x,(qE6 X.env scope (s.heap.objs.size+1)).kindOf x=(scope.names.lookup x).map λk=>if (k == NameKind.free && X.env.scope.kind == .function && X.env.scope.names.lookup x == some .cell) then NameKind.cell else k:=λx=>qGy
 have cellOk:∀x c,(qE6 X.env scope (s.heap.objs.size+1)).cells.lookup x=some c->∃v,(pushCells ((s.heap.push { cls:=.type "list",data:=.seq #[] }).push { cls:=.type "dict",data:=.dict #[] }) scope.names).IsCell c v:=λx c h=>by
  rcases cf.1 x c h with q|q
  ·exact⟨_,q.1⟩
  ·obtain⟨v,z⟩:=I.cell x c q.2;exact⟨v,z.keeps hk⟩
 refine⟨⟨I.ok.mod,O.kind,I.ok.glob,I.ok.blt,hBq _,λx y c h1 h2=>cf.2 x y c h1 h2,λx hx=>?_,λx c hx h=>?_,I.ok.hd,I.ok.frames,.inl rfl,λb hb=>?_,λb o e=>I.bs b o e,hAw I.ok.bsz I.sz,λb o e hb=>?_,λb hb=>?_,I.stack,I.stkFree⟩,
  rfl,I.bare,Un.kept hk,⟨λ_=>none,nsC,λi x v h1 h2 h3=>?_⟩,cellOk,hC,λx c h=>?_,λp hp=>?_,I.hok.kept hk,?_⟩
 ·-- has
  refine has x ?_;have hx:(qE6 X.env scope (s.heap.objs.size+1)).kindOf x=some .cell\/(qE6 X.env scope (s.heap.objs.size+1)).kindOf x=some .free:=hx;rw[kindB]at hx;cases e:scope.names.lookup x with
  |none=>rw[e]at hx;rcases hx with z|z <;> cases z
  |some k =>
   rw[e]at hx;cases k with
   |cell=>exact .inl rfl
   |free=>exact .inr rfl
   |_=>exfalso;rcases hx with z|z <;> simp at z
 ·-- cab
  rcases cf.1 x c h with q|q
  ·have:=q.2.1;show s.heap.objs.size<=c;omega
  ·exfalso;have e:=qCz O.nd q.1;have hx':(!(scope.names.lookup x == some NameKind.free))=true:=hx;rw[e]at hx';exact absurd hx' (by decide)
 ·-- exf
  obtain⟨f0,f1,f2,f3,f4,f5⟩:=hf b hb;have lt:=hfl b hb;refine⟨λe=>?_,λx c h e=>?_⟩
  ·have e':b=s.heap.objs.size+1:=e;rw[e']at lt;exact absurd lt (Nat.not_lt.mpr (hBq _))
  ·rcases cf.1 x c h with q|q
   ·have z:=q.2.1;rw[e]at z;exact absurd lt (Nat.not_lt.mpr (hAw (hAw (hBq _) (hBq _)) z))
   ·exact f4 x c q.2 e
 ·-- noex
  obtain⟨f0,f1,f2,f3,f4,f5⟩:=hf b hb;rcases f3 with z|z
  ·exact I.ok.noex b o e z
  ·exact absurd (hAo (Heap.lt_size (I.ok.bs b o e).1) z) (hCv _)
 ·-- exfs
  obtain⟨f0,f1,f2,f3,f4,f5⟩:=hf b hb;exact λz=>f2 (qRl I z f1)
 ·-- loc
  have h1':N'[i]?=some x:=h1;have hsub:∃k,sub[i]?=some (some k)/\(σ[k]?).join=some v:=by
   unfold subσ at h2;rw[hAl]at h2;cases e:sub[i]? with
   |none=>rw[e]at h2;cases h2
   |some o =>
    rw[e]at h2;cases o with
    |none=>cases h2
    |some k=>exact⟨k,rfl,by simpa using h2⟩
  obtain⟨k,hk1,hk2⟩:=hsub;obtain⟨nk,fx⟩:=O.sub i k x hk1 h1';have sk:σ[k]?=some (some v):=by
   cases e:σ[k]? with
   |none=>rw[e]at hk2;cases hk2
   |some o=>rw[e]at hk2;cases o with
    |none=>cases hk2
    |some y=>cases hk2;rfl
  have cx:=O.free _ (hCh fx) rfl;obtain⟨m,hn,hl⟩:=I.loc;obtain⟨u,ru,lk⟩:=hl k x v nk sk (by
   rcases cx with z|z
   ·exact .inr (.inl z)
   ·exact .inr (.inr z))
  refine⟨u,ru,.inr ⟨?_,?_⟩⟩
  ·show(qE6 X.env scope (s.heap.objs.size+1)).kindOf x=some .cell\/(qE6 X.env scope (s.heap.objs.size+1)).kindOf x=some .free;rw[kindB,fx];by_cases hc:(NameKind.free == NameKind.free && X.env.scope.kind == .function && X.env.scope.names.lookup x == some .cell)=true
   ·exact .inl (by rw[Option.map_some,hEk hc])
   ·exact .inr (by rw[Option.map_some,hEj hc])
  ·rcases lk with ⟨kl,_⟩|⟨_,c,hc,hcell⟩
   ·exfalso;have kl':X.env.scope.names.lookup x=some .local:=kl;rcases cx with z|z <;> rw[kl']at z <;> cases z
   ·obtain⟨c',hc'⟩:=has x (.inr fx);refine⟨c',hc',?_⟩;rcases cf.1 x c' hc' with q|q
    ·exfalso;have e:=qCz O.nd q.2.2;rw[fx]at e;cases e
    ·rw[hc]at q;have e:c=c':=hAq q.2;subst e;exact hcell.keeps hk
 ·-- freeC
  rcases cf.1 x c h with q|q
  ·exact I.hok.fresh (by have:=q.2.1;omega)
  ·exact I.freeC x c q.2
 ·-- pin
  have hp':p=(s.heap.objs.size,({ cls:=.type "list",data:=.seq #[] }:Obj)):=by
   have:p∈([]++[(s.heap.objs.size,({ cls:=.type "list",data:=.seq #[] }:Obj))]:List vH):=hp
   simpa using this
  subst hp';refine⟨hFm _ _ _ _ (Heap.get?_push_of_some _ (Heap.get?_push_size _ rfl)),I.hok.fresh (hA9 _),hAx (hC8 _),λz=>?_,λv z=>?_⟩
  ·rcases hAj.mp (I.stkSub _ z) with e|e
   ·exact absurd I.lt (by rw[<-e];exact hCv _)
   ·exact I.nofs (hA9 _) e
  ·cases z
 ·-- len
  show(subσ sub σ).length=N'.length;unfold subσ;rw[hA1,O.len]
end
def Sle(σ σ2:St):Prop:=σ2.length=σ.length/\∀(i:Nat) (v:V),σ[i]?=some (some v)->σ2[i]?=some (some v)
theorem Sle.refl(σ:St):Sle σ σ:=⟨rfl,λ_ _ h=>h⟩
theorem Sle.set(v:V)(h:Sle σ σ2)(hi:∀u,σ[i]?≠some (some u)):Sle σ (σ2.set i (some v)):=by
 refine⟨by rw[List.length_set];exact h.1,λj u hj=>?_⟩;have ne:i≠j:=λe=>hi u (by rw[e];exact hj)
 rw[List.getElem?_set_ne ne];exact h.2 j u hj
theorem sls{σ:St}{i:Nat}{v:V}(h:∀u,σ[i]?≠some (some u):=by intro u z;cases z):Sle σ (σ.set i (some v)):=Sle.set _ (Sle.refl _) h
def PTs(X:Cx)(ifs:List Expr)(t:TT):Prop :=
 ∀(aB:List vH) (s:Shared) (σ:St) (H:Hp) (Q:Bool->Hp->Prop),Inv X aB σ H s->t σ H Q ->
  wpAny vD X.A (forIn ifs true λc r=>if r=true then do let ok ← isTrue c X.env (eval c X.env);pure (ForInStep.yield ok) else pure (ForInStep.yield r)) (TP X aB σ Q) X.xe s
def zAb:TT:=λ_ H Q=>Q true H
theorem qAz:PTs X [] zAb:=λaB s σ H Q I h=>wpAny_tests_nil ⟨H,I,h⟩
theorem qBk(h:PT X c t):PTs X [c] t:=λaB s σ H Q I hw=>wpAny_tests_one (h aB s σ H Q I hw)
def qEp(J:It)(σ0:St)(g:TG)(tt:TT)(te:TE)(Q:List V->Hp->Prop)(H1:Hp):Prop :=
 ∃W:Nat->Nat->List V->Hp->Prop,(∃m,W 0 m [] H1)/\∀i m ys H,W i m ys H ->
  (J.stop i H/\Q ys H) \/
  (J.go i H/\∀x H',J.yld i H x H'->g x σ0 H' λσ2 H2=>Sle σ0 σ2/\tt σ2 H2 λb H3 =>
   if b=true then te σ2 H3 (λv H4=>ys.length<sizeLine/\∃m',m'<m/\W (i+1) m' (ys++[v]) H4) else ∃m',m'<m/\W (i+1) m' ys H3)
section
variable{X:Cx}{aB:List vH}{σ:St}{H:Hp}{s:Shared}
theorem qMm{target iter elt:Expr}{ifs:List Expr}{scope:Scope}{pos:Pos}{N':List Str}{sub:List (Option Nat)}{J:It}{fp:List Addr}{it:Addr}{tn:Nat->Heap->Prop}{g:TG}{tt:TT}{te:TE}
  {Qe:List V->Hp->Prop} {E:Value->Shared->Prop} {RR:Value->Addr->Result->Shared->Prop}
  {c:Cx->Prop} (hc:∀X',X'.A=X.A->X'.calm=X.calm->c X') (I:Inv X aB σ H s) (O:CmpOk X.N X.env.scope N' scope sub) (T:Turn X.prog X.w X.K target J fp it tn c) (st:tn 0 s.heap) (hf:∀b∈fp,qRs X aB H b)
  (B:∀C s H fp,PG (qCq X scope N' C s H fp) target g/\PTs (qCq X scope N' C s H fp) ifs tt/\PE (qCq X scope N' C s H fp) elt te)
  (rd:qEp J (subσ sub σ) g tt te Qe H)
  (hRR:∀(acc C:Addr) (ys:List V) (H':Hp) (s':Shared),Inv X aB σ (upd H' acc (.lst ys)) s'->qRs X aB (upd H' acc (.lst ys)) C->(∃m,s'.heap.Ns C m)->H' acc=none->Qe ys H'->RR (.ref acc) C (.ok .next) s') :
  wpAny vD X.A (newList []) (λacc s₃=>wpAny vD X.A (newFunctionEnv scope X.env.globals (qDn X.env.cells scope.names []) [] X.env.qual none .none (some X.env)) (λcenv s₄ =>
   codeAny vD X.A (.compStart (.ListComp elt [⟨target,iter,ifs,0⟩] scope pos) 0 (.ref it) acc { cenv with scope:=relabel scope X.env }) (RR acc cenv.locals) s₄) E s₃) E s:=by
 refine hEu (qJk ?_);have hfl:∀b∈fp,b<s.heap.objs.size:=λb hb=>by
  obtain⟨o,e,_⟩:=T.obj _ _ st b hb;exact Heap.lt_size e
 have I0:=qXv (sub:=sub) I O hf hfl;have sz3:(s.heap.push { cls:=.type "list",data:=.seq #[] }).objs.size=s.heap.objs.size+1:=Heap.size_push ..;dsimp only;show codeAny _ _ (.compStart _ 0 (.ref it) (.ref s.heap.objs.size) { scope:=relabel scope X.env,locals:=(s.heap.push { cls:=.type "list",data:=.seq #[] }).objs.size,globals:=X.env.globals,cells:=cellsFrom ((s.heap.push { cls:=.type "list",data:=.seq #[] }).objs.size+1) scope.names (qDn X.env.cells scope.names []),qual:=X.env.qual,func:=none,code:=X.env.code,frame:=X.env.frame,builtins:=X.env.builtins })
  (RR (.ref s.heap.objs.size) (s.heap.push { cls:=.type "list",data:=.seq #[] }).objs.size) { s with heap:=pushCells ((s.heap.push { cls:=.type "list",data:=.seq #[] }).push { cls:=.type "dict",data:=.dict #[] }) scope.names }
 rw[sz3];show codeAny _ _ (.compStart _ 0 (.ref it) (.ref s.heap.objs.size) (qE6 X.env scope (s.heap.objs.size+1))) (RR (.ref s.heap.objs.size) (s.heap.objs.size+1)) _;generalize hs0:({ s with heap:=pushCells ((s.heap.push { cls:=.type "list",data:=.seq #[] }).push { cls:=.type "dict",data:=.dict #[] }) scope.names }:Shared)=s0 at I0 ⊢;have hk0:∀b o,s.heap.get? b=some o->s0.heap.get? b=some o:=λb o e=>by
  rw[<-hs0];exact hFm _ _ b o (Heap.get?_push_of_some _ (Heap.get?_push_of_some _ e))
 have st0:tn 0 s0.heap:=T.keep _ _ _ st λb hb o e=>hk0 b o e
 clear hs0 sz3;generalize hX:qCq X scope N' (s.heap.objs.size+1) s H fp=X' at I0;have xp:X'.prog=X.prog:=by rw[<-hX];rfl
 have xw:X'.w=X.w:=by rw[<-hX];rfl
 have xK:X'.K=X.K:=by rw[<-hX];rfl
 have xA:X'.A=X.A:=by rw[<-hX];rfl
 have xc:c X':=hc X' xA (by rw[<-hX];rfl);have xe:X'.env=qE6 X.env scope (s.heap.objs.size+1):=by rw[<-hX];rfl
 have xx:X'.ex=fp:=by rw[<-hX];rfl
 have xo:X'.outer=X.stack:=by rw[<-hX];rfl
 have xf:X'.fs=frs X.stack:=by rw[<-hX];rfl
 have xpn:X'.pn=[]:=by rw[<-hX];rfl
 have x0:X'.s₀=s:=by rw[<-hX];rfl
 have xh:X'.H₀=H:=by rw[<-hX];rfl
 have xxe:X'.xe=λ_ _=>False:=by rw[<-hX];rfl
 obtain⟨hg,ht,he⟩:=B (s.heap.objs.size+1) s H fp;rw[hX]at hg ht he;clear hX;have stat:∀ {pl:List vH} {H':Hp},(∀p∈pl,p.1=s.heap.objs.size)->(∀b∈fp,H' b=none)->∀b∈fp,qRs X' pl H' b:=λ{pl H'} hp hn b hb=>by
  obtain⟨f0,f1,f2,f3,f4,f5⟩:=hf b hb;refine⟨hn b hb,(I0.ok.exf b (by rw[xx];exact hb)).1,I0.ok.exfs b (by rw[xx];exact hb),.inl (by rw[xx];exact hb),(I0.ok.exf b (by rw[xx];exact hb)).2,λp hp'=>?_⟩;rw[xpn,List.nil_append]at hp';rw[hp p hp'];exact hCj (hfl b hb)
 obtain⟨W,⟨m0,w0⟩,turn⟩:=rd;have loop:∀s3:Shared,s3=s0->codeAny vD X.A (.compLoop (.ListComp elt [⟨target,iter,ifs,0⟩] scope pos) 0 (.ref it) (.ref s.heap.objs.size) (qE6 X.env scope (s.heap.objs.size+1))) (RR (.ref s.heap.objs.size) (s.heap.objs.size+1)) s3:=by
  intro s3 e3;refine qMn (λn s'=>∃(i:Nat) (ys:List V) (H':Hp) (its:List Value) (k:Nat),Inv X' [(s.heap.objs.size,{ cls:=.type "list",data:=.seq its.toArray k })] (subσ sub σ) H' s'/\qBx ys its/\ys.length<=sizeLine/\tn i s'.heap/\(∀b∈fp,H' b=none)/\W i n ys H') ?_ m0
   ⟨0,[],H,[],0,by rw[e3];exact I0,.nil,hAt _,by rw[e3];exact st0,λb hb=>(hf b hb).1,w0⟩
  rintro n s4 ⟨i,ys,H4,its,k,I4,rv,hz,st4,fr4,w4⟩;have pe:∀p∈([(s.heap.objs.size,({ cls:=.type "list",data:=.seq its.toArray k }:Obj))]:List vH),p.1=s.heap.objs.size:=λp hp=>by
   rw[hA3]at hp;rw[hp]
  rcases turn i n ys H4 w4 with ⟨stop,q⟩|⟨go,step⟩
  ·-- the end
   have td:=T.done X' xp xw xK xc i _ s4 (subσ sub σ) H4 (λ_ _=>False) I4 (stat pe fr4) st4 stop;rw[xA]at td;refine thn td λr s5 ⟨hr,I5⟩=>?_
   subst hr;have pa:=I5.pin (s.heap.objs.size,{ cls:=.type "list",data:=.seq its.toArray k }) (by rw[xpn];simp);have nacc:H4 s.heap.objs.size=none:=pa.2.1;have nC:H4 (s.heap.objs.size+1)=none:=by have z:=I5.free;rw[xe]at z;exact z
   have un:Un (frs X.stack) fp H H4 s.heap s5.heap:=by have z:=I5.base;rw[xf,xx,xh,x0]at z;exact z
   have un2:Un (frs X.stack) fp H (upd H4 s.heap.objs.size (.lst ys)) s.heap s5.heap:=by
    refine⟨un.keep,un.slot,λb o e n hx=>?_,un.there,λb xs e=>?_,λb o u e=>?_,λb ps e=>?_⟩
    ·rw[qAk (hAx (Heap.lt_size e))];exact un.free b o e n hx
    ·have z:=un.tups b xs e;rw[qAk (qAo z nacc)];exact z
    ·have z:=un.frzs b o u e;rw[qAk (qAo z nacc)];exact z
    ·obtain⟨more,z⟩:=un.tbls b ps e;exact⟨more,by rw[qAk (qAo z nacc)];exact z⟩
   have hok5:HOk X.prog X.w H4 s5.heap:=by have z:=I5.hok;rw[xp,xw]at z;exact z
   have hok2:HOk X.prog X.w (upd H4 s.heap.objs.size (.lst ys)) s5.heap:=λb u e=>by
    by_cases hb:b=s.heap.objs.size
    ·subst hb;rw[upd_same]at e;cases e;exact⟨hz,its,k,rv,pa.1⟩
    ·rw[qAk hb]at e;exact(hok5 b u e).stay (λ_ _ _ q=>q) (λc q=>by rw[qAk (qAo q nacc)];exact q) λc xs q=>by rw[qAk (qAo q nacc)];exact q
   have os5:s5.os=s.os:=by have z:=I5.os;rw[x0]at z;exact z
   have J5:Inv X aB σ (upd H4 s.heap.objs.size (.lst ys)) s5:=I.call' os5 un2 hok2 I5.bare λb hb=>by
    obtain⟨f0,f1,f2,f3,f4,f5⟩:=hf b hb;exact⟨f3,f1,f4,f5⟩
   refine hRR _ _ ys H4 s5 J5 (I.fpOk (hBq _) ?_) ?_ nacc q
   ·rw[qAk (Nat.succ_ne_self _)];exact nC
   ·obtain⟨m,hn,_⟩:=I5.loc;rw[xe]at hn;exact⟨m,hn⟩
  ·-- one turn
   have ti:=T.item X' xp xw xK xc i _ s4 (subσ sub σ) H4 (λ_ _=>False) I4 (stat pe fr4) st4 go;rw[xA]at ti;refine thn ti λr s5 ⟨u,hr,h5⟩=>?_
   subst hr;refine thn h5 λ_ s6 ⟨x,H6,I6,r6,y6,st6,fr6⟩=>?_
   have I6':=I6.pinned (stat pe fr6) (T.obj _ _ st6);have tg:=hg _ s6 (subσ sub σ) H6 x u _ I6' r6 (step x H6 y6);rw[xp,xw,xA,xe,xxe]at tg;refine thn tg λ_ s7 ⟨σ7,H7,I7,le7,q7⟩=>?_
   have tts:=ht _ s7 σ7 H7 _ I7 q7;rw[xp,xw,xA,xe,xxe]at tts;refine thn tts λb s8 ⟨H8,I8,q8⟩=>?_
   cases b with
   |false =>
    rw[hEj hB3]at q8 ⊢;obtain⟨m',hm',w8⟩:=q8;have I9:Inv X' ([(s.heap.objs.size,{ cls:=.type "list",data:=.seq its.toArray k })]++qJb fp s6.heap) (subσ sub σ) H8 s8:=I8.weak le7.1.symm le7.2;refine⟨m',hm',i+1,ys,H8,its,k,I9.unpinned,rv,hz,T.keep _ _ _ st6 λb hb o e=>(I9.pin (b,o) (hA7 _ (hA7 _ (qC3 hb e)))).1,λb hb=>?_,w8⟩;obtain⟨o,e,d⟩:=T.obj _ _ st6 b hb;exact(I9.pin (b,o) (hA7 _ (hA7 _ (qC3 hb e)))).2.1
   |true =>
    rw[hEk rfl]at q8 ⊢;have tee:=he _ s8 σ7 H8 _ I8 q8;rw[xp,xw,xA,xe,xxe]at tee;refine thn tee λvv s9 ⟨v,H9,I9,r9,lz,m',hm',w9⟩=>?_
    have I10:Inv X' ([(s.heap.objs.size,{ cls:=.type "list",data:=.seq its.toArray k })]++qJb fp s6.heap) (subσ sub σ) H9 s9:=I9.weak le7.1.symm le7.2;have pa:=I10.pin (s.heap.objs.size,{ cls:=.type "list",data:=.seq its.toArray k }) (by rw[xpn];simp);have hlen:=rv.length;refine wpAny_list_append_plain (items:=its.toArray) ⟨k,pa.1⟩ (λh' pl sb=>?_) (by rw[hAk];omega);obtain⟨k',pl⟩:=pl;have keepIt:∀b∈fp,∀o,s6.heap.get? b=some o->h'.get? b=some o:=λb hb o e=>by
     have nb:b≠s.heap.objs.size:=hAx (hfl b hb);exact(sb.2 b nb).trans (I10.pin (b,o) (hA7 _ (hA7 _ (qC3 hb e)))).1
    have I11:Inv X' [] (subσ sub σ) H9 s9:=I10.pins_of λp hp=>absurd hp vI
    have sacc:s.heap.objs.size≠X'.env.locals:=pa.2.2.1;have I12:Inv X' [] (subσ sub σ) H9 { s9 with heap:=h' }:=I11.turned (t':=s9.toks) (it:=s.heap.objs.size) (λb o hb e=>(sb.2 b hb).trans e) pa.2.1 sacc (.inr (by rw[x0];exact hA9 _))
     (λy c hy z=>by
      obtain⟨w',o',ho',hd'⟩:=I10.cell y c hy;rw[z,pa.1]at ho';have z2:=hAq ho';rw[<-z2]at hd';cases hd') (λp hp=>absurd hp (by rw[xpn];simp))
    refine⟨m',hm',i+1,ys++[v],H9,its++[vv],k',I12.pins_of (λp hp=>?_),rv.append (.cons r9 .nil),by rw[hAf,List.length_singleton];omega,T.keep _ _ _ st6 keepIt,λb hb=>?_,w9⟩
    ·rw[hA3]at hp;subst hp;refine⟨?_,pa.2.1,sacc,pa.2.2.2.1,λv z=>by cases z⟩;show h'.get? s.heap.objs.size=_;rw[pl];simp
    ·obtain⟨o,e,d⟩:=T.obj _ _ st6 b hb;exact(I10.pin (b,o) (hA7 _ (hA7 _ (qC3 hb e)))).2.1
 exact codeAny_compStart_list (loop _ rfl) (T.self _ 0 _ _ _ st0 (loop _ rfl))
end
def qRa(sub:List (Option Nat))(wi:TI)(g:TG)(tt:TT)(te:TE):TE:=λσ H Q=>wi σ H λJ H1 =>
 qEp J (subσ sub σ) g tt te (λys H'=>∀r,H' r=none->Q (.ref r) (upd H' r (.lst ys))) H1
section
variable{X:Cx}{target iter elt:Expr}{ifs:List Expr}{scope:Scope}{pos:Pos}{N':List Str}{sub:List (Option Nat)}{wi:TI}{g:TG}{tt:TT}{te:TE}
theorem qVd(I:Inv X aB σ H s)(O:CmpOk X.N X.env.scope N' scope sub):closureFor scope X.env=pure (qDn X.env.cells scope.names []) :=
 qK3 λx hx hf=>I.ok.has x.1 (by rcases O.free x hx hf with z|z;exact .inl z;exact .inr z)
theorem qPz(O:CmpOk X.N X.env.scope N' scope sub):∀y∈scope.names,y.2 = .local->scope.names.lookup y.1=some .local:=λy hy e=>by
 obtain⟨n,k⟩:=y;cases e;exact qCz O.nd hy
theorem zBa(hc:X.calm=true)(O:CmpOk X.N X.env.scope N' scope sub)(hi:PI X target iter wi)
  (B:∀C s H fp,PG (qCq X scope N' C s H fp) target g/\PTs (qCq X scope N' C s H fp) ifs tt/\PE (qCq X scope N' C s H fp) elt te)
  (hs:∀x,foldedSetIterable iter X.env x=pure x:=by intro _;rfl):PE X (.ListComp elt [⟨target,iter,ifs,0⟩] scope pos) (qRa sub wi g tt te):=by
 intro aB s σ H Q I h;rw[eval_ListComp];refine wpAny_comprehension_free (use:=none) rfl hs (qVd I O) O.kind (qPz O) (thn (hi aB s σ H _ I h) λv s1 h1=>thn h1 λitv s2 h2=>?_);obtain⟨it,fp,tn,J,H2,e,I2,T,st2,f2,rd⟩:=h2;subst e;refine qMm (RR:=λacc C=>compPost vD X.A X.xe none (EP X aB σ Q) acc C) (λX' _ e=>e.trans hc) I2 O T st2 f2 B rd λacc C ys H' s' I' fC hn na q=>?_
 obtain⟨m,hn⟩:=hn;obtain⟨f0,f1,f3,f4,f5,f6⟩:=fC;refine⟨m,hn,λh' sb=>?_⟩;exact⟨.ref acc,upd H' acc (.lst ys),I'.turned (t':=s'.toks) (it:=C) (λb o hb e=>(sb.2 b hb).trans e) f0 f1 f4 f5 f6,rfl,q acc na⟩
theorem zA0(hc:X.calm=true)(O:CmpOk X.N X.env.scope N' scope sub)(hi:PI X target iter wi)
  (B:∀C s H fp,PG (qCq X scope N' C s H fp) target g/\PTs (qCq X scope N' C s H fp) ifs tt/\PE (qCq X scope N' C s H fp) elt te)
  (hN:X.N.Nodup) (hy:X.N[i]?=some y) (hx:Loc X.env.scope y)
  (hsw:swapsWith (.ListComp elt [⟨target,iter,ifs,0⟩] scope pos) (some (.Name y py)) spos.line X.env=pure true)
  (hs:∀x,foldedSetIterable iter X.env x=pure x:=by intro _;rfl) (hf:X.fn y=true\/X.env.scope.names.lookup y=some .local:=by exact kO2) :
  PS X (.Assign [.Name y py] (.ListComp elt [⟨target,iter,ifs,0⟩] scope pos) spos) (zDj (qRa sub wi g tt te) (qOg i)):=by
 intro aB s σ H D I h;rw[exec_Assign_Name_used _ _ _ _ hsw];refine hEe (wpAny_standAt (hEe ?_));show wpAny _ _ (do let _ ← comprehension (.ListComp elt [⟨target,iter,ifs,0⟩] scope pos) scope X.env _ (newList []) false (eval iter X.env) (some (assign (.Name y py) X.env))) _ _ s;refine hEe (hEq (wpAny_comprehension_free (use:=some (assign (.Name y py) X.env)) (Q:=λ_ s'=>SP X aB D .next s') rfl hs (qVd I O) O.kind (qPz O)
  (thn (hi aB s σ H _ I h) λv s1 h1=>thn h1 λitv s2 h2=>?_)) (λ_ s' hq=>hEh (hEh hq)) λ_ _ e=>e)
 obtain⟨it,fp,tn,J,H2,e,I2,T,st2,f2,rd⟩:=h2;subst e;refine qMm (RR:=λacc C=>compPost vD X.A X.xe (some (assign (.Name y py) X.env)) (λ_ s'=>SP X aB D .next s') acc C) (λX' _ e=>e.trans hc) I2 O T st2 f2 B rd λacc C ys H' s' I' fC hn na q=>?_
 obtain⟨m,hn⟩:=hn;obtain⟨f0,f1,f3,f4,f5,f6⟩:=fC;show wpAny _ _ (assign (.Name y py) X.env (.ref acc)) _ _ s';refine wpAny_assign_Name (qLd (v:=.ref acc) I' hN hy hx rfl (λs'' I'' ⟨a,sb,ha⟩=>?_) hf);have nCa:C≠a:=by
  rcases ha with z|z
  ·rw[z];exact f1
  ·exact λe=>f5 _ _ z e.symm
 refine⟨m,hn.sameBut sb nCa,λh' sb'=>?_⟩;exact⟨_,upd H' acc (.lst ys),I''.turned (t':=s''.toks) (it:=C) (λb o hb e=>(sb'.2 b hb).trans e) f0 f1 f4 f5 f6,q acc na⟩
end
section
variable{σ0:St}{g:TG}{tt:TT}{te:TE}{Q:List V->Hp->Prop}{H1:Hp}
def Nxt(n i:Nat)(Pv:Nat->List V->Hp->Prop)(ys:List V)(H:Hp):Prop:=∃m',m'<n-i/\m'=n-(i+1)/\i+1<=n/\Pv (i+1) ys H
theorem nxt(hi:i<n)(h:Pv (i+1) ys H):Nxt n i Pv ys H:=⟨_,by omega,rfl,hi,h⟩
theorem qAq{K:PySem.W.Frag}{a:Addr}{xs:List V}(Pv:Nat->List V->Hp->Prop)(h0:Pv 0 [] H1)(hl:∀i ys H,i<=xs.length->Pv i ys H->SqL K H a xs)
  (hs:∀i x ys H,xs[i]?=some x->Pv i ys H->g x σ0 H λσ2 H2=>Sle σ0 σ2/\tt σ2 H2 λb H3=>if b=true then te σ2 H3 (λv H4=>ys.length<sizeLine/\Nxt xs.length i Pv (ys++[v]) H4) else Nxt xs.length i Pv ys H3)
  (hd:∀ys H,Pv xs.length ys H->Q ys H):qEp (Itl K a) σ0 g tt te Q H1:=by
 refine⟨λi m ys H=>m=xs.length-i/\i<=xs.length/\Pv i ys H,⟨xs.length,by simp,hAt _,h0⟩,?_⟩;rintro i m ys H ⟨rfl,hi,p⟩;have q:=hl i ys H hi p;by_cases hlt:i<xs.length
 ·refine .inr ⟨⟨xs,xs[i],q,by simp[hlt]⟩,λx H' y=>?_⟩;obtain⟨e,y⟩:=y;subst e;exact hs i x ys _ (y xs q) p
 ·have e:i=xs.length:=by omega
  subst e;exact .inl ⟨⟨xs,q,hA9 _⟩,hd ys H p⟩
theorem qDy{lo:Int}{n:Nat}(Pv:Nat->List V->Hp->Prop)(h0:Pv 0 [] H1)
  (hs:∀i ys H,i<n->Pv i ys H->g (.int (lo+i)) σ0 H λσ2 H2=>Sle σ0 σ2/\tt σ2 H2 λb H3=>if b=true then te σ2 H3 (λv H4=>ys.length<sizeLine/\Nxt n i Pv (ys++[v]) H4) else Nxt n i Pv ys H3)
  (hd:∀ys H,Pv n ys H->Q ys H):qEp (Itr lo n) σ0 g tt te Q H1:=by
 refine⟨λi m ys H=>m=n-i/\i<=n/\Pv i ys H,⟨n,by simp,hAt _,h0⟩,?_⟩;rintro i m ys H ⟨rfl,hi,p⟩;by_cases hlt:i<n
 ·refine .inr ⟨hlt,λx H' y=>?_⟩;obtain⟨e,y⟩:=y;subst e y;exact hs i ys _ hlt p
 ·have e:i=n:=by omega
  subst e;exact .inl ⟨hA9 _,hd ys H p⟩
end
end L2
namespace L2
open PySem PySem.Spec PyProof.Rows PySem.SeqAt
mutual
inductive DR (K:PySem.W.Frag) (H:Hp):V->PyData->Prop
 |non:DR K H .non .none
 |bl (b:Bool):DR K H (.bl b) (.bool b)
 |int (i:Int):DR K H (.int i) (.int i)
 |str (x:Str):DR K H (.str x) (.str x)
 |lst {a:Addr} {xs:List V} {ds:List PyData}:SqL K H a xs->DRs K H xs ds->DR K H (.ref a) (.list ds)
 |tup {a:Addr} {xs:List V} {ds:List PyData}:SqT K H a xs->DRs K H xs ds->DR K H (.ref a) (.tuple ds)
inductive DRs (K:PySem.W.Frag) (H:Hp):List V->List PyData->Prop
 |nil:DRs K H [] []
 |cons {v:V} {d:PyData} {vs:List V} {ds:List PyData}:DR K H v d->DRs K H vs ds->DRs K H (v :: vs) (d :: ds)
end
section
variable{X:Cx}{aB:List vH}{σ:St}{H:Hp}{s:Shared}
mutual
theorem DR.reads(I:Inv X aB σ H s):∀ {v:V} {d:PyData} {u:Value},DR X.K H v d->qDa v u->∃as,Reads s.heap u d as
 |_,_,_,.non,r=>by cases r;exact⟨_,.none⟩
 |_,_,_,.bl b,r=>by cases r;exact⟨_,.bool b⟩
 |_,_,_,.int i,r=>by obtain⟨t,rfl⟩:=r;exact⟨_,.int i t⟩
 |_,_,_,.str x,r=>by obtain⟨t,rfl⟩:=r;exact⟨_,.str x t⟩
 |_,_,_,.lst hq hd,r=>by
  cases r;obtain⟨its,rv,⟨o,n,e,c,_,dt⟩,_⟩:=I.list hq;obtain⟨as,ra⟩:=DRs.reads I hd rv;exact⟨_,.list e c dt ra⟩
 |_,_,_,.tup hq hd,r=>by
  cases r;obtain⟨its,rv,⟨o,e,c,n,dt⟩,_⟩:=I.tuple hq;obtain⟨as,ra⟩:=DRs.reads I hd rv;exact⟨_,.tuple e c dt ra⟩
theorem DRs.reads(I:Inv X aB σ H s):∀ {vs:List V} {ds:List PyData} {us:List Value},DRs X.K H vs ds->qBx vs us->∃as,ReadsAll s.heap us ds as
 |_,_,_,.nil,r=>by cases r;exact⟨_,.nil⟩
 |_,_,_,.cons h t,r=>by
  cases r with
  |cons r rr =>
   obtain⟨a1,q1⟩:=DR.reads I h r;obtain⟨a2,q2⟩:=DRs.reads I t rr;exact⟨_,.cons q1 q2⟩
end
end
def zF4(K:PySem.W.Frag)(neg:Bool):R2:=λx y H Q=>∃dx dy,DR K H x dx/\DR K H y dy/\shaped dx=true/\shaped dy=true/\Q (.bl (if neg then !PyData.eqv dx dy else PyData.eqv dx dy)) H
section
variable{X:Cx}
theorem qZg(hu:X.A.units+64<cLine):OpR X (compareOp .Eq) (zF4 X.K false):=by
 intro aB s σ H x y v u Q I rx ry h;obtain⟨dx,dy,hx,hy,sx,sy,q⟩:=h;obtain⟨a1,r1⟩:=DR.reads I hx rx;obtain⟨a2,r2⟩:=DR.reads I hy ry;exact eq_dataH r1 r2 sx sy hu ⟨.bl (PyData.eqv dx dy),H,I,rfl,q⟩
theorem qL0(hu:X.A.units+64<cLine):OpR X (compareOp .NotEq) (zF4 X.K true):=by
 intro aB s σ H x y v u Q I rx ry h;obtain⟨dx,dy,hx,hy,sx,sy,q⟩:=h;obtain⟨a1,r1⟩:=DR.reads I hx rx;obtain⟨a2,r2⟩:=DR.reads I hy ry;exact ne_dataH r1 r2 sx sy hu ⟨.bl (!PyData.eqv dx dy),H,I,rfl,q⟩
theorem qEq:∀ {us:List Value},qBx (ss.map V.str) us->StrsAre us ss:=by
 induction ss with
 |nil=>intro us r;cases r;exact .nil
 |cons a l ih =>
  intro us r;cases r with
  |cons r rr =>
   obtain⟨t,rfl⟩:=r;exact .cons a t (ih rr)
theorem qJd:∀ {us:List Value},StrsAre us ss->qBx (ss.map V.str) us:=by
 induction ss with
 |nil=>intro us r;cases r;exact .nil
 |cons a l ih =>
  intro us r;cases r with
  |cons _ _ r=>exact .cons ⟨_,rfl⟩ (ih r)
theorem qDg:qCm X (.builtin "sorted") (λxs H Q=>∃p ss,xs=[.ref p]/\SqL X.K H p (ss.map V.str)/\ss.length<64/\∀r ss',H r=none->ss'.Perm ss->sortedS ss'=true->Q (.ref r) (upd H r (.lst (ss'.map V.str)))):=by
 intro aB s σ H xs us Q I r h;obtain⟨p,ss,rfl,hq,h64,q⟩:=h;obtain⟨u,rfl,rx⟩:=qCy r;cases rx;obtain⟨its,rv,pl,hz⟩:=I.list hq;have hl:=rv.length;rw[hA1]at hl;refine sorted_strs pl.isList (qEq rv) vG λout ss' h1 h2 h3=>?_
 obtain⟨e,he⟩:=sortedAll_at s.heap its out;have nz:H (s.heap.objs.size+1)=none:=I.hok.fresh (hBq _);refine⟨.ref (s.heap.objs.size+1),_,I.laid (t':=s.toks) (a:=s.heap.objs.size+1) (o:=.lst (ss'.map V.str)) (λb o eb=>sortedAll_old eb) (hBq _) ?_,rfl,q _ ss' nz h2 h3⟩;refine⟨?_,out.toList,e,qJd h1,by simpa using he⟩;rw[hA1,h2.length_eq];exact hB9 (qAf vG)
end
end L2
namespace L2
open PySem PySem.Spec PyProof.Rows
section
variable{X:Cx}
theorem qY0:SlR X (λx lo hi H Q=>∃z:Str,x = .str z/\z.length<=sizeLine/\Q (.str (Txt.slice z lo hi)) H):=by
 intro aB s σ H x v vl vu lo hi sl Q I rx hs pl pu h;obtain⟨z,rfl,hz,q⟩:=h;obtain⟨t,rfl⟩:=rx;refine⟨"str",_,F.slot_str_getitem.lookup,typeIs_str _ _ _,?_⟩;obtain⟨o,ho,hc,hd⟩:=hs;have fin:∀t' k,EP X aB σ Q (.str (Txt.slice z lo hi) t') { s with toks:=k }:=λt' k=>⟨.str (Txt.slice z lo hi),H,I.tok k,⟨t',rfl⟩,q⟩
 cases pl with
 |none =>
  cases pu with
  |none=>exact hF0 (l:=none) (u:=none) (st:=none) ⟨o,ho,hc,hd⟩ rfl (hFn ⟨hAw (Txt.slice_le z _ _) hz,fin⟩)
  |int j uj=>exact hF0 (l:=none) (u:=some (j,uj)) (st:=none) ⟨o,ho,hc,hd⟩ rfl (hFn ⟨hAw (Txt.slice_le z _ _) hz,fin⟩)
 |int i ui =>
  cases pu with
  |none=>exact hF0 (l:=some (i,ui)) (u:=none) (st:=none) ⟨o,ho,hc,hd⟩ rfl (hFn ⟨hAw (Txt.slice_le z _ _) hz,fin⟩)
  |int j uj=>exact hF0 (l:=some (i,ui)) (u:=some (j,uj)) (st:=none) ⟨o,ho,hc,hd⟩ rfl (hFn ⟨hAw (Txt.slice_le z _ _) hz,fin⟩)
theorem qC6:qCm X (.builtin "isinstance") (λxs H Q=>∃x t c b,xs=[x,.ty c]/\TyOf X.K H x t/\PySem.W.kitOne X.K t (.type c)=some b/\Q (.bl b) H):=by
 intro aB s σ H xs us Q I r h;obtain⟨x,t,c,b,rfl,ty,e,q⟩:=h;obtain⟨u,w',rfl,rx,rc⟩:=qZ8 r;cases(show w'=Value.type c from rc);exact qT8 I rx ty e λtk=>⟨.bl b,H,I.tok tk,rfl,q⟩
end
section
variable{X:Cx}
theorem qX0(bs:List Bool)(d:Bool):(List.range bs.length).all (λi=>bs.getD i d)=bs.all id:=by
 induction bs with
 |nil=>rfl
 |cons b r ih =>
  rw[hC9,hE3,List.all_cons,List.all_map,List.all_cons];have e:((λi=>(b :: r).getD i d)∘Nat.succ)=λi=>r.getD i d:=by
   funext i;simp
  rw[e,ih];simp
theorem qXz(bs:List Bool)(d:Bool):(List.range bs.length).any (λi=>bs.getD i d)=bs.any id:=by
 induction bs with
 |nil=>rfl
 |cons b r ih =>
  rw[hC9,hE3,hEb,List.any_map,hEb];have e:((λi=>(b :: r).getD i d)∘Nat.succ)=λi=>r.getD i d:=by
   funext i;simp
  rw[e,ih];simp
theorem qYg{P:Program}{w:World}{A:Around}{bs:List Bool}{its:List Value}(rv:qBx (bs.map V.bl) its)(d:Bool):TruthOf P w A (λi v=>its.toArray[i]?=some v) (λi=>bs.getD i d):=by
 intro i v s Q E hv hQ;have hv':its[i]?=some v:=by simpa using hv
 have hi:i<its.length:=(hAp.mp hv').1;have hl:=rv.length;rw[hA1]at hl;have hb:(bs.map V.bl)[i]?=some (V.bl bs[i]):=by rw[hAl,hA2 vG];rfl
 obtain⟨u,hu,ru⟩:=rv.get hb;rw[hv']at hu;have e:v=Value.bool bs[i]:=(hAq hu).trans ru;rw[e];have e2:bs.getD i d=bs[i]:=by rw[hAa,hA2 vG];rfl
 have hQ:Q (bs.getD i d) s:=hQ;rw[e2]at hQ;exact hEt hQ
theorem qF6(hc:X.calm=true):qCm X (.builtin "all") (λxs H Q=>∃(p:Addr) (bs:List Bool),xs=[.ref p]/\SqL X.K H p (bs.map V.bl)/\Q (.bl (bs.all id)) H):=by
 intro aB s σ H xs us Q I r h;obtain⟨p,bs,rfl,hq,q⟩:=h;obtain⟨u,rfl,rx⟩:=qCy r;cases rx;obtain⟨its,rv,pl,hz⟩:=I.list hq;have hl:=rv.length;rw[hA1]at hl;have hne:p≠s.heap.objs.size:=by
  obtain⟨o,n,e,_⟩:=pl;exact hAx (Heap.lt_size e)
 have hh:=I.ok.hd hc;refine call_all_walk (hFc pl.isList ?_);refine⟨s.heap.objs.size,_,_,_,_,_,λi=>bs.getD i true,rfl,Walks.list (by exact hh) _ p hne its.toArray,⟨⟨_,Heap.get?_push_size _ rfl,rfl,rfl⟩,pl.isList.at λo e=>Heap.get?_push_of_some _ e⟩,qYg rv true,λh' tk hk=>?_⟩;refine⟨.bl (bs.all id),H,I.kept (t':=tk) λb o e=>hk b o ?_ (Heap.get?_push_of_some _ e),?_,q⟩
 ·intro z;rw[hA3]at z;exact absurd (Heap.lt_size e) (by rw[z];exact hCv _)
 ·show Value.bool _=Value.bool _;rw[hAk,<-hl,qX0]
theorem qVi(hc:X.calm=true):qCm X (.builtin "any") (λxs H Q=>∃(p:Addr) (bs:List Bool),xs=[.ref p]/\SqL X.K H p (bs.map V.bl)/\Q (.bl (bs.any id)) H):=by
 intro aB s σ H xs us Q I r h;obtain⟨p,bs,rfl,hq,q⟩:=h;obtain⟨u,rfl,rx⟩:=qCy r;cases rx;obtain⟨its,rv,pl,hz⟩:=I.list hq;have hl:=rv.length;rw[hA1]at hl;have hne:p≠s.heap.objs.size:=by
  obtain⟨o,n,e,_⟩:=pl;exact hAx (Heap.lt_size e)
 have hh:=I.ok.hd hc;refine call_any_walk (hFc pl.isList ?_);refine⟨s.heap.objs.size,_,_,_,_,_,λi=>bs.getD i true,rfl,Walks.list (by exact hh) _ p hne its.toArray,⟨⟨_,Heap.get?_push_size _ rfl,rfl,rfl⟩,pl.isList.at λo e=>Heap.get?_push_of_some _ e⟩,qYg rv true,λh' tk hk=>?_⟩;refine⟨.bl (bs.any id),H,I.kept (t':=tk) λb o e=>hk b o ?_ (Heap.get?_push_of_some _ e),?_,q⟩
 ·intro z;rw[hA3]at z;exact absurd (Heap.lt_size e) (by rw[z];exact hCv _)
 ·show Value.bool _=Value.bool _;rw[hAk,<-hl,qXz]
end
theorem qN6(t:SetTable)(n:Nat):(t.orStandIn n).led=t.led:=by
 unfold SetTable.orStandIn;split <;> rfl
theorem qRi(t:SetTable)(es:Array (Int×Value))(h:Int)(x:Value):(layNew t es h x).2.1.led=t.led:=by
 unfold layNew;split
 ·exact qN6 _ _
 ·rfl
theorem qS6(t:SetTable)(es:Array (Int×Value))(k:Nat):(relayAll t es k).2.1.led=t.led:=by
 unfold relayAll;split
 ·rename_i u order e;have eu:u.led=t.led:=by
   unfold SetTable.relaid SetTable.laid at e;cases hc:SetTable.layClean (SetTable.sizeAbove k-1) (es.map (·.1)) with
   |none=>rw[hc]at e;cases e
   |some o =>
    rw[hc]at e;injection e with e
    injection e with e1 e2
    rw[<-e1]
  dsimp only;split
  ·exact eu
  ·rfl
 ·rfl
theorem qNw(t:SetTable)(es:Array (Int×Value))(k:Nat)(hp:t.plain=false):(relayAll t es k).2.1.plain=false:=by
 unfold relayAll;split
 ·rename_i u order e;have eu:u.plain=t.plain:=by
   unfold SetTable.relaid SetTable.laid at e;cases hc:SetTable.layClean (SetTable.sizeAbove k-1) (es.map (·.1)) with
   |none=>rw[hc]at e;cases e
   |some o =>
    rw[hc]at e;injection e with e
    injection e with e1 e2
    rw[<-e1]
  dsimp only;split
  ·exact eu.trans hp
  ·rfl
 ·rfl
def qCg(P:Program)(w:World)(h:Heap)(a:Addr)(ss:List Str):Prop :=
 ∃(es:Array (Int×Value)) (ep:Nat) (t:SetTable),h.get? a=some { cls:=.type "set",dict:=none,data:=.set es ep t,slots:=#[] }/\ElemsOf (PySem.strKind P w) es.toList /\
  StrsAre (es.toList.map (·.2)) ss/\es.size<scanBound/\t.fits es.size=true/\t.led=!w.params.followText "set-order"/\(es.size≠0->t.plain=false)
theorem qJn:∀ {vs:List Value} {ss:List Str},StrsAre vs ss->((∃v∈vs,Value.isStrOf x v=true)↔x∈ss)
 |_,_,.nil=>by simp
 |_,_,.cons y t r=>by
  have ih:=qJn (x:=x) r;have hy:Value.isStrOf x (.str y t)=true↔x=y:=by
   constructor
   ·intro h;obtain⟨u,e⟩:=Value.isStrOf_shape h;cases e;rfl
   ·rintro rfl;simp[Value.isStrOf]
  constructor
  ·rintro⟨v,hv,hp⟩;rcases hAj.mp hv with rfl|hv
   ·rw[hy.mp hp];exact hA8
   ·exact hA6 _ (ih.mp ⟨v,hv,hp⟩)
  ·intro h;rcases hAj.mp h with h|h
   ·exact⟨_,hA8,hy.mpr h⟩
   ·obtain⟨v,hv,hp⟩:=ih.mpr h;exact⟨v,hA6 _ hv,hp⟩
theorem qR4{es es1:List (Int×Value)}{ss:List Str}{k:Int}{x:Str}{t:Tok}(hS:StrsAre (es.map (·.2)) ss)(p:es1.Perm (es++[(k,.str x t)])):∃ss1,StrsAre (es1.map (·.2)) ss1/\ss1.Perm (ss++[x]):=by
 have hall:∀v,v∈es1.map (·.2)->∃y u,v = .str y u:=by
  intro v hv;obtain⟨e,he,rfl⟩:=hAe.mp hv;rcases hAb.mp (p.mem_iff.mp he) with z|z
  ·exact hS.all _ (hAu z)
  ·rw[hA3]at z;subst z;exact⟨x,t,rfl⟩
 refine⟨_,strsAre_map _ hall,?_⟩;have q:=(p.map (·.2)).map strOf;rw[hA4,hA4,hS.strs]at q;exact q
theorem qGa{es es1:List (Int×Value)}{ss:List Str}(hS:StrsAre (es.map (·.2)) ss)(p:es1.Perm es):∃ss1,StrsAre (es1.map (·.2)) ss1/\ss1.Perm ss:=by
 have hall:∀v,v∈es1.map (·.2)->∃y u,v = .str y u:=by
  intro v hv;obtain⟨e,he,rfl⟩:=hAe.mp hv;exact hS.all _ (hAu (p.mem_iff.mp he))
 refine⟨_,strsAre_map _ hall,?_⟩;have q:=(p.map (·.2)).map strOf;rw[hS.strs]at q;exact q
section
variable{P:Program}{w:World}{A:Around}{E:Value->Shared->Prop}{s:Shared}{a:Addr}{ss:List Str}
theorem qI1(ho:s.heap.get? a=some { cls:=.type "set",dict:=none,data:=.set es ep t,slots:=#[] }) :
  (s.heap.update a (Obj.putSet es' t')).get? a=some { cls:=.type "set",dict:=none,data:=.set es' (ep+1) t',slots:=#[] }:=by
 have q:=Heap.get?_update_self (Obj.putSet es' t') ho (by rw[putSet_of es' t' rfl];rfl);rw[putSet_of es' t' rfl]at q;exact q
theorem qLc{g:Bool->Sem Unit}(hg:∀(b:Bool) (s1:Shared) (Q':Unit->Shared->Prop),Q' () s1->wpAny (model P w) A (g b) Q' E s1){es es1:Array (Int×Value)}{ep:Nat}{t t2:SetTable}{ss1:List Str}
  (ho:s.heap.get? a=some { cls:=.type "set",dict:=none,data:=.set es ep t,slots:=#[] }) (e1:ElemsOf (PySem.strKind P w) es1.toList) (e2:StrsAre (es1.toList.map (·.2)) ss1) (e3:es1.size<scanBound) (e4:t2.fits es1.size=true)
  (e5:t2.led=!w.params.followText "set-order") (e6:t2.plain=false) {wasD:Bool} {R:Option Bool->Shared->Prop} (h:∀h' ss',Heap.SameBut a s.heap h'->qCg P w h' a ss'->ss'.Perm ss1->R (some true) { s with heap:=h' }) :
  wpAny (model P w) A (do
    storeSet a es1 t2
    if (!wasD && t2.tooFull)=true then do
      g (relayAll t2 es1 (SetTable.grown es1.size)).2.2
      storeSet a (relayAll t2 es1 (SetTable.grown es1.size)).1 (relayAll t2 es1 (SetTable.grown es1.size)).2.1
      pure (some true)
     else pure (some true)) R E s:=by
 refine hEe (wpAny_storeSet_of ho rfl ?_ (hFd e3));have o1:(s.heap.update a (Obj.putSet es1 t2)).get? a=_:=qI1 (s:=s) ho;have b1:=Heap.SameBut.update s.heap a (Obj.putSet es1 t2);split
 ·have p:=relayAll_perm t2 es1 (SetTable.grown es1.size);have f:=relayAll_fits t2 es1 (SetTable.grown es1.size);have l:=qS6 t2 es1 (SetTable.grown es1.size);have pl:=qNw t2 es1 (SetTable.grown es1.size) e6;generalize relayAll t2 es1 (SetTable.grown es1.size)=Rl at p f l pl ⊢;obtain⟨es2,t3,gv⟩:=Rl;dsimp only at p f l pl ⊢;have z2:es2.size=es1.size:=by rw[<-hC3,p.length_eq,hC3]
  obtain⟨ss2,q1,q2⟩:=qGa e2 p;refine hEe (hg _ _ _ (hEe (wpAny_storeSet_of o1 rfl ?_ (hFd (by rw[z2];exact e3)))));have o2:((s.heap.update a (Obj.putSet es1 t2)).update a (Obj.putSet es2 t3)).get? a=_:=qI1 (s:={ s with heap:=s.heap.update a (Obj.putSet es1 t2) }) o1;exact hEh (h _ ss2 (b1.trans (Heap.SameBut.update _ a _)) ⟨es2,_,t3,o2,e1.perm p,q1,by rw[z2];exact e3,f,l.trans e5,λ_=>pl⟩ q2)
 ·exact hEh (h _ ss1 b1 ⟨es1,_,t2,o1,e1,e2,e3,e4,e5,λ_=>e6⟩ (hDg _))
theorem qV4(hS:qCg P w s.heap a ss)(room:ss.length+1<scanBound)
  (h:∀h' ss',Heap.SameBut a s.heap h'->qCg P w h' a ss'->(if x∈ss then ss'=ss else ss'.Perm (ss++[x]))->Q (!decide (x∈ss)) { s with heap:=h' }) :
  wpAny (model P w) A (setAddHashed a (.str x tk) ((PySem.strKind P w).hash x)) Q E s:=by
 obtain⟨es,ep,t,ho,e1,e2,e3,e4,e5,e6⟩:=hS;have hk:(PySem.strKind P w).is x (.str x tk)=true:=strKind_is P w x tk;have hsc:Value.scannable (.str x tk)=true:=rfl;have hz:ss.length=es.size:=by rw[<-e2.strs,hA1,hA1,hC3]
 unfold setAddHashed setAddHashedIn;refine hEs (hEe (hEz ho rfl e4 ?_));dsimp only;rw[byScan_of hsc e3 e1,hEk rfl];unfold setAddByScan;refine hEe (hEe (hFs (hEe (wpAny_setScan_of hk ho rfl e4 e1 ?_))));cases hr:List.findIdx? (λe=>(PySem.strKind P w).is x e.2) es.toList with
 |some j =>
  dsimp only;obtain⟨hj,hp,_⟩:=List.findIdx?_eq_some_iff_getElem.mp hr;have hm:x∈ss:=(qJn e2).mp ⟨_,hAu (hBn hj),hp⟩;have q:=h s.heap ss (Heap.SameBut.refl a _) ⟨es,ep,t,ho,e1,e2,e3,e4,e5,e6⟩ (by rw[hEk hm]);rw[hEf hm]at q;exact hEh (hEh q)
 |none =>
  dsimp only;have hm:¬x∈ss:=λz=>by
   obtain⟨v,hv,hp⟩:=(qJn e2).mpr z;obtain⟨e,he,rfl⟩:=hAe.mp hv;have q:=List.findIdx?_eq_none_iff.mp hr e he;rw[show(PySem.strKind P w).is x e.2=true from hp]at q;cases q
  have gw:∀(b:Bool) (s1:Shared) (Q':Unit->Shared->Prop),Q' () s1->wpAny (model P w) A (match b with|true=>rule "set.scan.the-table-gave-way" |false=>pure ()) Q' E s1:=λb s1 Q' hq=>by
   cases b
   ·exact hEh hq
   ·exact hFs hq
  have p:=layNew_perm t es ((PySem.strKind P w).hash x) (.str x tk);have f:=layNew_fits t es ((PySem.strKind P w).hash x) (.str x tk);have l:=qRi t es ((PySem.strKind P w).hash x) (.str x tk);generalize layNew t es ((PySem.strKind P w).hash x) (.str x tk)=L at p f l ⊢;obtain⟨es1,t1,wasD,gv⟩:=L;dsimp only at p f l ⊢;rw[Array.toList_push]at p;have d1:ElemsOf (PySem.strKind P w) es1.toList:=(e1.push hk hsc).perm p;obtain⟨ss1,d2,d3⟩:=qR4 e2 p;have z1:es1.size=es.size+1:=by rw[<-hC3,p.length_eq,hAf,hC3];rfl
  have d4:es1.size<scanBound:=by rw[z1,<-hz];exact room
  have fin:∀h' ss',Heap.SameBut a s.heap h'->qCg P w h' a ss'->ss'.Perm ss1->Q true { s with heap:=h' }:=λh' ss' b1 b2 b3=>by
   have q:=h h' ss' b1 b2 (by rw[hEj hm];exact b3.trans d3);rw[hEg hm]at q;exact q
  refine hEe (gw _ _ _ ?_);split
  ·rename_i hpl;refine hEe ?_;rw[hashByValue_scannable 8 hsc];refine hEh ?_;refine qLc gw ho d1 d2 d4 (SetTable.fits_plain_off f) (l.trans e5) rfl λh' ss' b1 b2 b3=>?_
   exact hEh (fin h' ss' b1 b2 b3)
  ·rename_i hpl;refine hEe (hEh ?_);rw[hEk rfl];refine qLc gw ho d1 d2 d4 f (l.trans e5) (by simpa using hpl) λh' ss' b1 b2 b3=>?_
   exact hEh (fin h' ss' b1 b2 b3)
end
theorem qCg.at(x:qCg P w h a ss)(k:∀o,h.get? a=some o->h'.get? a=some o):qCg P w h' a ss:=by
 obtain⟨es,ep,t,ho,r⟩:=x;exact⟨es,ep,t,k _ ho,r⟩
def qV2(val:Nat->Str)(i:Nat)(ss:List Str):Prop:=ss.Nodup/\ss.length<=i/\∀x,x∈ss↔∃j,j<i/\val j=x
theorem qV2.zero(val:Nat->Str):qV2 val 0 []:=⟨List.nodup_nil,hA9 _,λx=>by simp⟩
theorem qV2.next(h:qV2 val i ss)(e:if val i∈ss then ss'=ss else ss'.Perm (ss++[val i])):qV2 val (i+1) ss':=by
 obtain⟨h1,h2,h3⟩:=h;by_cases hm:val i∈ss
 ·rw[hEk hm]at e;subst e;refine⟨h1,by omega,λx=>(h3 x).trans ⟨λ⟨j,a,b⟩=>⟨j,by omega,b⟩,λ⟨j,a,b⟩=>?_⟩⟩;by_cases hj:j<i
  ·exact⟨j,hj,b⟩
  ·have:j=i:=by omega
   subst this;subst b;exact(h3 _).mp hm
 ·rw[hEj hm]at e;refine⟨e.nodup_iff.mpr ?_,?_,λx=>?_⟩
  ·rw[hDu];exact⟨h1,by simp,λy hy z hz=>by rw[hA3]at hz;subst hz;rintro rfl;exact hm hy⟩
  ·rw[e.length_eq,hAf]
   simpa using h2
  ·rw[e.mem_iff,hAb,h3 x,hA3];constructor
   ·rintro(⟨j,a,b⟩|rfl)
    ·exact⟨j,by omega,b⟩
    ·exact⟨i,by omega,rfl⟩
   ·rintro⟨j,a,b⟩;by_cases hj:j<i
    ·exact .inl ⟨j,hj,b⟩
    ·have:j=i:=by omega
     subst this;exact .inr b.symm
section
variable{P:Program}{w:World}{A:Around}{R:Result->Shared->Prop}{I:Addr}{fp wr:List Addr}{G:Array GenState->Array GenState->Prop}{n:Nat}{Pv:Nat->Value->Prop}{St:Nat->Shared->Prop}
theorem qRz(W:WalksS P w A.in1 I fp wr G n Pv St)(S:Addr)(nS:S∉fp)(val:Nat->Str)(hv:∀i v,Pv i v->∃t,v = .str (val i) t)(nb:n+1<scanBound):∀(k i:Nat) (s:Shared) (ss:List Str),n-i=k->i<=n->St i s->qCg P w s.heap S ss->qV2 val i ss ->
  (∀s' ss',Moved (S :: wr) G s s'->qCg P w s'.heap S ss'->qV2 val n ss'->R (.ok (.ret .none)) s')->codeAny (model P w) A (.builtin "set.update.loop" ⟨[.ref S,.ref I],[]⟩) R s:=by
 have nw:S∉wr:=λz=>nS (W.sub _ z)
 have sub:∀b∈wr,b∈S :: wr:=λb z=>hA6 _ z
 intro k
 induction k with
 |zero =>
  intro i s ss hk hi st hS ho r;have e:i=n:=by omega
  subst e;refine hEr PyProof.Rows.F.entry_set_update_loop ?_;rw[Around.under_plainId PyProof.Rows.F.plain_set_update_loop _];show wpAny _ A.in1 (pyNext (.ref I) >>= _) _ _ _;refine hEe (W.done s _ _ st λs1 m1=>hEh (r s1 ss (m1.mono sub) (hS.at λo z=>m1.heap S o nw z) ho))
 |succ k ih =>
  intro i s ss hk hi st hS ho r;have lt:i<n:=by omega
  refine hEr PyProof.Rows.F.entry_set_update_loop ?_;rw[Around.under_plainId PyProof.Rows.F.plain_set_update_loop _];show wpAny _ A.in1 (pyNext (.ref I) >>= _) _ _ _;refine hEe (W.item i s _ _ lt st λv s1 pv st1 m1=>?_);obtain⟨t,rfl⟩:=hv i v pv;have hS1:qCg P w s1.heap S ss:=hS.at λo z=>m1.heap S o nw z
  show wpAny _ A.in1 (holding [Value.str (val i) t] (setAdd S (.str (val i) t)) >>= _) _ _ s1;refine hEe (hEs ?_);unfold setAdd;refine hEs (hEe ((PySem.strKind P w).pyHash (strKind_is P w _ _) ?_));refine qV4 (s:={ s1 with toks:=s1.toks+1 }) hS1 (by have:=ho.2.1;omega) λh2 ss2 sb2 hS2 q2=>?_
  refine hEh ⟨hEw PyProof.Rows.F.plain_set_update_loop _,ih (i+1) _ ss2 vG lt (W.frame _ s1 _ _ st1 (hBq _) λb hb o e=>?_) hS2 (ho.next q2) λs3 ss3 m3 hS3 o3=>?_⟩
  ·rw[sb2.2 b (λz:b=S=>nS (by rw[<-z];exact hb))];exact e
  ·refine r s3 ss3 (Moved.trans W.gtrans ((m1.mono sub).then_heap (hBq _) λb o hb e=>?_) m3) hS3 o3;rw[sb2.2 b (λz:b=S=>hb (by rw[z];exact hA8))];exact e
end
section
variable{P:Program}{w:World}{A:Around}{E:Value->Shared->Prop}{s:Shared}
noncomputable abbrev qSl(w:World):Obj:={ cls:=.type "set",dict:=none,data:=.set #[] 0 (.fresh 0 0 (!w.params.followText "set-order")),slots:=#[] }
theorem zAj(P:Program)(w:World)(e:h.get? a=some (qSl w)):qCg P w h a []:=⟨#[],0,_,e,λe he=>by simp at he,.nil,by show 0<scanBound;decide,by rfl,rfl,λz=>absurd rfl z⟩
theorem qU9(v:Value)(h:Q1 (.ref s.heap.objs.size) { s with heap:=s.heap.push (qSl w) }):codeAny (model P w) A (.call (.builtin "set.__new__") ⟨[.type "set",v],[]⟩) (wants Q1 E) s:=by
 refine codeAny_of_tree ?_;show wpAny _ A.in1 (do checkBuiltinCall "set.__new__" ⟨[.type "set",v],[]⟩;again (.builtin "set.__new__" ⟨[.type "set",v],[]⟩)) _ _ s;refine hEe (hF1 (PySem.F.newCall_set_1 v) (hEh ⟨hEw PySem.F.plain_set_new _,hEr PySem.F.entry_set_new ?_⟩));rw[Around.under_plainId PySem.F.plain_set_new _];unfold Builtin.«set.__new__» Builtin.Frozenset.newClass;have hsub:=sub_set_self;obtain⟨hp,g,d,tk,os⟩:=s;dsimp only
 wp_walk
 refine hF6 (hEh ?_);dsimp only;simp only[newObj];exact hEe (wpAny_alloc (hEh (hEh h)))
theorem qVe(hh:A.handled=none)(hl:s.heap.IsList l items)(hi:StrsAre items.toList ss0)(hb:items.size+1<scanBound)
  (h:∀(h':Heap) (tk:Nat) (ss:List Str),qCg P w h' s.heap.objs.size ss->qV2 (λi=>ss0.getD i default) items.size ss->(∀b o,b<s.heap.objs.size->s.heap.get? b=some o->h'.get? b=some o)->Q (.ref s.heap.objs.size) { s with heap:=h',toks:=tk }) :
  wpAny (model P w) A (call (.type "set") [.ref l]) Q E s:=by
 obtain⟨c,tl,hmro⟩:=hCx.mro;have hmade:=hCx.made;have hsub:=hCx.sub;refine wpAny_call (codeAny_of_tree ?_);show wpAny _ _ (callAny (.type "set") _) _ _ _;refine hEh ⟨Code.quiet_builtin _ (by decide +kernel),hEr PySem.F.entry_type_call ?_⟩;rw[Around.under_plain (weight_type_call_type "set" [.ref l] []) rfl];have h1:=hCx.notType;have h2:=hCx.canCreate;have hct:=PySem.F.typeCall_set_1 (.ref l)
 repeat (any_goals (first|assumption|wp_step))
 refine hF9 (qU9 (.ref l) (E:=E) (Q1:=λobj s1=>obj = .ref s.heap.objs.size/\s1={ s with heap:=s.heap.push (qSl w) }) ⟨rfl,rfl⟩) λr s1 hr=>?_
 cases r with
 |error e=>exact hr
 |ok fl =>
  cases fl with
  |ret obj =>
   obtain⟨rfl,rfl⟩:=hr;have hS:(s.heap.push (qSl w)).get? s.heap.objs.size=some (qSl w):=Heap.get?_push_size _ rfl;have hT:Shared.TypeIs { s with heap:=s.heap.push (qSl w) } (.ref s.heap.objs.size) "set":=⟨_,hS,rfl⟩;have hli:=hCx.init.lookup;have hbi:=hCx.init.bind (.ref s.heap.objs.size)
   repeat (any_goals (first|assumption|wp_step))
   refine hF9 (codeAny_call_builtin (R:=wants (λr s2=>r = .none/\∃h' tk ss,s2={ s with heap:=h',toks:=tk }/\qCg P w h' s.heap.objs.size ss/\qV2 (λi=>ss0.getD i default) items.size ss /\
     (∀b o,b<s.heap.objs.size->s.heap.get? b=some o->h'.get? b=some o)) E) hCx.init.plain PySem.F.entry_set_init (check_set_init_1 hT ?_)) λr2 s2 hr2=>?_
   ·obtain⟨ol,hol,hcl,nl,hdl⟩:=hl;obtain⟨ocls,odict,odata,oslots⟩:=ol;simp only at hcl hdl;subst hcl;subst hdl;have hol':(s.heap.push (qSl w)).get? l=some { cls:=.type "list",dict:=odict,data:=.seq items nl,slots:=oslots }:=Heap.get?_push_of_some _ hol;have hsls:=PySem.F.sub_list_set;have hslf:=PySem.F.sub_list_frozenset;have hne:(Value.type "list" == Value.type "dict")=false:=by decide
    have hl1:(s.heap.push (qSl w)).IsList l items:=⟨_,hol',rfl,nl,rfl⟩;unfold Builtin.«set.__init__» noKeywords Builtin.Frozenset.updateFrom;generalize hPI:pyIter=PI
    wp_walk
    subst hPI;refine hFc hl1 (hEe (wpAny_runValue ?_));have lS:l<s.heap.objs.size:=Heap.lt_size hol;have h3:A.in1.in1.in1.handled=none:=by simp[hh]
    have nI:l≠(s.heap.push (qSl w)).objs.size:=by
     rw[Heap.size_push];exact hAx (hC1 lS)
    have nF:s.heap.objs.size∉[(s.heap.push (qSl w)).objs.size,l]:=by
     rw[Heap.size_push];simp only[hAj,hA3,hD1,hFo,not_or];exact⟨hAx (hC8 _),hCj lS⟩
    have hval:∀(i:Nat) (v:Value),items[i]?=some v->∃t,v = .str ((λi=>ss0.getD i default) i) t:=λi v hv=>by
     have hv':items.toList[i]?=some v:=by rw[hBi];exact hv
     obtain⟨x,t,rfl⟩:=hi.all v (hAc hv');refine⟨t,?_⟩;have e:=congrArg (λz=>z[i]?) hi.strs;simp only[hAl,hv']at e;show Value.str x t=Value.str (ss0.getD i default) t;rw[hAa,<-e];rfl
    refine qRz ((Walks.list h3 _ l nI items).toS) s.heap.objs.size nF (λi=>ss0.getD i default) hval hb (items.size-0) 0 _ [] vG (hAt _) ⟨⟨_,Heap.get?_push_size _ rfl,rfl,rfl⟩,(hl1.push _)⟩ (zAj P w (Heap.get?_push_of_some _ hS)) (qV2.zero _) λs' ss' hm hS' hO=>?_
    obtain⟨h',g',d',tk',os'⟩:=s';cases(show g'=s.gens from hm.gens);cases(show d'=s.drawn from hm.drawn);cases(show os'=s.os from hm.os);show wpAny _ _ _ _ _ _;refine hEh ?_;show wpAny _ _ (ret Value.none) _ _ _;refine hEh ⟨rfl,h',tk',ss',rfl,hS',hO,λb o hb e=>?_⟩;have b1:b≠s.heap.objs.size:=hAx hb;have b2:b≠(s.heap.push (qSl w)).objs.size:=by
     rw[Heap.size_push];exact hAx (hC1 hb)
    exact hm.heap b o (by simp only[hAj,hA3,hD1,hFo,not_or];exact⟨b1,b2⟩) (Heap.get?_push_of_some _ (Heap.get?_push_of_some _ e))
   ·cases r2 with
    |error e=>exact hr2
    |ok fl2 =>
     cases fl2 with
     |ret r =>
      obtain⟨rfl,h',tk,ss,rfl,hS',hO,hk'⟩:=hr2
      repeat (any_goals (first|assumption|wp_step))
      exact h _ _ _ hS' hO hk'
     |_=>exact hr2.elim
  |_=>exact hr.elim
end
namespace FS
theorem entry_set_iter':entryFor table "set.__iter__"=some Builtin.«frozenset.__iter__»:=entryFor_alias (id':="frozenset.__iter__") (by kernel_rfl) rfl (by decide +kernel) (by kernel_rfl)
theorem slot_sin:Slot "set_iterator" "__next__" "set_iterator.__next__":=.of (owner:="set_iterator") (n:="__next__") (by rw[typeLookup_type,builtinLookup_eq_fast];kernel_rfl) (by decide +kernel) (by decide +kernel) (by decide +kernel) (by first|exact .inl (by decide +kernel)|exact .inr (by decide +kernel)) (by rw[isSubtype_type];kernel_rfl)
theorem entry_sin:entryFor table "set_iterator.__next__"=some Builtin.«set_iterator.__next__»:=entryFor_of_tree (by kernel_rfl)
theorem qPu:Manifest.owners.lookup (String.ofList ['r','o','t','a','r','e','t','i','_','t','e','s'].reverse)=some Manifest.sig_set_iterator:=by kernel_rfl
theorem args_sin(a:Value):argsOk "set_iterator.__next__" ⟨[a],[]⟩:=by
 unfold argsOk;rw[signature?_of (id:="set_iterator.__next__") (n:=['_','_','t','x','e','n','_','_']) (o:=['r','o','t','a','r','e','t','i','_','t','e','s']) (by kernel_rfl) qPu];kernel_rfl
theorem slot_sii:Slot "set_iterator" "__iter__" "set_iterator.__iter__":=.of (owner:="set_iterator") (n:="__iter__") (by rw[typeLookup_type,builtinLookup_eq_fast];kernel_rfl) (by decide +kernel) (by decide +kernel) (by decide +kernel) (by first|exact .inl (by decide +kernel)|exact .inr (by decide +kernel)) (by rw[isSubtype_type];kernel_rfl)
theorem entry_sii:entryFor table "set_iterator.__iter__"=some Builtin.«dict_keyiterator.__iter__»:=entryFor_alias (id':="dict_keyiterator.__iter__") (by kernel_rfl) (by first|rfl|decide +kernel|(unfold String.splitOn;simp +decide [String.splitOnAux])) (by decide +kernel) (by kernel_rfl)
theorem args_sii(a:Value):argsOk "set_iterator.__iter__" ⟨[a],[]⟩:=by
 unfold argsOk;rw[signature?_of (id:="set_iterator.__iter__") (n:=['_','_','r','e','t','i','_','_']) (o:=['r','o','t','a','r','e','t','i','_','t','e','s']) (by kernel_rfl) qPu];kernel_rfl
end FS
theorem qGm:∀(l:List α) (i:Nat) (x:α),l[i]?=some x->(x :: l.eraseIdx i).Perm l
 |[],i,x,h=>by simp at h
 |y :: l,0,x,h=>by simp at h;subst h;exact hDg _
 |y :: l,i+1,x,h=>by
  have q:=qGm l i x (by simpa using h);rw[List.eraseIdx_cons_succ];exact(List.Perm.swap y x _).trans (q.cons y)
section
variable{M:Model}{A:Around}{E:Value->Shared->Prop}{s:Shared}
theorem qRu(hn:n≠0)(h:∀i d,i<n->Q i { s with drawn:=d }):wpAny M A (choose src n) Q E s:=fun Γ p _=>⟨hn,h _ _ (Nat.mod_lt _ (Nat.pos_of_ne_zero hn))⟩
theorem qGs:∀(n:Nat) (xs:List α) (s:Shared) (Q:List α->Shared->Prop),xs.length=n->(∀ys d,ys.Perm xs->Q ys { s with drawn:=d })->wpAny M A (drawOrder n xs) Q E s
 |0,xs,s,Q,hl,h=>by
  have e:xs=[]:=List.length_eq_zero_iff.mp hl;subst e;exact hEh (h [] s.drawn (hDg _))
 |n+1,[],s,Q,hl,h=>by simp at hl
 |n+1,y :: ys,s,Q,hl,h=>by
  show wpAny M A (choose .order (y :: ys).length >>= _) Q E s;refine hEe (qRu vI λi d hi=>?_);have e:(y :: ys)[i]?=some (y :: ys)[i]:=hA2 hi;rw[e];dsimp only;have p:=qGm (y :: ys) i _ e;refine hEe (qGs n ((y :: ys).eraseIdx i) _ _ ?_ λzs d2 pz=>hEh (h _ d2 ((pz.cons _).trans p)));have:=p.length_eq;simp only[hC9]at this hl ⊢;omega
end
theorem qTe(next:Nat->Nat):∀(n k:Nat) (left:List α) (out:Array α),left.length=n->(pickOrder.go next n k left out).toList.Perm (out.toList++left)
 |0,k,left,out,hl=>by
  have e:left=[]:=List.length_eq_zero_iff.mp hl;subst e;rw[pickOrder.go,hCc]
 |n+1,k,left,out,hl=>by
  rw[pickOrder.go];have hi:next k % left.length<left.length:=Nat.mod_lt _ vG;have e:left[next k % left.length]?=some left[next k % left.length]:=hA2 hi;rw[e];dsimp only;have p:=qGm left _ _ e;have l:=p.length_eq;simp only[hC9]at l;refine(qTe next n (k+1) _ _ vG).trans ?_;rw[Array.toList_push,List.append_assoc];exact List.Perm.append_left _ p
theorem pick_perm(next:Nat->Nat)(xs:Array α):(pickOrder next xs).toList.Perm xs.toList:=by
 have q:=qTe next xs.size 0 xs.toList #[] vI
 simpa [pickOrder] using q
section
variable{P:Program}{w:World}{A:Around}{E:Value->Shared->Prop}{s:Shared}{a:Addr}{es:Array (Int×Value)}{ep:Nat}{t:SetTable}
theorem qM4(ho:s.heap.get? a=some { cls:=.type "set",dict:=none,data:=.set es ep t,slots:=#[] })(hf:t.fits es.size=true)(h:Q (!w.params.followText "set-order" && (!t.plain && decide (es.size > 1))) s):wpAny (model P w) A (setDrawn a) Q E s:=by
 unfold setDrawn;refine hEe (hEz ho rfl hf ?_);unfold setsByText;exact hEe (hEe (hF6 (hEh (hEh h))))
theorem qM2(ho:s.heap.get? a=some { cls:=.type "set",dict:=none,data:=.set es ep t,slots:=#[] })(hf:t.fits es.size=true)(hb:w.params.followText "set-order"=true)
  (h:Q (((pickOrder (w.params.setOrder a ep) es)[i]?).map λe=>(e.2,slot)) s):wpAny (model P w) A (setNext a slot i ep) Q E s:=by
 unfold setNext;refine hEe (hEz ho rfl hf ?_);unfold setsByText;refine hEe (hEe (hF6 (hEh ?_)));show wpAny _ _ (if (w.params.followText "set-order")=true then _ else _) _ _ _;rw[hEk hb];rw[hEj vI];unfold setWalk;refine hEe (hEe (hEz ho rfl hf ?_));unfold setsByText;refine hEe (hEe (hF6 (hEh ?_)));show wpAny _ _ (if (w.params.followText "set-order")=true then _ else _) _ _ _;rw[hEk hb];exact hEe (hF6 (hEh (hEh h)))
theorem qM3(ho:s.heap.get? a=some { cls:=.type "set",dict:=none,data:=.set es ep t,slots:=#[] })(hf:t.fits es.size=true)(hb:w.params.followText "set-order"=false)(h1:es.size<=1)(hl:t.led=true)
  (h:Q (match es[SetTable.below t.place slot]?,t.place[SetTable.below t.place slot]? with|some (_,x),some j=>some (x,j+1)|_,_=>none) s):wpAny (model P w) A (setNext a slot i ep) Q E s:=by
 unfold setNext;refine hEe (hEz ho rfl hf ?_);unfold setsByText;refine hEe (hEe (hF6 (hEh ?_)));show wpAny _ _ (if (w.params.followText "set-order")=true then _ else _) _ _ _;rw[hEj (by rw[hb];exact hB3)];show wpAny _ _ (if (!t.plain && decide (es.size > 1))=true then _ else _) _ _ _;rw[hEj (by rw[hCm];rintro⟨_,z⟩;have:=hEi z;omega)];refine hEe ?_;show wpAny _ _ (if (!t.led && !es.isEmpty)=true then _ else _) _ _ _;rw[hEj (by rw[hl];simp)];exact hEh (hEh h)
end
end L2
namespace L2
open PySem PySem.Spec PyProof.Rows
noncomputable abbrev sIt(a:Addr)(f0:Value)(i n ep:Nat):Obj:={ cls:=.type "set_iterator",dict:=none,data:=.fields #[f0,rawInt i,.ref a,rawInt n,rawInt ep],slots:=#[] }
noncomputable abbrev sOb(es:Array (Int×Value))(ep:Nat)(t:SetTable):Obj:={ cls:=.type "set",dict:=none,data:=.set es ep t,slots:=#[] }
section
variable{P:Program}{w:World}{A:Around}{E:Value->Shared->Prop}{s:Shared}{a I:Addr}{es:Array (Int×Value)}{ep:Nat}{t:SetTable}
theorem qPa{T:Obj}{Q:Fin->Shared->Prop}{f0:Value}{i n:Nat}{pre:Sem Unit}(hh:A.handled=none)(hI:s.heap.get? I=some (sIt a f0 i n ep))
  (hp:∀ {Q':Unit->Shared->Prop},(∀h1,Heap.SameBut I s.heap h1->(∃g0,h1.get? I=some (sIt a g0 i n ep))->Q' () { s with heap:=h1 })->wpAny (model P w) A pre Q' E s)
  (hE:∀h' e,Heap.ExtBut I s.heap h'->(∃o,h'.get? e=some o/\o.cls = .type "StopIteration")->E (.ref e) { s with heap:=h' }) :
  wpAny (model P w) A (do pre;setField (.ref I) 2 .none;raiseNew (← newExc (.type "StopIteration") [])) Q E s:=by
 refine hEe (hp λh1 b1 hg=>?_);obtain⟨g0,hI1⟩:=hg;refine hEe (hF7 hI1 vI λh2 hI2 b2=>?_);show wpAny _ _ (newExc (.type "StopIteration") [] >>= λe=>raiseNew e) _ _ _;refine hEe ?_;simp only[newExc,newTuple];refine hEe (hEu ?_ (by size_fits));refine hEe (m:=firstArgMember _ _) (hF1 (a:=Value.none) (by first|rfl|(simp only[firstArgMember];rfl)) ?_);refine hEu ?_ (by size_fits);simp only[raiseNew];refine hEe (wpAny_handled ?_);rw[hh];exact hEe (hEh (wpAny_throw (hE _ _ (((b1.trans b2).extBut.push _).push _) ⟨_,Heap.get?_push_size _ rfl,rfl⟩)))
end
section
variable{P:Program}{w:World}{a I:Addr}{es:Array (Int×Value)}{ep:Nat}{t:SetTable}
theorem qK9(hne:a≠I)(hf:t.fits es.size=true)(order:List Value)(sl:Nat->Nat)
  (nx:∀(A:Around) (E:Value->Shared->Prop) (s:Shared) (Q:Option (Value×Nat)->Shared->Prop) (i:Nat),i<=order.length->s.heap.get? a=some (sOb es ep t)->Q ((order[i]?).map λx=>(x,sl (i+1))) s->wpAny (model P w) A (setNext a (sl i) i ep) Q E s) :
  ∀A:Around,A.handled=none->Walks P w A I [I,a] [I] order.length (λi v=>order[i]?=some v) (λi h=>h.get? I=some (sIt a (rawInt (sl i)) i es.size ep)/\h.get? a=some (sOb es ep t)):=λA hh=>{
 sub:=λb hb=>by simp at hb ⊢;exact .inl hb
 frame:=λi h h' st k=>⟨k I vI _ st.1,k a vI _ st.2⟩
 item:=λi s Q E hi st hQ=>by
  obtain⟨hI,ho⟩:=st;have hT:s.TypeIs (.ref I) "set_iterator":=⟨_,hI,rfl⟩;unfold pyNext;refine hEe (hFa (wpAny_callSpecial?_slot (name:=Str.ofString "__next__") hT FS.slot_sin (hEo FS.slot_sin hT FS.entry_sin ?_ (FS.args_sin _))));unfold Builtin.«set_iterator.__next__»;refine hEe (hEh (hEe (hFr hI rfl ?_)));show wpAny _ _ (setEntries a >>= _) _ _ _;refine hEe (hF2 ho rfl hf ?_);rw[hEj vI];show wpAny _ _ (setNext a (sl i) i ep >>= _) _ _ _;refine hEe (nx _ _ s _ i (hB9 hi) ho ?_);rw[hA2 hi];show wpAny _ _ (setField (.ref I) 0 (rawInt (sl (i+1))) >>= _) _ _ _;refine hEe (hF7 hI vI λh1 hI1 b1=>hEe (hF7 hI1 vI λh2 hI2 b2=>?_));refine hEh ⟨_,rfl,hEh (hQ _ h2 s.toks (hA2 hi) ⟨hI2,?_⟩ λb o hb e=>?_)⟩
  ·exact b2.extBut _ _ hne (b1.extBut _ _ hne ho)
  ·have nb:b≠I:=by simpa using hb
   exact b2.extBut _ _ nb (b1.extBut _ _ nb e)
 done:=λs Q E st hQ=>by
  obtain⟨hI,ho⟩:=st;have hT:s.TypeIs (.ref I) "set_iterator":=⟨_,hI,rfl⟩;unfold pyNext;refine hEe (hFa (wpAny_callSpecial?_slot (name:=Str.ofString "__next__") hT FS.slot_sin (hEo FS.slot_sin hT FS.entry_sin ?_ (FS.args_sin _))));unfold Builtin.«set_iterator.__next__»;refine hEe (hEh (hEe (hFr hI rfl ?_)));show wpAny _ _ (setEntries a >>= _) _ _ _;refine hEe (hF2 ho rfl hf ?_);rw[hEj vI];show wpAny _ _ (setNext a (sl order.length) order.length ep >>= _) _ _ _;refine hEe (nx _ _ s _ order.length (hA9 _) ho ?_);rw[hBu (hA9 _)];refine qPa (pre:=pure ()) (T:=sOb es ep t) (by exact hh) hI (λq=>hEh (q _ (Heap.SameBut.refl ..) ⟨_,hI⟩)) λh' e k he=>?_
  obtain⟨oe,h1,h2⟩:=he;refine hEe (wpAny_isInstance (T:="StopIteration") (b:=true) ⟨oe,h1,h2⟩ isSubtype_stop (hEh (hQ _ s.toks λb o hb e=>k _ _ (by simpa using hb) e)))
 self:=λi s Q E st hQ=>by
  have hT:s.TypeIs (.ref I) "set_iterator":=⟨_,st.1,rfl⟩;refine wpAny_pyIter_slot hT FS.slot_sii (hEo FS.slot_sii hT FS.entry_sii ?_ (FS.args_sii _));exact hEh ⟨_,rfl,"set_iterator",_,hT,FS.slot_sin.lookup,hQ⟩ }
end
noncomputable abbrev tOb(xs:Array Value):Obj:={ cls:=.type "tuple",data:=.seq xs }
section
variable{P:Program}{w:World}{a I T:Addr}{es:Array (Int×Value)}{ep:Nat}{t:SetTable}
theorem qRv(hne:a≠I)(hT0:T≠I)(hf:t.fits es.size=true)(ps:List Nat)(order:List Value)(hl:order.length=ps.length)(hp:∀(i p:Nat),ps[i]?=some p->∃k x,es[p]?=some (k,x)/\order[i]?=some x) :
  ∀A:Around,A.handled=none->Walks P w A I [I,a,T] [I] order.length (λi v=>order[i]?=some v) (λi h=>h.get? I=some (sIt a (.ref T) i es.size ep)/\h.get? a=some (sOb es ep t)/\h.get? T=some (tOb (ps.map λ(p:Nat)=>rawInt p).toArray)):=λA hh=>{
 sub:=λb hb=>by simp at hb ⊢;exact .inl hb
 frame:=λi h h' st k=>⟨k I vI _ st.1,k a vI _ st.2.1,k T vI _ st.2.2⟩
 item:=λi s Q E hi st hQ=>by
  obtain⟨hI,ho,hTt⟩:=st;have hT:s.TypeIs (.ref I) "set_iterator":=⟨_,hI,rfl⟩;unfold pyNext;refine hEe (hFa (wpAny_callSpecial?_slot (name:=Str.ofString "__next__") hT FS.slot_sin (hEo FS.slot_sin hT FS.entry_sin ?_ (FS.args_sin _))));unfold Builtin.«set_iterator.__next__»;refine hEe (hEh (hEe (hFr hI rfl ?_)));show wpAny _ _ (setEntries a >>= _) _ _ _;refine hEe (hF2 ho rfl hf ?_);rw[hEj vI];show wpAny _ _ (seqItems? (.ref T) >>= _) _ _ _;refine hEe (wpAny_seqItems hTt rfl ?_);have hip:i<ps.length:=by rw[<-hl];exact hi
  obtain⟨k,x,h1,h2⟩:=hp i _ (hA2 hip);have e1:((ps.map λ(p:Nat)=>rawInt p).toArray)[i]?=some (rawInt ((ps[i]:Nat):Int)):=by simp[hip]
  show wpAny _ _ (match ((ps.map λ(p:Nat)=>rawInt p).toArray)[((i:Int)).toNat]? with|some (.int place _)=>_|some _=>_|none=>_) _ _ _;rw[hB7,e1];show wpAny _ _ (setNextDrawn a ps[i] ep >>= _) _ _ _;unfold setNextDrawn;refine hEe (hEe (hEz ho rfl hf ?_));dsimp only;rw[hEj vI,h1];refine hEh (hEe (hF7 hI vI λh3 hI3 b3=>?_));refine hEh ⟨_,rfl,hEh (hQ _ h3 s.toks h2 ⟨hI3,b3.extBut _ _ hne ho,b3.extBut _ _ hT0 hTt⟩ λb o hb e=>b3.extBut _ _ (by simpa using hb) e)⟩
 done:=λs Q E st hQ=>by
  obtain⟨hI,ho,hTt⟩:=st;have hT:s.TypeIs (.ref I) "set_iterator":=⟨_,hI,rfl⟩;unfold pyNext;refine hEe (hFa (wpAny_callSpecial?_slot (name:=Str.ofString "__next__") hT FS.slot_sin (hEo FS.slot_sin hT FS.entry_sin ?_ (FS.args_sin _))));unfold Builtin.«set_iterator.__next__»;refine hEe (hEh (hEe (hFr hI rfl ?_)));show wpAny _ _ (setEntries a >>= _) _ _ _;refine hEe (hF2 ho rfl hf ?_);rw[hEj vI];show wpAny _ _ (seqItems? (.ref T) >>= _) _ _ _;refine hEe (wpAny_seqItems hTt rfl ?_);have e1:((ps.map λ(p:Nat)=>rawInt p).toArray)[order.length]?=none:=by simp[hl]
  show wpAny _ _ (match ((ps.map λ(p:Nat)=>rawInt p).toArray)[((order.length:Int)).toNat]? with|some (.int place _)=>_|some _=>_|none=>_) _ _ _;rw[hB7,e1];refine qPa (pre:=setField (.ref I) 0 (rawInt 0)) (T:=sOb es ep t) (by exact hh) hI (λq=>hF7 hI vI λh1 hI1 b1=>q _ b1 ⟨_,hI1⟩) λh' e k he=>?_
  obtain⟨oe,h1,h2⟩:=he;refine hEe (wpAny_isInstance (T:="StopIteration") (b:=true) ⟨oe,h1,h2⟩ isSubtype_stop (hEh (hQ _ s.toks λb o hb e=>k _ _ (by simpa using hb) e)))
 self:=λi s Q E st hQ=>by
  have hT:s.TypeIs (.ref I) "set_iterator":=⟨_,st.1,rfl⟩;refine wpAny_pyIter_slot hT FS.slot_sii (hEo FS.slot_sii hT FS.entry_sii ?_ (FS.args_sii _));exact hEh ⟨_,rfl,"set_iterator",_,hT,FS.slot_sin.lookup,hQ⟩ }
end
theorem qX9(h:j<=p):SetTable.below #[p] j=0:=by
 unfold SetTable.below;show SetTable.below.go #[p] j 1 0 1=0;unfold SetTable.below.go;have e:¬(#[p]:Array Nat).getD ((0+1) / 2) j<j:=by show ¬p<j;omega
 rw[hEk (by decide)];dsimp only;rw[hEj e];rfl
theorem qYa(h:p<j):SetTable.below #[p] j=1:=by
 unfold SetTable.below;show SetTable.below.go #[p] j 1 0 1=1;unfold SetTable.below.go;have e:(#[p]:Array Nat).getD ((0+1) / 2) j<j:=by show p<j;omega
 rw[hEk (by decide)];dsimp only;rw[hEk e];rfl
theorem qVr(j:Nat):SetTable.below #[] j=0:=rfl
section
variable{P:Program}{w:World}{A:Around}{E:Value->Shared->Prop}{s:Shared}{a:Addr}{ss:List Str}
theorem qT7(hS:qCg P w s.heap a ss)
  (h:∀(I:Addr) (fp:List Addr) (vs:List Value) (ss1:List Str) (St:Nat->Heap->Prop) (h1:Heap) (d:Drawn),StrsAre vs ss1->ss1.Perm ss->(∀b o,s.heap.get? b=some o->h1.get? b=some o)->(∀A:Around,A.handled=none->Walks P w A I fp [I] vs.length (λi v=>vs[i]?=some v) St) ->
   St 0 h1->I∈fp->(∀b∈fp,b<h1.objs.size/\(b=a\/s.heap.objs.size<=b))->s.heap.objs.size<=I->s.heap.objs.size<=h1.objs.size->Q (.ref I) { s with heap:=h1,drawn:=d }):wpAny (model P w) A (pyIter (.ref a)) Q E s:=by
 obtain⟨es,ep,t,ho,e1,e2,e3,e4,e5,e6⟩:=hS;have hT:s.TypeIs (.ref a) "set":=⟨_,ho,rfl⟩;have ha:a<s.heap.objs.size:=Heap.lt_size ho;have hp4:t.place.size=es.size:=by
  unfold SetTable.fits at e4;rw[hCm]at e4;exact eq_of_beq e4.1
 refine wpAny_pyIter_slot hT PySem.F.slot_set_iter (hEo PySem.F.slot_set_iter hT FS.entry_set_iter' ?_ (PySem.F.args_set_iter_1 _));unfold Builtin.«frozenset.__iter__» Builtin.Frozenset.slot0;refine hEe (hEe (hEh (hEh ?_)));unfold Builtin.Frozenset.sizeOf;refine hEe (hEe (hF2 ho rfl e4 (hEh ?_)));refine hEe (qM4 ho e4 ?_);dsimp only;cases hb:w.params.followText "set-order" with
 |true =>
  rw[hEj vI];refine hEe (hEh (hEe (wpAny_setEpoch_of ho rfl e4 ?_)));show wpAny _ _ (newFields "set_iterator" _ >>= _) _ _ _;refine hEe (hEu (hEh ⟨_,rfl,"set_iterator",_,⟨_,Heap.get?_push_size _ rfl,rfl⟩,FS.slot_sin.lookup,?_⟩) (by show 5<=_;decide));have p:=pick_perm (w.params.setOrder a ep) es;obtain⟨ss1,q1,q2⟩:=qGa e2 p;refine h s.heap.objs.size [s.heap.objs.size,a] _ ss1 _ _ s.drawn q1 q2 (λb o e=>Heap.get?_push_of_some _ e) (qK9 (ep:=ep) (es:=es) (t:=t) (hAx ha) e4 _ (λ_=>0) ?_) ⟨Heap.get?_push_size _ rfl,Heap.get?_push_of_some _ ho⟩ vI ?_ (hA9 _) (by rw[Heap.size_push];exact hBq _)
  ·intro A' E' s' Q' i hi ho' hq;refine qM2 ho' e4 hb ?_;rw[hAl,hBi,Option.map_map]at hq;exact hq
  ·intro b hbm;rw[Heap.size_push];simp at hbm;rcases hbm with rfl|rfl
   ·exact⟨hC8 _,.inr (hA9 _)⟩
   ·exact⟨hC1 ha,.inl rfl⟩
 |false =>
  have led:t.led=true:=by rw[e5,hb];rfl
  by_cases hz:es.size > 1
  ·have pl:t.plain=false:=e6 vG;rw[hEk (by rw[pl,hEf hz];rfl)];refine hEe (qGs es.size (List.range es.size) s _ vI λps d pp=>?_);refine hEe (hFg (s:={ s with drawn:=d }) ?_ (by rw[hA1,pp.length_eq,hB4];exact hFd e3));have ho1:(s.heap.push (tOb (ps.map λ(p:Nat)=>rawInt p).toArray)).get? a=some (sOb es ep t):=Heap.get?_push_of_some _ ho;refine hEe (wpAny_setEpoch_of (s:={ s with heap:=s.heap.push (tOb (ps.map λ(p:Nat)=>rawInt p).toArray),drawn:=d }) ho1 rfl e4 ?_);show wpAny _ _ (newFields "set_iterator" _ >>= _) _ _ _;refine hEe (hEu (hEh ⟨_,rfl,"set_iterator",_,⟨_,Heap.get?_push_size _ rfl,rfl⟩,FS.slot_sin.lookup,?_⟩) (by show 5<=_;decide));have hlt:∀p∈ps,p<es.size:=λp hm=>hAv.mp (pp.mem_iff.mp hm)
   have ep1:(ps.filterMap λp=>es[p]?).Perm es.toList:=by
    have q:=pp.filterMap λp=>es[p]?
    rw[filterMap_getElem?_range]at q;exact q
   have hfm:∀l:List Nat,(∀p∈l,p<es.size)->(l.filterMap λp=>es[p]?).length=l.length/\∀(i p:Nat),l[i]?=some p->∃k x,es[p]?=some (k,x)/\((l.filterMap λp=>es[p]?).map (·.2))[i]?=some x:=by
    intro l
    induction l with
    |nil=>intro _;exact⟨rfl,λi p z=>by simp at z⟩
    |cons c l ih =>
     intro hm;obtain⟨i1,i2⟩:=ih λp hp=>hm p (hA6 _ hp)
     have hcl:c<es.size:=hm c hA8;have hc:es[c]?=some es[c]:=hD5 hcl;rw[hBs,hc];refine⟨by simp[i1],λi p z=>?_⟩;cases i with
     |zero =>
      have e:c=p:=by simpa using z
      subst e;exact⟨_,_,hc,by simp⟩
     |succ i =>
      obtain⟨k,x,a1,a2⟩:=i2 i p (by simpa using z);exact⟨k,x,a1,by simpa using a2⟩
   obtain⟨f1,f2⟩:=hfm ps hlt;obtain⟨ss1,q1,q2⟩:=qGa e2 ep1;have sz1:(s.heap.push (tOb (ps.map λ(p:Nat)=>rawInt p).toArray)).objs.size=s.heap.objs.size+1:=Heap.size_push ..;refine h (s.heap.push (tOb (ps.map λ(p:Nat)=>rawInt p).toArray)).objs.size [(s.heap.push (tOb (ps.map λ(p:Nat)=>rawInt p).toArray)).objs.size,a,s.heap.objs.size] _ ss1 _ _ d q1 q2 (λb o e=>Heap.get?_push_of_some _ (Heap.get?_push_of_some _ e))
    (qRv (ep:=ep) (es:=es) (t:=t) (T:=s.heap.objs.size) ?_ ?_ e4 ps _ (by rw[hA1,f1]) f2) ⟨Heap.get?_push_size _ rfl,Heap.get?_push_of_some _ ho1,Heap.get?_push_of_some _ (Heap.get?_push_size _ rfl)⟩ vI ?_ ?_ ?_
   ·rw[sz1];exact hAx (hC1 ha)
   ·rw[sz1];exact hAx (hC8 _)
   ·intro b hbm;rw[Heap.size_push,sz1];rw[sz1]at hbm;simp at hbm;rcases hbm with rfl|rfl|rfl
    ·exact⟨hC8 _,.inr (hBq _)⟩
    ·exact⟨hC1 (hC1 ha),.inl rfl⟩
    ·exact⟨hC1 (hC8 _),.inr (hA9 _)⟩
   ·rw[sz1];exact hBq _
   ·rw[Heap.size_push,sz1];exact Nat.le_succ_of_le (hBq _)
  ·rw[hEj (by rw[hEg hz];simp)];refine hEe (hEh (hEe (wpAny_setEpoch_of ho rfl e4 ?_)));show wpAny _ _ (newFields "set_iterator" _ >>= _) _ _ _;refine hEe (hEu (hEh ⟨_,rfl,"set_iterator",_,⟨_,Heap.get?_push_size _ rfl,rfl⟩,FS.slot_sin.lookup,?_⟩) (by show 5<=_;decide));refine h s.heap.objs.size [s.heap.objs.size,a] _ ss _ _ s.drawn e2 (hDg _) (λb o e=>Heap.get?_push_of_some _ e) (qK9 (ep:=ep) (es:=es) (t:=t) (hAx ha) e4 _ (λi=>if i=0 then 0 else t.place.getD 0 0+1) ?_) ⟨Heap.get?_push_size _ rfl,Heap.get?_push_of_some _ ho⟩ vI ?_ (hA9 _) (by rw[Heap.size_push];exact hBq _)
   ·intro A' E' s' Q' i hi ho' hq;refine qM3 ho' e4 hb vG led ?_;rw[hA1,hC3]at hi;rcases Nat.lt_or_ge es.size 1 with z0|z1
    ·have e0:es=#[]:=Array.eq_empty_of_size_eq_zero vG;have p0:t.place=#[]:=Array.eq_empty_of_size_eq_zero vG;subst e0;rw[p0]at hq ⊢;rw[qVr]
     simpa using hq
    ·have z:es.size=1:=by omega
     obtain⟨x,e0⟩:∃x,es=#[x]:=by
      have:=Array.size_eq_one_iff.mp z;exact this
     obtain⟨p,p0⟩:∃p,t.place=#[p]:=Array.size_eq_one_iff.mp vG;subst e0;rw[p0]at hq ⊢;obtain⟨k,x⟩:=x;by_cases i0:i=0
     ·subst i0;rw[hEk rfl,qX9 (hAt _)]
      simpa using hq
     ·have i1:i=1:=by simp at hi;omega
      subst i1;rw[hEj (by decide)];show Q' (match (#[(k,x)]:Array (Int×Value))[SetTable.below #[p] (p+1)]?,(#[p]:Array Nat)[SetTable.below #[p] (p+1)]? with|some (_,x),some j=>some (x,j+1)|_,_=>none) s';rw[qYa (hC8 _)]
      simpa using hq
   ·intro b hbm;rw[Heap.size_push];simp at hbm;rcases hbm with rfl|rfl
    ·exact⟨hC8 _,.inr (hA9 _)⟩
    ·exact⟨hC1 ha,.inl rfl⟩
end
section
variable{X:Cx}{aB:List vH}{σ:St}{H:Hp}{s:Shared}{h':Heap}
theorem Inv.turnedT{t':Nat}{d':Drawn}{ch:List Addr}{a:Addr}{o:HO}(I:Inv X aB σ H s)(k:∀b u,b∉ch->s.heap.get? b=some u->h'.get? b=some u)(f:∀b∈ch,qRs X aB H b)(hp:s.heap.objs.size<=a)(new:qC0 X.prog X.w (upd H a o) h' a o) :
  Inv X aB σ (upd H a o) { s with heap:=h',toks:=t',drawn:=d' }:=by
 have nit:∀b u,H b=some u->b∉ch:=λb u e z=>by rw[(f b z).1]at e;cases e
 have hn:H a=none:=I.hok.fresh hp;refine I.step (g':=s.gens) (d':=d') (ch:=ch) (λb hb=>?_) (λb u _ _ hc e _=>k b u hc e) (λb u _ _ hc e _=>⟨u.slots,k b u hc e⟩) (λb u _ e n=>?_) (λb u hc e=>⟨u,k b u hc e⟩) (λb xs q=>by rw[qAk (qAo q hn)];exact q) (λb u v q=>by rw[qAk (qAo q hn)];exact q)
  (λb ps q=>⟨#[],by rw[qAk (qAo q hn),q];simp⟩) (λm hm=>?_) (λb u e=>?_) I.bare
 ·obtain⟨_,f1,_,f3,f4,f5⟩:=f b hb;exact⟨f3,f1,f4,f5⟩
 ·rw[qAk (hAx (hAo (Heap.lt_size e) hp))];exact n
 ·obtain⟨ob,es,ep,ho,r⟩:=hm;exact⟨ob,es,ep,k _ ob (λz=>(f _ z).2.1 rfl) ho,r⟩
 ·by_cases hb:b=a
  ·subst hb;rw[upd_same]at e;cases e;exact new
  ·rw[qAk hb]at e;refine(I.hok b u e).stay (λc v hc q=>k c v ?_ q) (λc q=>by rw[qAk (qAo q hn)];exact q) λc xs q=>by rw[qAk (qAo q hn)];exact q
   rcases hc with z|z
   ·rw[z];exact nit b u e
   ·exact nit c _ z
end
section
variable{P:Program}{w:World}{A:Around}{E:Value->Shared->Prop}{s:Shared}{a:Addr}{ss:List Str}
theorem qMo(hh:A.handled=none)(hS:qCg P w s.heap a ss)
  (h:∀(vs:List Value) (ss1:List Str) (h1:Heap) (tk:Nat) (d:Drawn),StrsAre vs ss1->ss1.Perm ss->(∀b o,s.heap.get? b=some o->h1.get? b=some o)->s.heap.objs.size<=h1.objs.size->Q vs { s with heap:=h1,toks:=tk,drawn:=d }):wpAny (model P w) A (collect (.ref a)) Q E s:=by
 unfold collect;refine hEe (wpAny_runValue (hEr PySem.F.entry_proto_collect ?_));rw[Around.under_plainId PySem.F.plain_proto_collect _];show wpAny _ A.in1 (newList [] >>= λl=>again (.builtin "list.__iadd__" ⟨[l,.ref a],[]⟩)) _ _ _;refine hEe (hEu ?_);refine hEh ⟨hEw PySem.F.plain_list_iadd _,hEr PySem.F.entry_list_iadd ?_⟩;rw[Around.under_plainId PySem.F.plain_list_iadd _];have hS1:qCg P w (s.heap.push (seqObj "list" #[] 0)) a ss:=hS.at λo e=>Heap.get?_push_of_some _ e
 have hL1:(s.heap.push (seqObj "list" #[] 0)).get? s.heap.objs.size=some (seqObj "list" #[] 0):=Heap.get?_push_size _ rfl;have hT:∀s':Shared,qCg P w s'.heap a ss->s'.TypeIs (.ref a) "set":=λs' z=>by
  obtain⟨es,ep,t,ho,_⟩:=z;exact⟨_,ho,rfl⟩
 have ha:a<s.heap.objs.size:=by
  obtain⟨es,ep,t,ho,_⟩:=hS;exact Heap.lt_size ho
 have hz:ss.length<scanBound:=by
  obtain⟨es,ep,t,_,_,e2,e3,_⟩:=hS;rw[<-e2.strs,hA1,hA1,hC3];exact e3
 have hne:Builtin.List.listSameRef (.ref s.heap.objs.size) (.ref a)=false:=by
  show(s.heap.objs.size == a)=false;exact beq_eq_false_iff_ne.mpr (hCj ha)
 show wpAny _ A.in1 (Builtin.List.listExtendWith (.ref s.heap.objs.size) (.ref a) (.ref s.heap.objs.size)) _ _ { s with heap:=s.heap.push (seqObj "list" #[] 0) };unfold Builtin.List.listExtendWith;refine hEe (wpAny_typeOf (hT _ hS1) ?_);rw[hEj (by rw[hne];decide)];refine hEe (qT7 hS1 λI fp vs ss1 St h1 d q1 q2 q3 W st hI hfp hge hsz=>?_);have hS2:qCg P w h1 a ss:=hS1.at λo e=>q3 _ _ e
 have hL2:h1.get? s.heap.objs.size=some (seqObj "list" #[] 0):=q3 _ _ hL1;refine hEe (hEs ?_);unfold Builtin.List.listLengthHint;refine hEe (wpAny_specialOf (hT { s with heap:=h1,drawn:=d } hS2) PySem.F.slot_set_len.lookup ?_);dsimp only;rw[show splitId "set.__len__"=some ("set","__len__") from by decide +kernel];dsimp only;refine hEe (wpAny_isInstance (b:=true) (hT { s with heap:=h1,drawn:=d } hS2) sub_set_self ?_);rw[hEj (by decide),hEk (by decide +kernel)];refine hEe (wpAny_typeOf (hT { s with heap:=h1,drawn:=d } hS2) (hEh ?_));rw[hEk (by decide +kernel)];refine hEe (hFs ?_);unfold Builtin.List.listTouch;have hL3:=get?_update_seq hL2 (·.push .none);have hL4:=get?_update_seq hL3 (·.pop);refine hEe (hEe (hEp (s:={ s with heap:=h1,drawn:=d }) hL2 rfl (hEp (s:={ s with heap:=h1.update s.heap.objs.size (Obj.mapSeq (·.push .none)),drawn:=d }) hL3 rfl ?_)));have nS:s.heap.objs.size∉fp:=λz=>by
  rcases(hfp _ z).2 with e|e
  ·exact absurd e (hCj ha)
  ·rw[hFk]at e;exact absurd e (Nat.not_succ_le_self _)
 have upd2:∀b o,b≠s.heap.objs.size->h1.get? b=some o->((h1.update s.heap.objs.size (Obj.mapSeq (·.push .none))).update s.heap.objs.size (Obj.mapSeq (·.pop))).get? b=some o:=λb o hb e=>by
  rw[Heap.get?_update_ne _ _ _ _ hb,Heap.get?_update_ne _ _ _ _ hb];exact e
 have hv:vs.length<=sizeLine:=by
  have e1:=q2.length_eq;have e2:vs.length=ss1.length:=by rw[<-q1.strs,hA1]
  rw[e2,e1];exact hFd hz
 have st3:=(W A.in1.in1.in1 (by exact hh)).frame 0 _ ((h1.update s.heap.objs.size (Obj.mapSeq (·.push .none))).update s.heap.objs.size (Obj.mapSeq (·.pop))) st λb hb o e=>upd2 b o (λz=>nS (z▸hb)) e
 refine hEh ⟨hEw PySem.F.plain_extend_loop _,codeAny_extend_loopS ((W _ (by exact hh)).toS) hv _ nS _ vs.length 0 _ _ _ rfl (hAt _) st3 hL4 (ItemsOf.nil _) λs' acc' c' hm hS' hacc=>?_⟩;show wpAny _ A (load s.heap.objs.size >>= _) _ _ s';refine hEe (wpAny_load hS' ?_);have eacc:acc'.toList=vs:=by
  refine hDv λi=>?_
  by_cases hi:i<vs.length
  ·have hi':i<acc'.size:=by rw[hacc.1];exact hi
   rw[hBi,hD5 hi'];exact(hacc.2 i _ (hD5 hi')).symm
  ·rw[hBi,Array.getElem?_eq_none (by rw[hacc.1];omega),hBu vG]
 show wpAny _ A (pure acc'.toList) _ _ s';rw[eacc];obtain⟨h5,g5,d5,tk5,os5⟩:=s';cases(show g5=s.gens from hm.gens);cases(show d5=d from hm.drawn);cases(show os5=s.os from hm.os);have keep:∀b o,h1.get? b=some o->b≠s.heap.objs.size->b≠I->h5.get? b=some o:=λb o e n1 n2=>hm.heap b o (by simp only[hAj,hD1,hFo,not_or];exact⟨n1,n2⟩) (upd2 b o n1 e)
 refine hEh (h vs ss1 h5 tk5 d q1 q2 (λb o e=>?_) ?_)
 ·have lt:=Heap.lt_size e;refine keep b o (q3 b o (Heap.get?_push_of_some _ e)) (hAx lt) (hAx (hAo lt ?_));rw[hFk]at hge;exact Nat.le_of_succ_le hge
 ·exact hB9 (Heap.lt_size hS')
end
def zGr(P:Program)(w:World)(a:Addr)(ss:List Str):HO:=.ext λh=>qCg P w h a ss
section
variable{X:Cx}
theorem qVf(hc:X.calm=true):qCm X (.type "set") (λxs H Q=>∃(p:Addr) (ss0:List Str),xs=[.ref p]/\SqL X.K H p (ss0.map V.str)/\ss0.length<1000/\∀(r:Addr) (ss:List Str),H r=none->ss.Nodup->ss.length<=ss0.length->(∀x,x∈ss↔x∈ss0)->Q (.ref r) (upd H r (zGr X.prog X.w r ss))):=by
 intro aB s σ H xs us Q I r h;obtain⟨p,ss0,rfl,hq,hl,q⟩:=h;obtain⟨u,rfl,rx⟩:=qCy r;cases rx;obtain⟨its,rv,pl,hz⟩:=I.list hq;have hlen:=rv.length;rw[hA1]at hlen;refine qVe (I.ok.hd hc) pl.isList (by simpa using qEq rv) (by have:scanBound=4096:=rfl;simp;omega) λh' tk ss hS hO hk=>?_
 obtain⟨o1,o2,o3⟩:=hO;rw[hAk,<-hlen]at o2 o3;refine⟨.ref s.heap.objs.size,_,I.laid (t':=tk) (a:=s.heap.objs.size) (o:=zGr X.prog X.w s.heap.objs.size ss) (λb o e=>hk b o (Heap.lt_size e) e) (hA9 _) ⟨hS,?_,λh1 h2 z k=>z.at k⟩,rfl,q _ ss (I.hok.fresh (hA9 _)) o1 o2 λx=>?_⟩
 ·obtain⟨es,ep,t,ho,_⟩:=hS;exact⟨_,ho⟩
 ·rw[o3 x,List.mem_iff_getElem?];constructor
  ·rintro⟨j,hj,rfl⟩;exact⟨j,by show ss0[j]?=some (ss0.getD j default);rw[hAa,hA2 hj];rfl⟩
  ·rintro⟨j,hj⟩;exact⟨j,(hAp.mp hj).1,by show ss0.getD j default=x;rw[hAa,hj];rfl⟩
theorem qIu(hc:X.calm=true):qCm X (.builtin "sorted") (λxs H Q=>∃(p:Addr) (ss:List Str),xs=[.ref p]/\H p=some (zGr X.prog X.w p ss)/\ss.length<64/\∀(r:Addr) (ss':List Str),H r=none->ss'.Perm ss->sortedS ss'=true->Q (.ref r) (upd H r (.lst (ss'.map V.str)))):=by
 intro aB s σ H xs us Q I r h;obtain⟨p,ss,rfl,hp,h64,q⟩:=h;obtain⟨u,rfl,rx⟩:=qCy r;cases rx;have hS:qCg X.prog X.w s.heap p ss:=(I.hok p _ hp).1;refine Calls.call_function_entry kind_sorted hFp hFq (args_sorted1 _) ?_;unfold Builtin.«sorted»;refine hEe (m:=checkCount "sorted" 1 1 _) (hEh (hEe (qMo (I.ok.hd hc) hS λvs ss1 h1 tk d a1 a2 a3 a4=>?_)));have hvl:vs.length=ss1.length:=by rw[<-a1.strs,hA1]
 have hl64:vs.length<64:=by rw[hvl,a2.length_eq];exact h64
 refine hEe (hEx ?_ (by have:sizeLine > 64:=(by decide);omega));have hoL:(h1.push (seqObj "list" vs.toArray 0)).get? h1.objs.size=some (seqObj "list" vs.toArray 0):=Heap.get?_push_size _ rfl;refine hEe (hEs (hEo slot_list_sort ⟨_,hoL,rfl⟩ entry_list_sort (list_sort_treeK strKind_oneLt hoL a1.keysOf (λv1 v2 rest e=>keyKind_strs (by rw[<-e];exact a1)) hl64 λst' b1 b2=>⟨_,rfl,?_⟩) (args_list_sort _)));obtain⟨ss',c1,c2,c3⟩:=sorted_out_str a1 b1 b2;refine hEh ⟨_,rfl,?_⟩;have nz:H h1.objs.size=none:=I.hok.fresh a4;obtain⟨e,he⟩:=sortedHeap_at (out:=(arrOf st').map (·.2)) hoL;refine⟨.ref h1.objs.size,_,I.turnedT (t':=tk) (d':=d) (ch:=[]) (a:=h1.objs.size) (o:=.lst (ss'.map V.str)) (λb o _ eb=>?_) (λb z=>nomatch z) a4 ?_,rfl,q _ ss' nz (c2.trans a2) c3⟩
 ·have e1:=a3 b o eb;have lt:=Heap.lt_size e1;rw[sortedHeap_old (hAx lt) (by rw[hFk];exact hC1 lt)];exact Heap.get?_push_of_some _ e1
 ·refine⟨?_,((arrOf st').map (·.2)).toList,e,qJd c1,he⟩;rw[hA1,c2.length_eq,a2.length_eq];exact hB9 (qAf vG)
end
section
variable{X:Cx}{aB:List vH}{σ:St}{H:Hp}{s:Shared}{h':Heap}
theorem Inv.turnedL{t':Nat}{ch:List Addr}(I:Inv X aB σ H s)(k:∀b u,b∉ch->s.heap.get? b=some u->h'.get? b=some u)(f:∀b∈ch,qRs X aB H b):Inv X aB σ H { s with heap:=h',toks:=t' }:=by
 have nit:∀b u,H b=some u->b∉ch:=λb u e z=>by rw[(f b z).1]at e;cases e
 refine I.step (g':=s.gens) (d':=s.drawn) (ch:=ch) (λb hb=>?_) (λb u _ _ hc e _=>k b u hc e) (λb u _ _ hc e _=>⟨u.slots,k b u hc e⟩) (λb u _ e n=>n) (λb u hc e=>⟨u,k b u hc e⟩) (λb xs q=>q) (λb u v q=>q) (λb ps q=>⟨#[],by rw[q];simp⟩) (λm hm=>?_) (λb u e=>?_) I.bare
 ·obtain⟨_,f1,_,f3,f4,f5⟩:=f b hb;exact⟨f3,f1,f4,f5⟩
 ·obtain⟨ob,es,ep,ho,r⟩:=hm;exact⟨ob,es,ep,k _ ob (λz=>(f _ z).2.1 rfl) ho,r⟩
 ·refine(I.hok b u e).stay (λc v hc q=>k c v ?_ q) (λc q=>q) λc xs q=>q
  rcases hc with z|z
  ·rw[z];exact nit b u e
  ·exact nit c _ z
end
def Itp(n:Nat)(Ls:Hp->Prop)(xv:Nat->List V):It:=⟨λi H=>Ls H/\i<n,λi H x H'=>∃T,H T=none/\H'=upd H T (.tup (xv i))/\x = .ref T,λi H=>Ls H/\i=n⟩
theorem qI0{P:Program}{w:World}{K:PySem.W.Frag}{elts:List Expr}{ct:Nat}{pos:Pos}(it:Addr)(fp fpW wr:List Addr)(n:Nat)(Ls:Hp->Prop)(xv:Nat->List V)(tn:Nat->Heap->Prop)
  (hit:it∈fp) (hwr:∀b∈wr,b∈fp) (hobj:∀i h,tn i h->∀b∈fp,∃o,h.get? b=some o/\∀v,o.data≠.cell v) (hkeep:∀i h h',tn i h->(∀b∈fp,∀o,h.get? b=some o->h'.get? b=some o)->tn i h')
  (hx:∀i,(xv i).length<=sizeLine) {c:Cx->Prop}
  (W:∀(X:Cx),X.prog=P->X.w=w->X.K=K->c X->∀(aB:List vH) (s:Shared) (σ:L2.St) (H:Hp),Inv X aB σ H s->Ls H->∃(Pt:Nat->Array Value->Prop) (St:Nat->Heap->Prop) (Mid:Nat->Addr->Heap->Prop),WalksT P w X.A it fpW wr n Pt St Mid/\(∀i,tn i s.heap->St i s.heap)/\(∀i h,St i h->tn i h) /\
   (∀i vals,Pt i vals->qBx (xv i) vals.toList))
  (hself:∀(A:Around) (i:Nat) (s:Shared) (Q:Value->Shared->Prop) (E:Value->Shared->Prop),tn i s.heap->Q (.ref it) s->wpAny (model P w) A (pyIter (.ref it)) Q E s):Turn P w K (.Tuple elts ct pos) (Itp n Ls xv) fp it tn c where
 mem:=hit
 obj:=hobj
 keep:=hkeep
 item:=by
  intro X hP hw hK hc i aB s σ H E I hf st hg;obtain⟨hL,hi⟩:=hg;obtain⟨Pt,St,Mid,Wt,w1,w2,w3⟩:=W X hP hw hK hc aB s σ H I hL;subst hP hw hK;refine Wt.item i s _ _ hi (w1 i st) λT vals h1 tk pv hT ht mid k1=>?_
  have hTw:T∉wr:=Wt.apart i T h1 mid;refine⟨_,rfl,Wt.go elts ct pos i T _ _ _ mid λh2 st2 k2=>?_⟩;have ht2:IsTup h2 T (vals.toList).toArray:=by
   obtain⟨o,a1,a2,nn,a3⟩:=ht;exact⟨o,k2 _ _ hTw a1,a2,nn,by simpa using a3⟩
  refine⟨.ref T,upd H T (.tup (xv i)),I.turnedT (t':=tk) (d':=s.drawn) (ch:=wr) (λb u hb e=>k2 b u hb (k1 b u hb e)) (λb hb=>hf b (hwr b hb)) hT ⟨hx i,vals.toList,w3 i vals pv,ht2⟩,rfl,⟨T,I.hok.fresh hT,rfl,rfl⟩,w2 _ _ st2,λb hb=>?_⟩;have e:b≠T:=by
   obtain⟨o,ho,_⟩:=hobj i _ st b hb;exact hAx (hAo (Heap.lt_size ho) hT)
  rw[qAk e];exact(hf b hb).1
 done:=by
  intro X hP hw hK hc i aB s σ H E I hf st hg;obtain⟨hL,hi⟩:=hg;obtain⟨Pt,St,Mid,Wt,w1,w2,w3⟩:=W X hP hw hK hc aB s σ H I hL;subst hP hw hK hi;exact Wt.done s _ _ (w1 _ st) λh1 tk k1=>⟨rfl,I.turnedL (ch:=wr) (λb u hb e=>k1 b u hb e) λb hb=>hf b (hwr b hb)⟩
 self:=hself
theorem qRt(n a b:Nat)(h1:a<n)(h2:b<n):ZipApart (n+4) (n+2) (n+3) n (n+1) a b:=by
 constructor <;> (show @Ne Nat _ _;omega)
section
variable{X:Cx}
def zHp(K:PySem.W.Frag)(ta:TA):TI:=λσ H R=>ta σ H λvs H1=>∃(a b:Addr) (xs ys:List V),vs=[.ref a,.ref b]/\SqL K H1 a xs/\SqL K H1 b ys/\R (Itp (min xs.length ys.length) (λH=>SqL K H a xs/\SqL K H b ys) (λi=>[xs.getD i .non,ys.getD i .non])) H1
theorem qX8:bootBuiltins "zip"=some (.type "zip"):=by decide +kernel
theorem zD5{a b:Expr}{ta:TA}{p pos tpos:Pos}{elts:List Expr}{ct:Nat}(hg:Gl X "zip")(hm:X.mg "zip"=none)(ha:PA X [a,b] ta)(hs:starEach [a,b] X.env=[(false,eval a X.env),(false,eval b X.env)]:=by rfl)(hs2:starEach [b] X.env=[(false,eval b X.env)]:=by rfl) :
  PI X (.Tuple elts ct tpos) (.Call (.Name "zip" p) [a,b] [] pos) (zHp X.K ta):=by
 intro aB s σ H R I h;refine Call_ (qE5 I hg hm qX8 (hCw (thn (ha pos aB s σ H _ I h) λus s1 ⟨vs,H1,I1,r1,q1⟩=>?_) (by rw[hs,hs2]) (by rw[hs2];rfl)));obtain⟨l1,l2,xs,ys,e,hx,hy,q⟩:=q1;subst e;obtain⟨u1,u2,rfl,r1,r2⟩:=qZ8 r1;cases r1;cases r2;obtain⟨it1,rv1,pl1,hz1⟩:=I1.list hx;obtain⟨it2,rv2,pl2,hz2⟩:=I1.list hy;have n1:=rv1.length;have n2:=rv2.length;have b1:l1<s1.heap.objs.size:=by obtain⟨o,n,e,_⟩:=pl1;exact Heap.lt_size e
 have b2:l2<s1.heap.objs.size:=by obtain⟨o,n,e,_⟩:=pl2;exact Heap.lt_size e
 refine call_zip_2 pl1.isList pl2.isList λh1 z1 z2 z3 z4 z5 z6 z7=>?_
 refine wpAny_pyIter_zip z1 ?_;have D:=qRt s1.heap.objs.size l1 l2 b1 b2;have hfp:∀b∈[s1.heap.objs.size+4,s1.heap.objs.size+2,s1.heap.objs.size+3,s1.heap.objs.size,s1.heap.objs.size+1],s1.heap.objs.size<=b:=λb hb=>by
  simp only[hAj,hD1,hFo]at hb;rcases hb with rfl|rfl|rfl|rfl|rfl
  ·exact hE1 _ _
  ·exact hE1 _ _
  ·exact hE1 _ _
  ·exact hA9 _
  ·exact hE1 _ _
 refine⟨s1.heap.objs.size+4,[s1.heap.objs.size+4,s1.heap.objs.size+2,s1.heap.objs.size+3,s1.heap.objs.size,s1.heap.objs.size+1],
  λi h=>IsZip h (s1.heap.objs.size+4) (s1.heap.objs.size+2) (s1.heap.objs.size+3) .none/\IsPair h (s1.heap.objs.size+2) (.ref s1.heap.objs.size) (.ref (s1.heap.objs.size+1))/\(∃a b,IsPair h (s1.heap.objs.size+3) a b)/\h.IsListIter s1.heap.objs.size l1 i/\h.IsListIter (s1.heap.objs.size+1) l2 i,
  _,H1,rfl,I1.kept (t':=s1.toks) z7,
  qI0 (s1.heap.objs.size+4) _ [s1.heap.objs.size+4,s1.heap.objs.size+2,s1.heap.objs.size+3,s1.heap.objs.size,s1.heap.objs.size+1,l1,l2] [s1.heap.objs.size+4,s1.heap.objs.size+3,s1.heap.objs.size,s1.heap.objs.size+1] _ _ _ _ vI (λb hb=>?_) (λi h st b hb=>?_) (λi h h' st k=>?_) (λi=>by show 2<=sizeLine;decide) ?_ (λA i s' Q E st hQ=>wpAny_pyIter_zip st.1 hQ),
  ⟨z1,z2,⟨_,_,z3⟩,z4,z5⟩,λb hb=>I1.fpOk (hfp b hb) (I1.hok.fresh (hfp b hb)),q⟩
 ·simp only[hAj,hD1,hFo]at hb ⊢;rcases hb with h|h|h|h
  ·exact .inl h
  ·exact .inr (.inr (.inl h))
  ·exact .inr (.inr (.inr (.inl h)))
  ·exact .inr (.inr (.inr (.inr h)))
 ·obtain⟨a1,a2,⟨c,d,a3⟩,⟨o4,a4,c4,d4⟩,⟨o5,a5,c5,d5⟩⟩:=st;simp only[hAj,hD1,hFo]at hb;rcases hb with rfl|rfl|rfl|rfl|rfl
  ·exact⟨_,a1,λv z=>by cases z⟩
  ·exact⟨_,a2,λv z=>by cases z⟩
  ·exact⟨_,a3,λv z=>by cases z⟩
  ·exact⟨_,a4,λv z=>by rw[d4]at z;cases z⟩
  ·exact⟨_,a5,λv z=>by rw[d5]at z;cases z⟩
 ·obtain⟨a1,a2,⟨c,d,a3⟩,a4,a5⟩:=st;exact⟨k _ vI _ a1,k _ vI _ a2,⟨c,d,k _ vI _ a3⟩,a4.at λo e=>k _ vI o e,a5.at λo e=>k _ vI o e⟩
 ·intro X' hP hw hK hc pins' s' σ' H' I' hL;obtain⟨hx',hy'⟩:=hL;rw[<-hK]at hx' hy';obtain⟨jt1,sv1,ql1,_⟩:=I'.list hx';obtain⟨jt2,sv2,ql2,_⟩:=I'.list hy';have m1:=sv1.length;have m2:=sv2.length;have Wz:=WalksT.zip2 (prog:=X.prog) (w:=X.w) (I'.ok.hd hc) _ _ _ _ _ l1 l2 D jt1.toArray jt2.toArray;rw[show min jt1.toArray.size jt2.toArray.size=min xs.length ys.length by show min jt1.length jt2.length=_;rw[m1,m2]]at Wz;refine⟨_,_,_,Wz,λi st=>?_,λi h st=>?_,λi vals pv=>?_⟩
  ·obtain⟨a1,a2,a3,a4,a5⟩:=st;exact⟨a1,a2,a3,a4,a5,ql1.isList,ql2.isList⟩
  ·obtain⟨a1,a2,a3,a4,a5,_⟩:=st;exact⟨a1,a2,a3,a4,a5⟩
  ·obtain⟨x,y,e1,e2,rfl⟩:=pv;have e1:jt1[i]?=some x:=by simpa using e1
   have e2:jt2[i]?=some y:=by simpa using e2
   have c1:i<xs.length:=by rw[m1];exact(hAp.mp e1).1
   have c2:i<ys.length:=by rw[m2];exact(hAp.mp e2).1
   obtain⟨u,d1,d2⟩:=sv1.get (hA2 c1);obtain⟨v,f1,f2⟩:=sv2.get (hA2 c2);rw[e1]at d1;rw[e2]at f1;cases d1;cases f1;show qBx [xs.getD i .non,ys.getD i .non] [x,y];rw[hAa,hA2 c1,hAa,hA2 c2];exact .cons d2 (.cons f2 .nil)
end
section
variable{σ0:St}{g:TG}{tt:TT}{te:TE}{Q:List V->Hp->Prop}{H1:Hp}
theorem qEd(Pv:Nat->List V->Hp->Prop)(h0:Pv 0 [] H1)(hl:∀i ys H,i<=n->Pv i ys H->Ls H)
  (hs:∀i ys H T,i<n->Pv i ys H->H T=none->g (.ref T) σ0 (upd H T (.tup (xv i))) λσ2 H2=>Sle σ0 σ2/\tt σ2 H2 λb H3=>if b=true then te σ2 H3 (λv H4=>ys.length<sizeLine/\Nxt n i Pv (ys++[v]) H4) else Nxt n i Pv ys H3)
  (hd:∀ys H,Pv n ys H->Q ys H):qEp (Itp n Ls xv) σ0 g tt te Q H1:=by
 refine⟨λi m ys H=>m=n-i/\i<=n/\Pv i ys H,⟨n,by simp,hAt _,h0⟩,?_⟩;rintro i m ys H ⟨rfl,hi,p⟩;have q:=hl i ys H hi p;by_cases hlt:i<n
 ·refine .inr ⟨⟨q,hlt⟩,λx H' y=>?_⟩;obtain⟨T,e1,e2,e3⟩:=y;subst e2 e3;exact hs i ys H T hlt p e1
 ·have e:i=n:=by omega
  subst e;exact .inl ⟨⟨q,rfl⟩,hd ys H p⟩
end
noncomputable def qU8(tpos:Pos)(it:Value)(target:Expr)(env:Env)(ifs:List Expr)(body:Sem Unit)(k:Sem Fin):Sem Fin:=do
 standAt tpos
 match ← pyNext it with
 |none=>pure (.done .next)
 |some v =>
  letOwnedTupleGo target it v
  assign target env v
  let mut ok:=true
  for c in ifs do
   if ok then ok ← isTrue c env (eval c env)
  if ok then
   body
  k
section
variable{AS:Type}
abbrev TB(AS:Type):=AS->St->Hp->(AS->St->Hp->Prop)->Prop
end
structure GC(P:Program)(w:World){AS:Type}(e target iter:Expr)(ifs:List Expr)(scope:Scope)(tpos:Pos)(newAcc:Sem Value)(body:Addr->Env->Sem Unit)(o0:Obj)(a0:AS)(AO:AS->Obj->Prop)(HOf:Addr->AS->HO):Prop where
 new:∀(A:Around) (s:Shared) (Q:Value->Shared->Prop) (E:Value->Shared->Prop),Q (.ref s.heap.objs.size) { s with heap:=s.heap.push o0 }->wpAny (model P w) A newAcc Q E s
 nf:o0.isFreed=false
 nc:∀a o,AO a o->∀v,o.data≠.cell v
 hA0:AO a0 o0
 hHO:∀(H':Hp) (h:Heap) (acc:Addr) (a:AS) (o:Obj),sysModules<acc->AO a o->h.get? acc=some o->qC0 P w H' h acc (HOf acc a)
 cl:∃gs,clausesOf e=⟨target,iter,ifs,0⟩ :: gs
 dnS:∀(it acc:Value) (env:Env) (A:Around) (Q:PySem.Fin->Shared->Prop) (E:Value->Shared->Prop) (s:Shared),wpAny (model P w) A ((compStart e 0 it acc env).onRaise (λx=>do noteFrame x env;standAt theWindowsPlace)) Q E s->wpAny (model P w) (A.under (.compStart e 0 it acc env)) ((model P w).den (.compStart e 0 it acc env)) Q E s
 dnL:∀(it acc:Value) (env:Env) (A:Around) (Q:PySem.Fin->Shared->Prop) (E:Value->Shared->Prop) (s:Shared),wpAny (model P w) A ((compTurn e 0 it acc env).onRaise (λx=>do noteFrame x env;theTreesLotGoes x)) Q E s->wpAny (model P w) (A.under (.compLoop e 0 it acc env)) ((model P w).den (.compLoop e 0 it acc env)) Q E s
 q:∀it acc env,(Code.compLoop e 0 it acc env).quiet=true
 sh:∀(it acc:Addr) (env:Env),compTurn e 0 (.ref it) (.ref acc) env=qU8 tpos (.ref it) target env ifs (body acc env) (again (.compLoop e 0 (.ref it) (.ref acc) env))
end L2
namespace L2
open PySem PySem.Spec PyProof.Rows PySem.W
abbrev Rng(n:Nat):Array Nat:=List.toArray (List.range n)
def Gd(n:Nat)(p:Array Nat):Prop:=p.Perm (Rng n)
theorem Gd.lt(h:Gd n p)(h0:0<n)(i:Nat):p.getD i 0<n:=by
 by_cases hi:i<p.size
 ·have e:p.getD i 0=p[i]:=by simp[Array.getD,hi]
  rw[e];have m:p[i]∈p.toList:=by simp
  have m2:=(hC5.mp h).mem_iff.mp m
  simpa using m2
 ·have e:p.getD i 0=0:=by simp[Array.getD,hi]
  rw[e];exact h0
theorem Gd.rev(h:Gd n p)(i j:Nat):Gd n (kas_rev p i j):=(mirror_perm _ _ _ _).trans h
theorem Gd.bub(h:Gd n p)(i j:Nat):Gd n (bubble p i j):=(bubble_perm _ _ _).trans h
section
variable{n:Nat}{cmp:Nat->Nat->(Bool->Shared->Prop)->Shared->Prop}{s:Shared}(hask:∀i j C,i<n->j<n->(∀b,C b s)->cmp i j C s)(h0:0<n)
include hask h0
theorem qT6(g:Gd n p)(hq:∀m,Q m s):∀f m,(kas_asc p f m).kasWp cmp Q s
 |0,m=>hq m
 |f+1,m=>by
  refine hask _ _ _ (g.lt h0 _) (g.lt h0 _) λb=>?_
  dsimp only;split
  ·exact hq m
  ·exact qT6 g hq f (m+1)
theorem qKu(hq:∀p m q,Gd n p->Q (p,m,q) s):∀f p m q,Gd n p->(kas_desc f p m q).kasWp cmp Q s
 |0,p,m,q,g=>hq p m q g
 |f+1,p,m,q,g=>by
  refine hask _ _ _ (g.lt h0 _) (g.lt h0 _) λb=>?_
  dsimp only;split
  ·split
   ·exact qKu hq f _ _ _ (g.rev _ _)
   ·exact qKu hq f _ _ _ g
  ·refine hask _ _ _ (g.lt h0 _) (g.lt h0 _) λd=>?_
   dsimp only;split
   ·exact hq p m q g
   ·exact qKu hq f _ _ _ g
theorem qQa(g:Gd n p)(hq:∀m p,Gd n p->Q (m,p) s)(a b:Nat):(kas_tail3 a b p).kasWp cmp Q s:=by
 unfold kas_tail3;rw[KasT.kasWp_bind];exact qT6 hask h0 (g.rev _ _) (λm=>hq m _ (g.rev _ _)) _ _
theorem qIf(g:Gd n p)(hq:∀m p,Gd n p->Q (m,p) s)(a b:Nat):(kas_descPart a b p).kasWp cmp Q s:=by
 unfold kas_descPart;rw[KasT.kasWp_bind];refine qKu hask h0 (λp' m q g'=>?_) _ _ _ _ g;dsimp only;split
 ·exact qQa hask h0 (g'.rev _ _) hq _ _
 ·exact qQa hask h0 g' hq _ _
theorem qXt(g:Gd n p)(hq:∀m p,Gd n p->Q (m,p) s)(b:Nat):(kas_count b p).kasWp cmp Q s:=by
 unfold kas_count;rw[KasT.kasWp_bind];refine qT6 hask h0 g (λm=>?_) _ _;split
 ·exact hq _ _ g
 ·split
  ·refine hask _ _ _ (g.lt h0 _) (g.lt h0 _) λc=>?_
   dsimp only;split
   ·exact hq _ _ g
   ·exact qIf hask h0 (g.rev _ _) hq _ _
  ·exact qIf hask h0 g hq _ _
theorem qKt(g:Gd n p)(hq:∀m,Q m s)(k:Nat):∀f l r,(kas_place p k f l r).kasWp cmp Q s
 |0,l,r=>hq l
 |f+1,l,r=>by
  unfold kas_place;split
  ·exact hq l
  ·refine hask _ _ _ (g.lt h0 _) (g.lt h0 _) λc=>?_
   dsimp only;split
   ·exact qKt g hq k f _ _
   ·exact qKt g hq k f _ _
theorem qZm(hq:∀p,Gd n p->Q p s):∀f p k,Gd n p->(kas_bin f p k).kasWp cmp Q s
 |0,p,k,g=>hq p g
 |f+1,p,k,g=>by
  unfold kas_bin;rw[KasT.kasWp_bind];exact qKt hask h0 g (λm=>qZm hq f _ _ (g.bub _ _)) k _ _ _
theorem zCi(hq:∀p,Gd n p->Q p s):(kas_sort n).kasWp cmp Q s:=by
 unfold kas_sort;rw[KasT.kasWp_bind];refine qXt hask h0 (hE6 _) (λm p g=>?_) _;dsimp only;split
 ·exact qZm hask h0 hq _ _ _ g
 ·exact hq _ g
end
def zFn(h:Heap)(v:Value)(t:List Str):Prop:=∃a its,v = .ref a/\IsTup h a its/\StrsAre its.toList t/\t≠[]
section
variable{P:Program}{w:World}{A:Around}{E:Value->Shared->Prop}{s:Shared}
theorem qHm(k:∀b o,b≠a->h.get? b=some o->h'.get? b=some o):∀ {vs:List Value} {ts:List (List Str)},Paired (zFn h) vs ts->(∀v∈vs,v≠.ref a)->∃fs:List Value,KatTups h' vs fs/\fs.length=vs.length/\∀f∈fs,∃x t,f=Value.str x t
 |_,_,.nil,_=>⟨[],trivial,rfl,λf hf=>by cases hf⟩
 |_,_,@Paired.cons _ _ _ v t l1 l2 hh tt,hn=>by
  obtain⟨fs,q1,q2,q3⟩:=qHm k tt λu hu=>hn u (hA6 _ hu)
  obtain⟨b,its,rfl,⟨o,g,c,n,d⟩,st,ne⟩:=hh;have nb:b≠a:=λz=>hn _ hA8 (by rw[z])
  cases t with
  |nil=>exact absurd rfl ne
  |cons x r =>
   have e:=st.strs;cases hi:its.toList with
   |nil=>rw[hi]at e;cases e
   |cons f fr =>
    have hf:its[0]?=some f:=by rw[<-hBi,hi];rfl
    refine⟨f :: fs,.cons (k b o nb g) c d hf q1,by simp[q2],λg' hg'=>?_⟩;rcases hAj.mp hg' with z|z
    ·subst z;exact st.all _ (by rw[hi];exact hA8)
    ·exact q3 g' z
end
section
variable{X:Cx}
theorem qHy:∀ {as:List Addr} {us:List Value},qBx (as.map V.ref) us->us=as.map Value.ref
 |[],_,r=>by cases r;rfl
 |a :: as,_,r=>by
  cases r with
  |cons h t=>cases h;rw[qHy t];rfl
theorem qFg:∀as:List Addr,qBx (as.map V.ref) (as.map Value.ref)
 |[]=>.nil
 |a :: as=>.cons rfl (qFg as)
theorem qRx(I:Inv X aB σ H s)(k:∀b o,s.heap.get? b=some o->h'.get? b=some o):∀ {as:List Addr} {ts:List (List Str)},Paired (λa t=>SqT X.K H a (t.map V.str)/\t≠[]) as ts->Paired (zFn h') (as.map Value.ref) ts
 |_,_,.nil=>.nil
 |_,_,.cons h t=>by
  obtain⟨h1,h2⟩:=h;obtain⟨its,rv,⟨o,g,c,n,d⟩,_⟩:=I.tuple h1;exact .cons ⟨_,its.toArray,rfl,⟨o,k _ _ g,c,n,d⟩,by simpa using qEq rv,h2⟩ (qRx I k t)
theorem qRy(I:Inv X aB σ H s):∀ {as:List Addr} {ts:List (List Str)},Paired (λa t=>SqT X.K H a (t.map V.str)/\t≠[]) as ts->∀b∈as,b<s.heap.objs.size
 |_,_,.nil,b,hb=>by cases hb
 |_,_,.cons h t,b,hb=>by
  rcases hAj.mp hb with z|z
  ·subst z;obtain⟨its,rv,⟨o,g,_⟩,_⟩:=I.tuple h.1;exact Heap.lt_size g
  ·exact qRy I t b z
end
section
variable{X:Cx}
theorem qGz:qCm X (.type "range") (λxs H Q=>∃j:Int,xs=[.int j]/\0<=j/\j<=1000/\∀r,H r=none->Q (.ref r) (upd H r (.rng 0 j))):=by
 intro aB s σ H xs us Q I r h;obtain⟨j,rfl,h0,h1,q⟩:=h;obtain⟨u,rfl,t,rfl⟩:=qCy r;refine call_range_1 ?_;exact⟨.ref s.heap.objs.size,_,I.laid (a:=s.heap.objs.size) (o:=.rng 0 j) (λb o e=>Heap.get?_push_of_some _ e) (hA9 _) ⟨_,_,_,Heap.get?_push_size _ rfl⟩,rfl,q _ (I.hok.fresh (hA9 _))⟩
theorem qMc:∀ {its:List Value} {n:Nat} (k:Nat),its.length=n->(∀i v,its[i]?=some v->∃t,v=Value.int ((k+i:Nat):Int) t)->qBx ((List.range' k n).map λ(i:Nat)=>V.int (i:Int)) its
 |[],n,k,hl,_=>by
  have e:n=0:=hl.symm;subst e;exact .nil
 |v :: r,n,k,hl,h=>by
  obtain⟨m,rfl⟩:∃m,n=m+1:=⟨n-1,by simp at hl;omega⟩;rw[List.range'_succ,hBm];refine .cons ?_ (qMc (k+1) (by simpa using hl) λi v hv=>?_)
  ·obtain⟨t,e⟩:=h 0 v rfl;exact⟨t,by rw[e,Nat.add_zero]⟩
  ·obtain⟨t,e⟩:=h (i+1) v (by simpa using hv);exact⟨t,by rw[e,show k+(i+1)=k+1+i by omega]⟩
theorem qK5(hc:X.calm=true):qCm X (.type "list") (λxs H Q=>∃(r:Addr) (j:Int),xs=[.ref r]/\H r=some (.rng 0 j)/\0<=j/\j<=1000/\∀l,H l=none->Q (.ref l) (upd H l (.lst ((List.range j.toNat).map λ(i:Nat)=>V.int (i:Int))))):=by
 intro aB s σ H xs us Q I r h;obtain⟨p,j,rfl,hp,h0,h1,q⟩:=h;obtain⟨u,rfl,rx⟩:=qCy r;cases rx;obtain⟨t,u,v,e⟩:=I.hok p _ hp;refine call_list_range (n:=j.toNat) (a:=0) (b:=j) (c:=1) (I.ok.hd hc) e (small_one (by decide) (by decide) vG vG) (by rw[rangeSize_one];split <;> omega) vG λh' tk acc' c' hk hS hacc=>?_
 refine⟨.ref s.heap.objs.size,_,I.laid (t':=tk) (a:=s.heap.objs.size) (o:=.lst ((List.range j.toNat).map λ(i:Nat)=>V.int (i:Int))) (λb o e=>hk b o e) (hA9 _) ⟨?_,acc'.toList,c',?_,by rw[Array.toArray_toList];exact hS⟩,rfl,q _ (I.hok.fresh (hA9 _))⟩
 ·rw[hA1,hB4];exact hB9 (qAf vG)
 ·rw[List.range_eq_range'];refine qMc 0 (by rw[hC3];exact hacc.1) λi v hv=>?_
  obtain⟨t,e⟩:=hacc.2 i v (by rw[<-hBi];exact hv);exact⟨t,by rw[e];congr 1;omega⟩
end
structure Ordr(lt:Nat->Nat->Bool):Prop where
 asym:∀a b,lt a b=true->lt b a=false
 tr:∀a b c,lt b a=false->lt c b=false->lt c a=false
theorem Ordr.irr(o:Ordr lt)(a:Nat):lt a a=false:=by
 cases h:lt a a with
 |false=>rfl
 |true=>exact(o.asym a a h).symm.trans h▸rfl
def SPk(lt:Nat->Nat->Bool)(p:Array Nat)(k:Nat):Prop:=∀i j,i<j->j<k->lt (p.getD j 0) (p.getD i 0)=false
def DPk(lt:Nat->Nat->Bool)(p:Array Nat)(k:Nat):Prop:=∀i j,i<j->j<k->lt (p.getD i 0) (p.getD j 0)=false
def ERk(lt:Nat->Nat->Bool)(p:Array Nat)(a b:Nat):Prop:=∀i j,a<=i->i<b->a<=j->j<b->lt (p.getD i 0) (p.getD j 0)=false
theorem Gd.size(h:Gd n p):p.size=n:=by
 have:=Array.Perm.size_eq h
 simpa using this
theorem qI8(hj:j<=p.size)(k:Nat):(kas_rev p i j).getD k 0=if i<=k/\k<j then p.getD (i+j-1-k) 0 else p.getD k 0:=by
 unfold kas_rev;rw[hCd,getElem?_mirror_all hj];split <;> rw[<-hCd]
theorem qZ0(hk:k<p.size)(hl:l<=k)(i:Nat):(bubble p k (k-l)).getD i 0=if i=l then p.getD k 0 else if l<i/\i<=k then p.getD (i-1) 0 else p.getD i 0:=by
 rw[hCd,getElem?_bubble hk _ vG];have e:k-(k-l)=l:=by omega
 rw[e];by_cases e1:i=l
 ·rw[hEk e1,hEk e1,<-hCd]
 ·rw[hEj e1,hEj e1];by_cases e2:l<i/\i<=k
  ·rw[hEk e2,hEk e2,<-hCd]
  ·rw[hEj e2,hEj e2,<-hCd]
section
variable{lt:Nat->Nat->Bool}(o:Ordr lt)
include o
theorem SPk.snoc(h:SPk lt p k)(h1:1<=k)(hk:lt (p.getD k 0) (p.getD (k-1) 0)=false):SPk lt p (k+1):=λi j hij hj=>by
 by_cases e:j=k
 ·subst e;by_cases e2:i=j-1
  ·subst e2;exact hk
  ·exact o.tr _ _ _ (h i (j-1) vG vG) hk
 ·exact h i j hij vG
theorem DPk.snoc(h:DPk lt p k)(h1:1<=k)(hk:lt (p.getD (k-1) 0) (p.getD k 0)=false):DPk lt p (k+1):=λi j hij hj=>by
 by_cases e:j=k
 ·subst e;by_cases e2:i=j-1
  ·subst e2;exact hk
  ·exact o.tr _ _ _ hk (h i (j-1) vG vG)
 ·exact h i j hij vG
omit o in
theorem DPk.rev(h:DPk lt p k)(hb:b<=p.size)(hbk:b<=k)(e:ERk lt p a b):DPk lt (kas_rev p a b) k:=λi j hij hj=>by
 rw[qI8 hb,qI8 hb];split
 ·split
  ·exact e _ _ vG vG vG vG
  ·exact h _ _ vG vG
 ·split
  ·exact h _ _ vG vG
  ·exact h _ _ vG vG
omit o in
theorem DPk.turn(h:DPk lt p k)(hk:k<=p.size):SPk lt (kas_rev p 0 k) k:=λi j hij hj=>by
 rw[qI8 hk,qI8 hk,hEk vG,hEk vG];exact h _ _ vG vG
variable{n:Nat}{cmp:Nat->Nat->(Bool->Shared->Prop)->Shared->Prop}{s:Shared}(hask:∀i j C,i<n->j<n->C (lt i j) s->cmp i j C s)(h0:0<n)
include hask h0
theorem qSj(g:Gd n p)(N:Nat)(hq:∀m,SPk lt p m->1<=m->m<=N->(m<N->lt (p.getD m 0) (p.getD (m-1) 0)=true)->Q m s):∀f m,1<=m->m+f=N->SPk lt p m->(kas_asc p f m).kasWp cmp Q s
 |0,m,h1,hN,sp=>hq m sp h1 vG (λz=>by omega)
 |f+1,m,h1,hN,sp=>by
  refine hask _ _ _ (g.lt h0 _) (g.lt h0 _) ?_;dsimp only;split
  ·rename_i c;exact hq m sp h1 vG λ_=>c
  ·rename_i c;exact qSj g N hq f (m+1) vG vG (sp.snoc o h1 (by simpa using c))
theorem qJz(N:Nat)(hN:N<=n)(hq:∀p m q,Gd n p->1<=m->q+1<=m->m<=N->DPk lt p m->ERk lt p (m-(q+1)) m->Q (p,m,q) s):∀f p m q,Gd n p->1<=m->q+1<=m->m+f=N->DPk lt p m->ERk lt p (m-(q+1)) m->(kas_desc f p m q).kasWp cmp Q s
 |0,p,m,q,g,h1,h2,h3,dp,er=>hq p m q g h1 h2 vG dp er
 |f+1,p,m,q,g,h1,h2,h3,dp,er=>by
  have sz:=g.size;refine hask _ _ _ (g.lt h0 _) (g.lt h0 _) ?_;dsimp only;split
  ·rename_i c;have dp':=dp.snoc o h1 (o.asym _ _ c);have one:∀p':Array Nat,ERk lt p' (m+1-(0+1)) (m+1):=λp' i j hi hi' hj hj'=>by
    have e1:i=m:=by omega
    have e2:j=m:=by omega
    subst e1 e2;exact o.irr _
   split
   ·exact qJz N hN hq f _ (m+1) 0 (g.rev _ _) vG vG vG (dp'.rev vG vG er) (one _)
   ·exact qJz N hN hq f p (m+1) 0 g vG vG vG dp' (one _)
  ·rename_i c;refine hask _ _ _ (g.lt h0 _) (g.lt h0 _) ?_;dsimp only;split
   ·exact hq p m q g h1 h2 vG dp er
   ·rename_i d;have c':lt (p.getD m 0) (p.getD (m-1) 0)=false:=by simpa using c
    have d':lt (p.getD (m-1) 0) (p.getD m 0)=false:=by simpa using d
    refine qJz N hN hq f p (m+1) (q+1) g vG vG vG (dp.snoc o h1 d') λi j hi hi' hj hj'=>?_
    by_cases ei:i=m
    ·subst ei;by_cases ej:j=i
     ·subst ej;exact o.irr _
     ·exact o.tr _ _ _ (er (i-1) j vG vG vG vG) c'
    ·by_cases ej:j=m
     ·subst ej;exact o.tr _ _ _ d' (er i (j-1) vG vG vG vG)
     ·exact er i j vG vG vG vG
theorem qO9(g:Gd n p)(N:Nat)(hN:N<=n)(hq:∀m p,Gd n p->SPk lt p m->1<=m->m<=N->Q (m,p) s)(m:Nat)(h1:1<=m)(h2:m<=N)(dp:DPk lt p m):(kas_tail3 m N p).kasWp cmp Q s:=by
 unfold kas_tail3;rw[KasT.kasWp_bind];have sz:=g.size;exact qSj o hask h0 (g.rev _ _) N (λm' sp a b _=>hq m' _ (g.rev _ _) sp a b) _ _ h1 vG (dp.turn vG)
theorem qHr(g:Gd n p)(N:Nat)(hN:N<=n)(hq:∀m p,Gd n p->SPk lt p m->1<=m->m<=N->Q (m,p) s)(m:Nat)(h2:m+1<=N)(dp:DPk lt p (m+1)):(kas_descPart m N p).kasWp cmp Q s:=by
 unfold kas_descPart;rw[KasT.kasWp_bind];refine qJz o hask h0 N hN (λp' m' q g' a b c dp' er=>?_) _ _ _ _ g vG vG vG dp λi j hi hi' hj hj'=>?_
 ·have sz:=g'.size;dsimp only;split
  ·exact qO9 o hask h0 (g'.rev _ _) N hN hq _ a c (dp'.rev vG (hA9 _) er)
  ·exact qO9 o hask h0 g' N hN hq _ a c dp'
 ·have e1:i=m:=by omega
  have e2:j=m:=by omega
  subst e1 e2;exact o.irr _
theorem qWc(g:Gd n p)(hq:∀m p,Gd n p->SPk lt p m->1<=m->m<=n->Q (m,p) s):(kas_count n p).kasWp cmp Q s:=by
 unfold kas_count;rw[KasT.kasWp_bind];have sz:=g.size;refine qSj o hask h0 g n (λm sp m1 mn st=>?_) _ _ (hA9 _) vG (λi j hij hj=>by omega);split
 ·exact hq _ _ g sp m1 mn
 ·rename_i c;have c':m≠n:=by simpa using c
  have lt1:=st vG;have ge1:=o.asym _ _ lt1;split
  ·refine hask _ _ _ (g.lt h0 _) (g.lt h0 _) ?_;dsimp only;split
   ·exact hq _ _ g sp m1 mn
   ·rename_i d;have d':lt (p.getD 0 0) (p.getD (m-1) 0)=false:=by simpa using d
    have lo:∀i,i<m->lt (p.getD (m-1) 0) (p.getD i 0)=false:=λi hi=>by
     by_cases e:i=m-1
     ·subst e;exact o.irr _
     ·exact sp i (m-1) vG vG
    have hi0:∀j,j<m->lt (p.getD j 0) (p.getD 0 0)=false:=λj hj=>by
     by_cases e:j=0
     ·subst e;exact o.irr _
     ·exact sp 0 j vG hj
    have er:ERk lt p 0 m:=λi j _ hi _ hj=>o.tr _ _ _ (o.tr _ _ _ (lo j hj) d') (hi0 i hi)
    refine qHr o hask h0 (g.rev _ _) n (hA9 _) hq m vG λi j hij hj=>?_
    rw[qI8 vG,qI8 vG];by_cases ej:j=m
    ·subst ej;rw[hEk vG,hEj vG];exact o.tr _ _ _ ge1 (er _ _ vG vG vG vG)
    ·rw[hEk vG,hEk vG];exact er _ _ vG vG vG vG
  ·have e:m=1:=by omega
   subst e;refine qHr o hask h0 g n (hA9 _) hq 1 vG λi j hij hj=>?_
   have e1:i=0:=by omega
   have e2:j=1:=by omega
   subst e1 e2;exact ge1
theorem qJy(g:Gd n p)(k:Nat)(sp:SPk lt p k)(hq:∀l,l<=k->(∀i,i<l->lt (p.getD k 0) (p.getD i 0)=false)->(∀i,l<=i->i<k->lt (p.getD i 0) (p.getD k 0)=false)->Q l s) :
  ∀f l r,l<=r->r<=k->r-l<=f->(∀i,i<l->lt (p.getD k 0) (p.getD i 0)=false)->(∀i,r<=i->i<k->lt (p.getD i 0) (p.getD k 0)=false)->(kas_place p k f l r).kasWp cmp Q s
 |0,l,r,h1,h2,h3,a,b=>hq l vG a λi hi hk=>b i vG hk
 |f+1,l,r,h1,h2,h3,a,b=>by
  unfold kas_place;split
  ·exact hq l vG a λi hi hk=>b i vG hk
  ·refine hask _ _ _ (g.lt h0 _) (g.lt h0 _) ?_;dsimp only;split
   ·rename_i c;have c':=o.asym _ _ c;refine qJy g k sp hq f l ((l+r) / 2) vG vG vG a λi hi hk=>?_
    by_cases e:i=(l+r) / 2
    ·subst e;exact c'
    ·exact o.tr _ _ _ c' (sp _ _ vG hk)
   ·rename_i c;have c':lt (p.getD k 0) (p.getD ((l+r) / 2) 0)=false:=by simpa using c
    refine qJy g k sp hq f ((l+r) / 2+1) r vG h2 vG (λi hi=>?_) b;by_cases e:i=(l+r) / 2
    ·subst e;exact c'
    ·exact o.tr _ _ _ (sp i ((l+r) / 2) vG vG) c'
theorem qY1(hq:∀p,Gd n p->SPk lt p n->Q p s):∀f p k,Gd n p->k+f=n->SPk lt p k->(kas_bin f p k).kasWp cmp Q s
 |0,p,k,g,h1,sp=>hq p g (by rw[<-h1];exact sp)
 |f+1,p,k,g,h1,sp=>by
  unfold kas_bin;rw[KasT.kasWp_bind];have sz:=g.size;refine qJy o hask h0 g k sp (λl hl a b=>qY1 hq f _ _ (g.bub _ _) vG λi j hij hj=>?_) k 0 k vG (hA9 _) vG (λi hi=>by omega) (λi hi hk=>by omega);rw[qZ0 vG hl,qZ0 vG hl];by_cases ej:j=l
  ·rw[hEk ej,hEj vG,hEj vG];exact a i vG
  ·rw[hEj ej];by_cases ej2:l<j/\j<=k
   ·rw[hEk ej2];by_cases ei:i=l
    ·rw[hEk ei];exact b (j-1) vG vG
    ·rw[hEj ei];split
     ·exact sp _ _ vG vG
     ·exact sp _ _ vG vG
   ·rw[hEj ej2,hEj vG,hEj vG];exact sp _ _ hij vG
theorem qNg(hq:∀p,Gd n p->SPk lt p n->Q p s):(kas_sort n).kasWp cmp Q s:=by
 unfold kas_sort;rw[KasT.kasWp_bind];refine qWc o hask h0 (hE6 _) (λm p g sp m1 mn=>?_);dsimp only;have e:max m 1=m:=by omega
 rw[e];split
 ·exact qY1 o hask h0 hq _ _ _ g vG sp
 ·have e2:m=n:=by omega
  subst e2;exact hq _ g sp
end
theorem txTri:∀a b:List Nat,a<b\/a=b\/b<a
 |[],[]=>.inr (.inl rfl)
 |[],_ :: _=>.inl (List.nil_lt_cons _ _)
 |_ :: _,[]=>.inr (.inr (List.nil_lt_cons _ _))
 |x :: a,y :: b=>by
  rcases Nat.lt_trichotomy x y with h|h|h
  ·exact .inl (hE7.mpr (.inl h))
  ·subst h;rcases txTri a b with h|h|h
   ·exact .inl (hE7.mpr (.inr ⟨rfl,h⟩))
   ·exact .inr (.inl (by rw[h]))
   ·exact .inr (.inr (hE7.mpr (.inr ⟨rfl,h⟩)))
  ·exact .inr (.inr (hE7.mpr (.inl h)))
theorem zFp{x y:Str}(h:x.cps.toList=y.cps.toList):x=y:=by
 cases x;cases y;simp only[Str.mk.injEq];exact Array.toList_inj.mp h
noncomputable def qSr(x y:Str):Bool:=decide (x.cps.toList<y.cps.toList)
theorem qD0(x:Str):qSr x x=false:=hEg (List.lt_irrefl _)
theorem qEs(h:qSr x y=true)(h':qSr y z=true):qSr x z=true:=hEf (List.lt_trans (hEi h) (hEi h'))
theorem qJ3(x y:Str):qSr x y=true\/x=y\/qSr y x=true:=by
 rcases txTri x.cps.toList y.cps.toList with h|h|h
 ·exact .inl (hEf h)
 ·exact .inr (.inl (zFp h))
 ·exact .inr (.inr (hEf h))
noncomputable def ltL:List Str->List Str->Bool
 |[],[]=>false
 |[],_ :: _=>true
 |_ :: _,[]=>false
 |x :: r,y :: t=>if x=y then ltL r t else qSr x y
theorem qN9:∀a:List Str,ltL a a=false
 |[]=>rfl
 |x :: r=>by unfold ltL;rw[hEk rfl];exact qN9 r
theorem qIc:∀a b:List Str,ltL a b=true\/a=b\/ltL b a=true
 |[],[]=>.inr (.inl rfl)
 |[],_ :: _=>.inl rfl
 |_ :: _,[]=>.inr (.inr rfl)
 |x :: r,y :: t=>by
  unfold ltL;by_cases e:x=y
  ·subst e;rw[hEk rfl,hEk rfl];rcases qIc r t with h|h|h
   ·exact .inl h
   ·exact .inr (.inl (by rw[h]))
   ·exact .inr (.inr h)
  ·rw[hEj e,hEj (λz=>e z.symm)];rcases qJ3 x y with h|h|h
   ·exact .inl h
   ·exact absurd h e
   ·exact .inr (.inr h)
theorem qFw:∀a b c:List Str,ltL a b=true->ltL b c=true->ltL a c=true
 |[],_,[],h,h'=>by
  rename_i b;cases b with
  |nil=>exact h
  |cons _ _=>cases h'
 |[],_,_ :: _,_,_=>rfl
 |_ :: _,[],_,h,_=>by cases h
 |_ :: _,_ :: _,[],_,h'=>by cases h'
 |x :: r,y :: t,z :: u,h,h'=>by
  unfold ltL at h h' ⊢;by_cases e1:x=y
  ·subst e1;rw[hEk rfl]at h;by_cases e2:x=z
   ·subst e2;rw[hEk rfl]at h' ⊢;exact qFw r t u h h'
   ·rw[hEj e2]at h' ⊢;exact h'
  ·rw[hEj e1]at h;by_cases e2:y=z
   ·subst e2;rw[hEj e1];exact h
   ·rw[hEj e2]at h';have q:=qEs h h';have e3:¬x=z:=λe=>by rw[e,qD0]at q;cases q
    rw[hEj e3];exact q
theorem qP3(a b:List Str)(h:ltL a b=true):ltL b a=false:=by
 cases q:ltL b a with
 |false=>rfl
 |true=>have:=qFw a b a h q;rw[qN9]at this;cases this
def ltI(ts:List (List Str))(i j:Nat):Bool:=ltL (ts.getD i []) (ts.getD j [])
theorem qT1(ts:List (List Str)):Ordr (ltI ts):=⟨λa b h=>qP3 _ _ h,λa b c h h'=>by
 have h1:ltL (ts.getD b []) (ts.getD a [])=false:=h;have h2:ltL (ts.getD c []) (ts.getD b [])=false:=h';show ltL (ts.getD c []) (ts.getD a [])=false;rcases qIc (ts.getD a []) (ts.getD b []) with q|q|q
 ·rcases qIc (ts.getD b []) (ts.getD c []) with r|r|r
  ·exact qP3 _ _ (qFw _ _ _ q r)
  ·rw[<-r];exact h1
  ·rw[h2]at r;cases r
 ·rw[q];exact h2
 ·rw[h1]at q;cases q⟩
theorem qDt(vs:List Value):(List.range vs.length).map (λi=>vs.getD i Value.none)=vs:=by
 refine hDv λi=>?_
 by_cases hi:i<vs.length
 ·rw[hAl,hD3 hi,hA2 hi];show some (vs.getD i Value.none)=_;rw[hAa,hA2 hi];rfl
 ·rw[hBu (by simp;omega),hBu vG]
theorem qMa:∀ {vs us:List Value} {x y:List Str} (i:Nat),StrsAre vs x->StrsAre us y->Q (ltL x y) s->fin=decide (x.length<y.length)->KatLex P w A b fin Q (vs.zip us) i s
 |_,_,_,_,i,.nil,.nil,hQ,hf=>by rw[hf];exact hQ
 |_,_,_,_,i,.nil,.cons _ _ _,hQ,hf=>by rw[hf];exact hQ
 |_,_,_,_,i,.cons _ _ _,.nil,hQ,hf=>by rw[hf];exact hQ
 |_,_,_,_,i,.cons p t r,.cons q u r',hQ,hf=>by
  refine kat_cons (wpAny_eqBool_str (kat_go (λe=>kat_yes (qMa (i+1) r r' ?_ ?_)) λe=>kat_no ?_))
  ·have e':=hEi e;unfold ltL at hQ;rw[hEk e']at hQ;exact hQ
  ·rw[hf];simp
  ·have e':=hFb e;unfold ltL at hQ;rw[hEj e']at hQ;cases hb:(b && i == 0) with
   |true=>exact strKind_oneLt P w A _ s _ _ _ _ rfl rfl hQ
   |false=>exact kat_one _ _ (lt_str hQ)
section
variable{P:Program}{w:World}{A:Around}{E:Value->Shared->Prop}{s:Shared}
theorem qJl(k:∀b o,b≠a->h.get? b=some o->h'.get? b=some o):∀ {vs:List Value} {ts:List (List Str)} {i:Nat},Paired (zFn h) vs ts->(∀v∈vs,v≠.ref a)->i<vs.length->∃(b:Addr) (its:Array Value),IsTup h' b its/\vs.getD i Value.none = .ref b/\StrsAre its.toList (ts.getD i [])
 |_,_,i,.nil,_,hi=>absurd hi (hCe _)
 |_,_,0,@Paired.cons _ _ _ v t l1 l2 hh tt,hn,_=>by
  obtain⟨b,its,rfl,⟨o,g,c,n,d⟩,st,ne⟩:=hh;have nb:b≠a:=λz=>hn _ hA8 (by rw[z])
  exact⟨b,its,⟨o,k b o nb g,c,n,d⟩,rfl,st⟩
 |_,_,i+1,@Paired.cons _ _ _ v t l1 l2 hh tt,hn,hi=>qJl (i:=i) k tt (λu hu=>hn u (hA6 _ hu)) (by simpa using hi)
theorem qRc(ho:s.heap.get? a=some (seqObj "list" vs.toArray n))(ht:Paired (zFn s.heap) vs ts)(h64:vs.length<64)(hna:∀v∈vs,v≠.ref a)
  (h:∀(out:List Value) (p:Array Nat),out.Perm vs->Gd vs.length p->SPk (ltI ts) p vs.length->out=p.toList.map (λi=>vs.getD i Value.none)->R (.done (.ret .none)) { s with heap:=sortedHeap s.heap a vs out.toArray }):wpAny (model P w) A (Builtin.«list.sort» ⟨[.ref a],[]⟩) R E s:=by
 rw[list_sort_plain];have ha:a<s.heap.objs.size:=Heap.lt_size ho;refine hEe (hFh ho rfl (hEe (hEp ho rfl ?_ (by rw[hAk,hEn];omega) (hAt _))));obtain⟨e1,ho1⟩:∃e1,(s.heap.update a (Obj.mapSeq λ_=>#[])).get? a=some (seqObj "list" #[] e1):=⟨_,get?_update_seq ho (λ_=>#[])⟩;refine hEe (hF8 ho1 rfl (hEe (hFg ?_ (by show vs.length<=_;rw[hEn];omega))));refine hEe (hEx ?_ (hAt _));refine hEs ?_;have ho6:((vB 0).push (seqObj "list" #[] 0)).get? a=some (seqObj "list" #[] e1):=Heap.get?_push_of_some _ (Heap.get?_push_of_some _ ho1);have keep:∀b o,b≠a->s.heap.get? b=some o->((vB 0).push (seqObj "list" #[] 0)).get? b=some o:=λb o hb e=>by
  refine Heap.get?_push_of_some _ (Heap.get?_push_of_some _ ?_);rw[Heap.get?_update_ne _ _ _ _ hb];exact e
 show wpAny (model P w) A _ R E { s with heap:=(vB 0).push (seqObj "list" #[] 0) };dsimp only;have fin:∀(st':SortSt) (out:List Value),(arrOf st').map (·.2)=out.toArray->failedOf st'=none->out.Perm vs->(∃p,Gd vs.length p/\SPk (ltI ts) p vs.length/\out=p.toList.map (λi=>vs.getD i Value.none))->wpAny (model P w) A (do
   let touched:=(← seqEpoch a) != e1
   Builtin.List.listUpdate (.ref a) λ_=>(arrOf st').map (·.2)
   if let some e:=failedOf st' then rule "list.sort.comparison-raised";throw e
   if touched then rule "list.sort.modified";raiseError "ValueError" "list modified during sort"
   ret .none) R E { s with heap:=(vB 0).push (seqObj "list" #[] 0) }:=by
  intro st' out e hf hp ⟨p,hg,hsp,ep⟩;refine hEe (hF8 ho6 rfl ?_);refine hEe (hEp ho6 rfl ?_ (hAt _) (by rw[e,hAk,hp.length_eq,hEn];omega));rw[hf];simp only[hFe,hCq,hFf];rw[e];exact hEh (h out p hp hg hsp ep)
 by_cases h2:vs.toArray.size<2
 ·rw[hEk h2,hEk h2];refine hEe (hEh ?_);rw[StateT.run_pure];refine hEe (hEh (fin _ vs ?_ rfl (hDg _) ⟨Rng vs.length,hE6 _,λi j hij hj=>absurd hj (by rw[hAk]at h2;omega),(qDt vs).symm⟩));show(vs.toArray.zip vs.toArray).map (·.2)=vs.toArray;apply Array.toList_inj.mp;rw[Array.toList_map,Array.toList_zip];exact List.map_snd_zip (hA9 _)
 ·rw[hEj h2,hEj h2];have hl2:2<=vs.length:=by rw[hAk]at h2;omega
  obtain⟨fs,kt,fl,fa⟩:=qHm (a:=a) keep ht hna;refine hEe (kat_kind (T:=.type "str") kt vG (λv hv=>?_) (by decide) ?_)
  ·obtain⟨x,t,rfl⟩:=fa v hv;exact .now
  refine hEe (hEq (kat_run (ks:=vs) (Q:=λst' s'=>s'={ s with heap:=(vB 0).push (seqObj "list" #[] 0) }/\∃out:List Value,(arrOf st').map (·.2)=out.toArray/\failedOf st'=none/\out.Perm vs/\∃p,Gd vs.length p/\SPk (ltI ts) p vs.length/\out=p.toList.map (λi=>vs.getD i Value.none)) (G:=λp s'=>s'={ s with heap:=(vB 0).push (seqObj "list" #[] 0) }/\Gd vs.length p/\SPk (ltI ts) p vs.length) rfl hl2 h64 (λp st' s' a1 a2 a3 a4=>?_) ?_) ?_ λ_ _ e=>e)
  ·obtain⟨rfl,g,sp⟩:=a4;refine⟨rfl,_,kat_snds rfl a2,a3,?_,p,g,sp,rfl⟩;have q:=(hC5.mp g).map λi=>vs.getD i Value.none
   exact q.trans (hE8 (qDt vs))
  ·refine qNg (qT1 ts) (λi j C hi hj hC=>?_) vG λp g sp=>⟨rfl,g,sp⟩
   obtain⟨x1,y1,z1,v1,w1⟩:=qJl keep ht hna hi;obtain⟨x2,y2,z2,v2,w2⟩:=qJl keep ht hna hj;show wpAny _ _ (keyLt' _ (vs.getD i Value.none) (vs.getD j Value.none)) C _ _;rw[v1,v2];obtain⟨o1,g1,c1,n1,d1⟩:=z1;obtain⟨o2,g2,c2,n2,d2⟩:=z2;have l1:y1.size=(ts.getD i []).length:=by rw[<-w1.strs];simp
   have l2:y2.size=(ts.getD j []).length:=by rw[<-w2.strs];simp
   exact kat_lt g1 d1 g2 d2 (qMa 0 w1 w2 hC (by rw[l1,l2]))
  ·rintro⟨⟨⟩,st'⟩ s' ⟨rfl,out,q1,q2,q3,q4⟩;exact fin st' out q1 q2 q3 q4
end
theorem qMd(g:Gd n o)(hi:i∈o.toList):i<n:=by
 have:=(hC5.mp g).mem_iff.mp hi
 simpa using this
theorem qUh(g:Gd n o):o.toList.length=n:=by
 have:=g.size
 simpa using this
theorem qLz{as:List Addr}{l:List Nat}(h:∀i∈l,i<as.length):l.map (λi=>(as.map Value.ref).getD i Value.none)=(l.map λi=>as.getD i 0).map Value.ref:=by
 rw[hB6];refine hBg λi hi=>?_
 have:=h i hi;show(as.map Value.ref).getD i Value.none=Value.ref (as.getD i 0);rw[hAa,hAa,hAl,hA2 this];rfl
section
variable{X:Cx}
theorem qK4:qCm X (.builtin "sorted") (λxs H Q=>∃(p:Addr) (as:List Addr) (ts:List (List Str)),xs=[.ref p]/\SqL X.K H p (as.map V.ref)/\Paired (λa t=>SqT X.K H a (t.map V.str)/\t≠[]) as ts/\as.length<64/\∀(r:Addr) (o:Array Nat),H r=none->Gd as.length o->SPk (ltI ts) o as.length->Q (.ref r) (upd H r (.lst ((o.toList.map λi=>as.getD i 0).map V.ref)))):=by
 intro aB s σ H xs us Q I r h;obtain⟨p,as,ts,rfl,hq,ht,h64,q⟩:=h;obtain⟨u,rfl,rx⟩:=qCy r;cases rx;obtain⟨its,rv,pl,hz⟩:=I.list hq;have ei:=qHy rv;subst ei;refine Calls.call_function_entry kind_sorted hFp hFq (args_sorted1 _) ?_;unfold Builtin.«sorted»;refine hEe (m:=checkCount "sorted" 1 1 _) (hEh (hEe (collect_list pl.isList ?_ (by rw[hA1,hEn];omega))));refine hEe (hEx ?_ (by rw[hA1,hEn];omega));have hsz:(vC 0).objs.size=s.heap.objs.size+1:=by rw[Heap.size_update,hFk]
 have hoL:((vC 0).push (seqObj "list" (as.map Value.ref).toArray 0)).get? (s.heap.objs.size+1)=some (seqObj "list" (as.map Value.ref).toArray 0):=by
  rw[<-hsz];exact Heap.get?_push_size _ rfl
 have keep:∀b o,s.heap.get? b=some o->((vC 0).push (seqObj "list" (as.map Value.ref).toArray 0)).get? b=some o:=λb o e=>by
  have hlt:b<s.heap.objs.size:=Heap.lt_size e;rw[Heap.get?_push_ne _ _ _ (by rw[hsz];exact hAx (hC1 hlt)),Heap.get?_update_ne _ _ _ _ (hAx hlt),Heap.get?_push_ne _ _ _ (hAx hlt)];exact e
 show wpAny _ _ _ _ _ { s with heap:=(vC 0).push (seqObj "list" (as.map Value.ref).toArray 0) };rw[hsz];have tp:=qRx (h':=(vC 0).push (seqObj "list" (as.map Value.ref).toArray 0)) I keep ht;refine hEe (hEs (hEo slot_list_sort ⟨_,hoL,rfl⟩ entry_list_sort (qRc hoL tp (by rw[hA1];exact h64) (λv hv z=>?_) λout o hp hg hsp eo=>⟨_,rfl,?_⟩) (args_list_sort _)))
 ·obtain⟨b,hb,e⟩:=hAe.mp hv;rw[<-e]at z;injection z with z
  have lt:=qRy I ht b hb;exact absurd lt (by rw[z];exact Nat.not_lt_of_le (hBq _))
 rw[hA1]at hg hsp;rw[qLz λi hi=>qMd hg hi]at eo;subst eo;have nz:H (s.heap.objs.size+1)=none:=I.hok.fresh (hBq _);obtain⟨e,he⟩:=sortedAll_at s.heap (as.map Value.ref) ((o.toList.map λi=>as.getD i 0).map Value.ref).toArray;refine hEh ⟨_,rfl,.ref (s.heap.objs.size+1),_,I.laid (t':=s.toks) (a:=s.heap.objs.size+1) (o:=.lst ((o.toList.map λi=>as.getD i 0).map V.ref)) (h':=sortedAll s.heap (as.map Value.ref) ((o.toList.map λi=>as.getD i 0).map Value.ref).toArray) (λb o eb=>sortedAll_old eb) (hBq _) ⟨?_,(o.toList.map λi=>as.getD i 0).map Value.ref,e,qFg _,he⟩,rfl,q _ o nz hg hsp⟩;rw[hA1,hA1,qUh hg];exact hB9 (qAf vG)
end
end L2
namespace L2
open PySem PySem.Spec PyProof.Rows PySem.W
open AutoSeq1 (wpAny_loadPart')
open MeetsSeq MeetsSeq2 MeetsSeq3 SeqRoads2
theorem qJo(h:StrsAre vs x):∀ {i:Nat},i<vs.length->∃t,vs[i]?=some (.str (x.getD i "") t):=by
 induction h with
 |nil=>intro i hi;exact absurd hi (hCe _)
 |cons p t r ih =>
  intro i hi;cases i with
  |zero=>exact⟨t,rfl⟩
  |succ i=>simpa using ih (i:=i) (by simpa using hi)
theorem qUu{x:List Str}{i:Nat}(h:i<x.length):x.drop i=x.getD i "" :: x.drop (i+1):=by
 rw[hCs h,hAa,hA2 h];rfl
theorem qXp(l b:Addr)(items items2:Array Value)(n n2:Nat)(dd dd2:Option Addr)(sl sl2:Array (Option Value))(x y:List Str)(hx:StrsAre items.toList x)(hy:StrsAre items2.toList y):∀(k i:Nat),items.size-i=k->i<=items.size->i<=items2.size ->
  Meets (Builtin.«list.__eq__.loop» ⟨[.ref l,.ref b,rawInt i,rawInt 0],[]⟩)
   (λA R s=>(s.heap.get? l=some { cls:=.type "list",dict:=dd,data:=.seq items n,slots:=sl }/\s.heap.get? b=some { cls:=.type "list",dict:=dd2,data:=.seq items2 n2,slots:=sl2 })/\R (.ok (.ret (.bool (ltL (x.drop i) (y.drop i))))) s):=by
 have lx:items.size=x.length:=by rw[<-hx.strs];simp
 have ly:items2.size=y.length:=by rw[<-hy.strs];simp
 intro k
 induction k with
 |zero =>
  intro i hk h1 h2 prog w A R s h;obtain⟨hp,g,d,tk,os⟩:=s;obtain⟨⟨hl,hb⟩,h⟩:=h;have e1:i=items.size:=by omega
  have q1:items[((i:Nat):Int).toNat]?=none:=by simp;omega
  wp_walk using hEm hl,hEm hb
  rw[q1]
  wp_walk using hEm hl,hEm hb
  have dx:x.drop i=[]:=by simp;omega
  rw[dx]at h;show R (.ok (.ret (.bool (decide (items.size<items2.size))))) _;cases hd:y.drop i with
  |nil =>
   rw[hd]at h;have:y.length<=i:=by simpa using hd
   rw[hEg vG];exact h
  |cons a r =>
   rw[hd]at h;have:i<y.length:=by
    have:=congrArg List.length hd;rw[List.length_drop,hC9]at this;omega
   rw[hEf vG];exact h
 |succ k ih =>
  intro i hk h1 h2 prog w A R s h;obtain⟨hp,g,d,tk,os⟩:=s;obtain⟨⟨hl,hb⟩,h⟩:=h;have hlt:i<items.size:=by omega
  obtain⟨t1,q1⟩:=qJo hx (i:=i) (by simpa using hlt);rw[hBi]at q1;have q1':items[((i:Nat):Int).toNat]?=some (.str (x.getD i "") t1):=q1;have dx:=qUu (x:=x) (i:=i) vG
  wp_walk using hEm hl,hEm hb
  rw[q1'];by_cases hlt2:i<items2.size
  ·obtain⟨t2,q2⟩:=qJo hy (i:=i) (by simpa using hlt2);rw[hBi]at q2;have q2':items2[((i:Nat):Int).toNat]?=some (.str (y.getD i "") t2):=q2;have dy:=qUu (x:=y) (i:=i) vG;have hc:((i:Int)+1)=((i+1:Nat):Int):=by push_cast;rfl
   rw[dx,dy]at h;unfold ltL at h;rw[q2'];refine hEe (wpAny_eqBool_str ?_);by_cases e:x.getD i ""=y.getD i ""
   ·rw[hEk e]at h;rw[hEf e]
    wp_walk
    rw[hc];exact⟨hEw plain_eq_loop _,hEr entry_eq_loop (by
     rw[Around.under_plainId plain_eq_loop _];exact ih (i+1) vG vG vG prog w A R _ ⟨⟨hl,hb⟩,h⟩)⟩
   ·rw[hEj e]at h;rw[hEg e]
    wp_walk using hEm hl,hEm hb
    rw[q1',q2'];refine hEe (richCompare_gives (op:=.Lt) (typeIs_str _ _ _) (typeIs_str _ _ _) F.slot_str_lt F.entry_str_lt (F.args_str_lt_2 _ _) (gives_str_lt _ _ _ _) (λe=>nomatch e) ?_);exact hEh h
  ·have q2':items2[((i:Nat):Int).toNat]?=none:=by simp;omega
   rw[q2']
   wp_walk using hEm hl,hEm hb
   have dy:y.drop i=[]:=by simp;omega
   rw[dx,dy]at h;show R (.ok (.ret (.bool (decide (items.size<items2.size))))) _;rw[hEg vG];exact h
theorem qP7(l b:Addr)(items items2:Array Value)(n n2:Nat)(dd dd2:Option Addr)(sl sl2:Array (Option Value))(x y:List Str)(hx:StrsAre items.toList x)(hy:StrsAre items2.toList y) :
  Meets (Builtin.«list.__lt__» ⟨[.ref l,.ref b],[]⟩)
   (λA R s=>(s.heap.get? l=some { cls:=.type "list",dict:=dd,data:=.seq items n,slots:=sl }/\s.heap.get? b=some { cls:=.type "list",dict:=dd2,data:=.seq items2 n2,slots:=sl2 })/\R (.ok (.ret (.bool (ltL x y)))) s):=by
 intro prog w A R s h;obtain⟨hp,g,d,tk,os⟩:=s;obtain⟨⟨hl,hb⟩,h⟩:=h;have f3:=AutoSeq1.sub_list_list
 wp_walk using hEm hl,hEm hb
 exact⟨hEw plain_eq_loop _,hEr entry_eq_loop (by
  rw[Around.under_plainId plain_eq_loop _];exact qXp l b items items2 n n2 dd dd2 sl sl2 x y hx hy _ 0 rfl (hAt _) (hAt _) prog w A R _ ⟨⟨hl,hb⟩,h⟩)⟩
theorem qOb(hu:A.units<cLine)(hl:s.heap.IsList l items)(hb:s.heap.IsList b items2)(hx:StrsAre items.toList x)(hy:StrsAre items2.toList y)
  (h:Q (ltL x y) s):wpAny (model P w) A (keyLt' oneType' (.ref l) (.ref b)) Q E s:=by
 obtain⟨⟨cls,dd,data,sl⟩,ho,hc,n,hd⟩:=hl;obtain⟨⟨cls2,dd2,data2,sl2⟩,ho2,hc2,n2,hd2⟩:=hb;simp only at hc hd hc2 hd2;subst hc hd hc2 hd2;rw[keyLt'_oneType,oneLt'_eq];simp only[if_true];refine hEe (wpAny_cRoomFor hu ?_);refine hEe (wpAny_callSpecialIfBound?_slot (⟨_,ho,rfl⟩:s.TypeIs (.ref l) "list") F.slot_list_lt (hFj F.slot_list_lt ⟨_,ho,rfl⟩ F.entry_list_lt (F.args_list_lt_2 _ _) (qP7 l b items items2 n n2 dd dd2 sl sl2 x y hx hy) ⟨⟨ho,ho2⟩,?_⟩));exact hEt h
end L2
namespace L2
open PySem PySem.Spec PyProof.Rows PySem.W
def qVw(h:Heap)(v:Value)(t:List Str):Prop:=∃a its,v = .ref a/\h.IsList a its/\StrsAre its.toList t
theorem qL6:∀ {vs:List Value} {ts:List (List Str)},Paired (qVw h) vs ts->∀v∈vs,∃t∈ts,qVw h v t
 |_,_,.nil,v,hv=>by cases hv
 |_,_,.cons x r,v,hv=>by
  rcases hAj.mp hv with z|z
  ·subst z;exact⟨_,hA8,x⟩
  ·obtain⟨t,ht,q⟩:=qL6 r v z;exact⟨t,hA6 _ ht,q⟩
section
variable{P:Program}{w:World}{A:Around}{E:Value->Shared->Prop}{s:Shared}
theorem qIe{h h':Heap}{a:Addr}(k:∀b o,b≠a->h.get? b=some o->h'.get? b=some o):∀ {vs:List Value} {ts:List (List Str)} {i:Nat},Paired (qVw h) vs ts->(∀v∈vs,v≠.ref a)->i<vs.length->∃(b:Addr) (its:Array Value),h'.IsList b its/\vs.getD i Value.none = .ref b/\StrsAre its.toList (ts.getD i [])
 |_,_,i,.nil,_,hi=>absurd hi (hCe _)
 |_,_,0,@Paired.cons _ _ _ v t l1 l2 hh tt,hn,_=>by
  obtain⟨b,its,rfl,⟨o,g,c,n,d⟩,st⟩:=hh;have nb:b≠a:=λz=>hn _ hA8 (by rw[z])
  exact⟨b,its,⟨o,k b o nb g,c,n,d⟩,rfl,st⟩
 |_,_,i+1,@Paired.cons _ _ _ v t l1 l2 hh tt,hn,hi=>qIe (i:=i) k tt (λu hu=>hn u (hA6 _ hu)) (by simpa using hi)
theorem qNd(hu:A.units<cLine)(ho:s.heap.get? a=some (seqObj "list" vs.toArray n))(ht:Paired (qVw s.heap) vs ts)(h64:vs.length<64)(hna:∀v∈vs,v≠.ref a)
  (h:∀(out:List Value) (p:Array Nat),out.Perm vs->Gd vs.length p->SPk (ltI ts) p vs.length->out=p.toList.map (λi=>vs.getD i Value.none)->R (.done (.ret .none)) { s with heap:=sortedHeap s.heap a vs out.toArray }):wpAny (model P w) A (Builtin.«list.sort» ⟨[.ref a],[]⟩) R E s:=by
 rw[list_sort_plain];have ha:a<s.heap.objs.size:=Heap.lt_size ho;refine hEe (hFh ho rfl (hEe (hEp ho rfl ?_ (by rw[hAk,hEn];omega) (hAt _))));obtain⟨e1,ho1⟩:∃e1,(s.heap.update a (Obj.mapSeq λ_=>#[])).get? a=some (seqObj "list" #[] e1):=⟨_,get?_update_seq ho (λ_=>#[])⟩;refine hEe (hF8 ho1 rfl (hEe (hFg ?_ (by show vs.length<=_;rw[hEn];omega))));refine hEe (hEx ?_ (hAt _));refine hEs ?_;have ho6:((vB 0).push (seqObj "list" #[] 0)).get? a=some (seqObj "list" #[] e1):=Heap.get?_push_of_some _ (Heap.get?_push_of_some _ ho1);have keep:∀b o,b≠a->s.heap.get? b=some o->((vB 0).push (seqObj "list" #[] 0)).get? b=some o:=λb o hb e=>by
  refine Heap.get?_push_of_some _ (Heap.get?_push_of_some _ ?_);rw[Heap.get?_update_ne _ _ _ _ hb];exact e
 show wpAny (model P w) A _ R E { s with heap:=(vB 0).push (seqObj "list" #[] 0) };dsimp only;have fin:∀(st':SortSt) (out:List Value),(arrOf st').map (·.2)=out.toArray->failedOf st'=none->out.Perm vs->(∃p,Gd vs.length p/\SPk (ltI ts) p vs.length/\out=p.toList.map (λi=>vs.getD i Value.none))->wpAny (model P w) A (do
   let touched:=(← seqEpoch a) != e1
   Builtin.List.listUpdate (.ref a) λ_=>(arrOf st').map (·.2)
   if let some e:=failedOf st' then rule "list.sort.comparison-raised";throw e
   if touched then rule "list.sort.modified";raiseError "ValueError" "list modified during sort"
   ret .none) R E { s with heap:=(vB 0).push (seqObj "list" #[] 0) }:=by
  intro st' out e hf hp ⟨p,hg,hsp,ep⟩;refine hEe (hF8 ho6 rfl ?_);refine hEe (hEp ho6 rfl ?_ (hAt _) (by rw[e,hAk,hp.length_eq,hEn];omega));rw[hf];simp only[hFe,hCq,hFf];rw[e];exact hEh (h out p hp hg hsp ep)
 by_cases h2:vs.toArray.size<2
 ·rw[hEk h2,hEk h2];refine hEe (hEh ?_);rw[StateT.run_pure];refine hEe (hEh (fin _ vs ?_ rfl (hDg _) ⟨Rng vs.length,hE6 _,λi j hij hj=>absurd hj (by rw[hAk]at h2;omega),(qDt vs).symm⟩));show(vs.toArray.zip vs.toArray).map (·.2)=vs.toArray;apply Array.toList_inj.mp;rw[Array.toList_map,Array.toList_zip];exact List.map_snd_zip (hA9 _)
 ·rw[hEj h2,hEj h2];have hl2:2<=vs.length:=by rw[hAk]at h2;omega
  refine hEe (kas_kind (T:=.type "list") hl2 (λv hv=>?_) (by decide) (by decide) ?_)
  ·obtain⟨t,_,b,its,rfl,⟨o,g,c,_⟩,st⟩:=qL6 ht v hv;have nb:b≠a:=λz=>hna _ hv (by rw[z])
   exact kitAt_ty _ _ ⟨o,keep b o nb g,c⟩
  refine hEe (hEq (kat_run (ks:=vs) (Q:=λst' s'=>s'={ s with heap:=(vB 0).push (seqObj "list" #[] 0) }/\∃out:List Value,(arrOf st').map (·.2)=out.toArray/\failedOf st'=none/\out.Perm vs/\∃p,Gd vs.length p/\SPk (ltI ts) p vs.length/\out=p.toList.map (λi=>vs.getD i Value.none)) (G:=λp s'=>s'={ s with heap:=(vB 0).push (seqObj "list" #[] 0) }/\Gd vs.length p/\SPk (ltI ts) p vs.length) rfl hl2 h64 (λp st' s' a1 a2 a3 a4=>?_) ?_) ?_ λ_ _ e=>e)
  ·obtain⟨rfl,g,sp⟩:=a4;refine⟨rfl,_,kat_snds rfl a2,a3,?_,p,g,sp,rfl⟩;have q:=(hC5.mp g).map λi=>vs.getD i Value.none
   exact q.trans (hE8 (qDt vs))
  ·refine qNg (qT1 ts) (λi j C hi hj hC=>?_) vG λp g sp=>⟨rfl,g,sp⟩
   obtain⟨x1,y1,z1,v1,w1⟩:=qIe keep ht hna hi;obtain⟨x2,y2,z2,v2,w2⟩:=qIe keep ht hna hj;show wpAny _ _ (keyLt' _ (vs.getD i Value.none) (vs.getD j Value.none)) C _ _;rw[v1,v2];exact qOb hu z1 z2 w1 w2 hC
  ·rintro⟨⟨⟩,st'⟩ s' ⟨rfl,out,q1,q2,q3,q4⟩;exact fin st' out q1 q2 q3 q4
end
section
variable{X:Cx}
theorem qKq(I:Inv X aB σ H s)(k:∀b o,s.heap.get? b=some o->h'.get? b=some o):∀ {as:List Addr} {ts:List (List Str)},Paired (λa t=>SqL X.K H a (t.map V.str)) as ts->Paired (qVw h') (as.map Value.ref) ts
 |_,_,.nil=>.nil
 |_,_,.cons h t=>by
  obtain⟨its,rv,⟨o,n,e,c,_,dt⟩,_⟩:=I.list h;exact .cons ⟨_,its.toArray,rfl,⟨o,k _ _ e,c,_,dt⟩,by simpa using qEq rv⟩ (qKq I k t)
theorem qP6(I:Inv X aB σ H s):∀ {as:List Addr} {ts:List (List Str)},Paired (λa t=>SqL X.K H a (t.map V.str)) as ts->∀b∈as,b<s.heap.objs.size
 |_,_,.nil,b,hb=>by cases hb
 |_,_,.cons h t,b,hb=>by
  rcases hAj.mp hb with z|z
  ·subst z;obtain⟨its,rv,⟨o,n,e,_⟩,_⟩:=I.list h;exact Heap.lt_size e
  ·exact qP6 I t b z
theorem qF3(hu:X.A.units+2<cLine):qCm X (.builtin "sorted") (λxs H Q=>∃(p:Addr) (as:List Addr) (ts:List (List Str)),xs=[.ref p]/\SqL X.K H p (as.map V.ref)/\Paired (λa t=>SqL X.K H a (t.map V.str)) as ts/\as.length<64/\∀(r:Addr) (o:Array Nat),H r=none->Gd as.length o->SPk (ltI ts) o as.length->Q (.ref r) (upd H r (.lst ((o.toList.map λi=>as.getD i 0).map V.ref)))):=by
 intro aB s σ H xs us Q I r h;obtain⟨p,as,ts,rfl,hq,ht,h64,q⟩:=h;obtain⟨u,rfl,rx⟩:=qCy r;cases rx;obtain⟨its,rv,pl,hz⟩:=I.list hq;have ei:=qHy rv;subst ei;refine Calls.call_function_entry kind_sorted hFp hFq (args_sorted1 _) ?_;unfold Builtin.«sorted»;refine hEe (m:=checkCount "sorted" 1 1 _) (hEh (hEe (collect_list pl.isList ?_ (by rw[hA1,hEn];omega))));refine hEe (hEx ?_ (by rw[hA1,hEn];omega));have hsz:(vC 0).objs.size=s.heap.objs.size+1:=by rw[Heap.size_update,hFk]
 have hoL:((vC 0).push (seqObj "list" (as.map Value.ref).toArray 0)).get? (s.heap.objs.size+1)=some (seqObj "list" (as.map Value.ref).toArray 0):=by
  rw[<-hsz];exact Heap.get?_push_size _ rfl
 have keep:∀b o,s.heap.get? b=some o->((vC 0).push (seqObj "list" (as.map Value.ref).toArray 0)).get? b=some o:=λb o e=>by
  have hlt:b<s.heap.objs.size:=Heap.lt_size e;rw[Heap.get?_push_ne _ _ _ (by rw[hsz];exact hAx (hC1 hlt)),Heap.get?_update_ne _ _ _ _ (hAx hlt),Heap.get?_push_ne _ _ _ (hAx hlt)];exact e
 show wpAny _ _ _ _ _ { s with heap:=(vC 0).push (seqObj "list" (as.map Value.ref).toArray 0) };rw[hsz];have tp:=qKq (h':=(vC 0).push (seqObj "list" (as.map Value.ref).toArray 0)) I keep ht;refine hEe (hEs (hEo slot_list_sort ⟨_,hoL,rfl⟩ entry_list_sort (qNd ?hu hoL tp (by rw[hA1];exact h64) (λv hv z=>?_) λout o hp hg hsp eo=>⟨_,rfl,?_⟩) (args_list_sort _)))
 case hu=>omega
 ·obtain⟨b,hb,e⟩:=hAe.mp hv;rw[<-e]at z;injection z with z
  have lt:=qP6 I ht b hb;exact absurd lt (by rw[z];exact Nat.not_lt_of_le (hBq _))
 rw[hA1]at hg hsp;rw[qLz λi hi=>qMd hg hi]at eo;subst eo;have nz:H (s.heap.objs.size+1)=none:=I.hok.fresh (hBq _);obtain⟨e,he⟩:=sortedAll_at s.heap (as.map Value.ref) ((o.toList.map λi=>as.getD i 0).map Value.ref).toArray;refine hEh ⟨_,rfl,.ref (s.heap.objs.size+1),_,I.laid (t':=s.toks) (a:=s.heap.objs.size+1) (o:=.lst ((o.toList.map λi=>as.getD i 0).map V.ref)) (h':=sortedAll s.heap (as.map Value.ref) ((o.toList.map λi=>as.getD i 0).map Value.ref).toArray) (λb o eb=>sortedAll_old eb) (hBq _) ⟨?_,(o.toList.map λi=>as.getD i 0).map Value.ref,e,qFg _,he⟩,rfl,q _ o nz hg hsp⟩;rw[hA1,hA1,qUh hg];exact hB9 (qAf vG)
end
end L2
namespace L2
open PySem PySem.Spec PyProof.Rows
end L2
namespace L2
open PySem PySem.Spec PyProof.Rows PySem.W
abbrev Srt(a:List (List Str)):Prop:=a.Pairwise λx y=>ltL y x=false
theorem qOe(ts:List (List Str)):(List.range ts.length).map (λi=>ts.getD i [])=ts:=by
 refine hDv λi=>?_
 by_cases hi:i<ts.length
 ·rw[hAl,hD3 hi,hA2 hi];show some (ts.getD i [])=_;rw[hAa,hA2 hi];rfl
 ·rw[hBu (by simp;omega),hBu vG]
theorem qGg(g:Gd ts.length o)(sp:SPk (ltI ts) o ts.length):Srt (o.toList.map λi=>ts.getD i [])/\(o.toList.map λi=>ts.getD i []).Perm ts:=by
 have sz:=g.size;refine⟨?_,?_⟩
 ·rw[Srt,List.pairwise_iff_getElem];intro i j hi hj hij;rw[hA1]at hi hj;have h:=sp i j hij (by simpa [sz] using hj);rw[List.getElem_map,List.getElem_map];have e:∀k (hk:k<o.toList.length),o.getD k 0=o.toList[k]:=λk hk=>by
   have hk':k<o.size:=by simpa using hk
   simp[Array.getD,hk']
  rw[e i hi,e j hj]at h;exact h
 ·have q:=(hC5.mp g).map λi=>ts.getD i []
  exact q.trans (hE8 (qOe ts))
theorem qOz:∀ {a b:List (List Str)},Srt a->Srt b->a.Perm b->a=b
 |[],b,_,_,p=>(List.nil_perm.mp p).symm▸rfl
 |x :: a,[],_,_,p=>by have:=p.length_eq;simp at this
 |x :: a,y :: b,ha,hb,p=>by
  obtain⟨a1,a2⟩:=hAs.mp ha;obtain⟨b1,b2⟩:=hAs.mp hb;have e:x=y:=by
   rcases hAj.mp (p.mem_iff.mp hA8) with z|z
   ·exact z
   ·rcases hAj.mp (p.mem_iff.mpr hA8) with w'|w'
    ·exact w'.symm
    ·have h1:=b1 x z;have h2:=a1 y w';rcases qIc x y with q|q|q
     ·rw[q]at h1;cases h1
     ·exact q
     ·rw[q]at h2;cases h2
  subst e;rw[qOz a2 b2 ((List.perm_cons _).mp p)]
end L2
namespace L2
open PySem PySem.Spec PyProof.Rows
theorem qGf(hN:X.N=N)(hsc:X.env.scope=sc)
  (O:CmpOk N sc N' scope sub) (hc:X.calm=true) (hi:PI X target iter wi)
  (B:∀C s H fp,PG (qCq X scope N' C s H fp) target g/\PTs (qCq X scope N' C s H fp) ifs tt/\PE (qCq X scope N' C s H fp) elt te)
  (hs:∀x,foldedSetIterable iter X.env x=pure x:=by intro _;rfl):PE X (.ListComp elt [⟨target,iter,ifs,0⟩] scope pos) (qRa sub wi g tt te) :=
 zBa hc (by rw[hN,hsc];exact O) hi B hs
theorem qW7(hN:X.N=N)(hsc:X.env.scope=sc)
  (O:CmpOk N sc N' scope sub) (hc:X.calm=true) (hi:PI X target iter wi)
  (B:∀C s H fp,PG (qCq X scope N' C s H fp) target g/\PTs (qCq X scope N' C s H fp) ifs tt/\PE (qCq X scope N' C s H fp) elt te)
  (nd:X.N.Nodup) (hy:X.N[i]?=some y) (hx:Loc X.env.scope y)
  (hsw:swapsWith (.ListComp elt [⟨target,iter,ifs,0⟩] scope pos) (some (.Name y py)) spos.line X.env=pure true:=by rfl)
  (hs:∀x,foldedSetIterable iter X.env x=pure x:=by intro _;rfl) (hf:X.fn y=true\/X.env.scope.names.lookup y=some .local:=by exact kO2) :
  PS X (.Assign [.Name y py] (.ListComp elt [⟨target,iter,ifs,0⟩] scope pos) spos) (zDj (qRa sub wi g tt te) (qOg i)) :=
 zA0 hc (by rw[hN,hsc];exact O) hi B nd hy hx hsw hs hf
theorem qA8{X:Cx}{y:Str}{py:Pos}{iter elt:Expr}{ifs:List Expr}{scope sc:Scope}{pos:Pos}{N N':List Str}{sub:List (Option Nat)}{wi:TI}{tt:TT}{te:TE}(hi:PI X (.Name y py) iter wi)
  (B:∀C s H fp,PTs (qCq X scope N' C s H fp) ifs tt/\PE (qCq X scope N' C s H fp) elt te) (hN:X.N=N:=by rfl) (hsc:X.env.scope=sc:=by rfl)
  (O:CmpOk N sc N' scope sub:=by exact CmpOk.of (by decide +kernel)) (hc:X.calm=true:=by rfl) (nd:N'.Nodup:=by decide) (h0:N'[0]?=some y:=by rfl) (hl:∀C s H fp,Loc (qCq X scope N' C s H fp).env.scope y:=by intro _ _ _ _;exact Or.inl rfl) (hg:∀C s H fp,(qCq X scope N' C s H fp).fn y=true\/(qCq X scope N' C s H fp).env.scope.names.lookup y=some .local:=by intro _ _ _ _;exact .inl rfl)
  (hs:∀x,foldedSetIterable iter X.env x=pure x:=by intro _;rfl):PE X (.ListComp elt [⟨.Name y py,iter,ifs,0⟩] scope pos) (qRa sub wi (qOg 0) tt te) :=
 qGf hN hsc O hc hi (λC s H fp=>⟨qAm (i:=0) nd h0 (hl C s H fp) (hg C s H fp),B C s H fp⟩) hs
theorem qDe{X:Cx}{z:Str}{pz:Pos}{iter elt:Expr}{ifs:List Expr}{scope sc:Scope}{pos:Pos}{N N':List Str}{sub:List (Option Nat)}{wi:TI}{tt:TT}{te:TE}{i:Nat}{y:Str}{py spos:Pos}(hi:PI X (.Name z pz) iter wi)
  (B:∀C s H fp,PTs (qCq X scope N' C s H fp) ifs tt/\PE (qCq X scope N' C s H fp) elt te)
  (nd:X.N.Nodup) (hy:X.N[i]?=some y) (hx:Loc X.env.scope y) (hN:X.N=N:=by rfl) (hsc:X.env.scope=sc:=by rfl)
  (O:CmpOk N sc N' scope sub:=by exact CmpOk.of (by decide +kernel)) (hc:X.calm=true:=by rfl) (nd':N'.Nodup:=by decide) (h0:N'[0]?=some z:=by rfl) (hl:∀C s H fp,Loc (qCq X scope N' C s H fp).env.scope z:=by intro _ _ _ _;exact Or.inl rfl) (hg:∀C s H fp,(qCq X scope N' C s H fp).fn z=true\/(qCq X scope N' C s H fp).env.scope.names.lookup z=some .local:=by intro _ _ _ _;exact .inl rfl)
  (hsw:swapsWith (.ListComp elt [⟨.Name z pz,iter,ifs,0⟩] scope pos) (some (.Name y py)) spos.line X.env=pure true:=by rfl)
  (hs:∀x,foldedSetIterable iter X.env x=pure x:=by intro _;rfl) (hf:X.fn y=true\/X.env.scope.names.lookup y=some .local:=by exact kO2) :
  PS X (.Assign [.Name y py] (.ListComp elt [⟨.Name z pz,iter,ifs,0⟩] scope pos) spos) (zDj (qRa sub wi (qOg 0) tt te) (qOg i)) :=
 qW7 hN hsc O hc hi (λC s H fp=>⟨qAm (i:=0) nd' h0 (hl C s H fp) (hg C s H fp),B C s H fp⟩) nd hy hx hsw hs hf
end L2
namespace My
open PySem L2
structure Cl(P:Program)(w:World)(K:PySem.W.Frag)(mg:Str->Option Value)(base:Heap)(CX:CXT)(k:Nat)(f:Addr)(fd:FuncData)(ps:List Str)(sp:Sp)(n:Str):Prop where
 g:FnOk P w K mg base CX k f fd ps sp
 b:qOu K fd ps []
 k:PySem.W.keepIn K (.ref f)=true
 m:mg n=some (.ref f)
theorem qAw{X:Cx}{CX:CXT}{k:Nat}{f:Addr}{fd:FuncData}{ps:List Str}{sp:Sp}{x:Str}{dvs:List V}{E:XK}{e:Expr}{es:List Expr}{t:TA}{p pos:Pos}(G:Cl X.prog X.w X.K X.mg X.base CX k f fd ps sp x)(hr:Room k X.A)(hg:Gl X x)(hd:qBx dvs [])(hx:qQ3 CX X E)
  (ha:PA X (e :: es) t) (hdb:(x == ("__debug__" : Str))=false:=by decide) (he:starEach (e :: es) X.env=(false,eval e X.env) :: starEach es X.env:=by rfl) (hpl:(backTo pos (starEach es X.env)).any (·.1)=false:=by rfl):PE X (.Call (.Name x p) (e :: es) [] pos) (zDi sp dvs E t):=qN4 G.g hr hg G.m G.k G.b hd hx ha hdb he hpl
noncomputable def top(i:Nat):Stmt:=PySem.Challenge.pw_roundsalone_k32_kinds_of_parts.main.body.getD i (.Pass ⟨0,0,0,0⟩)
abbrev qWn:Stmt:=top 1
abbrev qI6:Stmt:=top 2
abbrev zAn:Stmt:=top 3
abbrev qWm:Stmt:=top 4
abbrev qPh:Stmt:=top 7
abbrev qNo:Stmt:=top 9
abbrev qNn:Stmt:=top 10
abbrev zAm:Stmt:=top 11
abbrev zAr:Stmt:=top 13
abbrev qI5:Stmt:=top 14
abbrev qSv:Stmt:=top 15
abbrev qGc:Stmt:=top 16
abbrev qSw:Stmt:=top 17
abbrev zAq:Stmt:=top 18
abbrev qJ2:Stmt:=top 19
abbrev qNq:Stmt:=top 20
abbrev qPj:Stmt:=top 21
abbrev qHv:Stmt:=top 22
abbrev qHw:Stmt:=top 23
abbrev qEg:Stmt:=top 24
abbrev qSq:Stmt:=top 25
abbrev qWl:Stmt:=top 5
abbrev zAs:Stmt:=top 27
abbrev zF0:Stmt:=top 28
abbrev qPi:Stmt:=top 29
abbrev qWx:Stmt:=top 30
abbrev zFz:Stmt:=top 31
abbrev qWr:Stmt:=top 32
abbrev qLp:Stmt:=top 33
abbrev qSt:Stmt:=top 34
abbrev qNp:Stmt:=top 35
abbrev qWs:Stmt:=top 36
abbrev qWq:Stmt:=top 37
abbrev qWt:Stmt:=top 38
abbrev zAp:Stmt:=top 39
abbrev qWp:Stmt:=top 40
abbrev qWo:Stmt:=top 41
abbrev qG1:Stmt:=top 42
abbrev qWv:Stmt:=top 43
abbrev qRd:Stmt:=top 44
abbrev qWw:Stmt:=top 45
abbrev qLo:Stmt:=top 46
abbrev qSs:Stmt:=top 47
abbrev qRe:Stmt:=top 48
abbrev qMz:Stmt:=top 52
theorem qDo(h:n<=5000):n<sizeLine:=hDa h (by decide)
def Ext(H H':Hp):Prop:=∀b o,H b=some o->H' b=some o
theorem Ext.refl(H:Hp):Ext H H:=λ_ _ h=>h
theorem Ext.trans(a:Ext H H1)(b:Ext H1 H2):Ext H H2:=λc o h=>b c o (a c o h)
theorem Ext.new(h:H p=none)(o:HO):Ext H (upd H p o):=λb u q=>by rw[qAk (qAo q h)];exact q
theorem Ext.none(e:Ext H H')(h:H' p=none):H p=none:=by
 cases q:H p with
 |none=>rfl
 |some o=>rw[e p o q]at h;cases h
theorem Ext.sqL(e:Ext H H')(h:SqL K H a xs):SqL K H' a xs:=by
 rcases h with (h|⟨o,h⟩)|h
 ·exact .inl (.inl (e _ _ h))
 ·exact .inl (.inr ⟨o,e _ _ h⟩)
 ·exact .inr h
def qYz(K:PySem.W.Frag):Sp:=λvs H Q _=>∃(a:Addr) (ns:List Int) (k:Int),vs=[.ref a,.int k]/\SqL K H a (ns.map V.int)/\0<=k/\∀v,Q (.int v) H
section
variable{P:Program}{w:World}{K:PySem.W.Frag}{mg:Str->Option Value}{base:Heap}{f f1:Addr}{fd fd1:FuncData}
theorem zDx:FnScope ["_law_script","_law_k"] ["_law_script","_law_k"] (qAc zAs):=fsk
theorem zB3(F:Fun K "_law_cell_at" "_law_cell_at" zAs f fd)(ml:mg "len"=none):v8 1 f fd ["_law_script","_law_k"] (qYz K):=by
 refine F.okA zDx λcdv A outer s H vs Q E hr h=>?_
 obtain⟨a,ns,k,rfl,hS,h0,q⟩:=h;refine⟨_,qAa (qBo (qAn qFs (pv 1) (qAj qAl rfl ml hAy (pa1 (pv 0))) (qAu _)) (qAe (qAt (qBe qB0 (pv 0) (pv 1) (λ_ _=>rfl)))) qA1) (qAe (qAt qAb)),?_⟩;refine⟨_,rfl,_,rfl,a,_,rfl,.inl hS,_,_,rfl,rfl,_,rfl,?_⟩;refine qBw (λc=>?_) (λc=>q 0);have c':k<(((ns.map V.int).length:Nat):Int):=hEi c;rw[hA1]at c';have hk:k.toNat<ns.length:=by omega
 have hv:atI (ns.map V.int) ((k.toNat:Nat):Int)=some (.int ns[k.toNat]):=qA0 (by rw[hAl,hA2 hk] <;> rfl);rw[hCt h0]at hv;exact⟨_,rfl,_,rfl,a,_,_,_,rfl,rfl,hS,hv,q _⟩
end
theorem qC8:bootBuiltins "isinstance"=some (.builtin "isinstance"):=by decide +kernel
theorem qFy(K:PySem.W.Frag)(t:Value):PySem.W.kitOne K t t=some true:=by unfold PySem.W.kitOne;rw[hEk (hF3 t)]
theorem qMt:bootBuiltins "abs"=some (.builtin "abs"):=by decide +kernel
theorem qOm:bootBuiltins "range"=some (.type "range"):=by decide +kernel
section
variable{σ0:St}{g:TG}{tt:TT}{te:TE}{Q:List V->Hp->Prop}{H1:Hp}
theorem qQ6(f:V->Option V)(hS:SqL K H1 a xs)(hz:xs.length<=sizeLine)
  (hs:∀x∈xs,∀C:Option V->Hp->Prop,C (f x) H1->g x σ0 H1 λσ2 H2=>Sle σ0 σ2/\tt σ2 H2 λb H3=>if b=true then te σ2 H3 (λv H4=>C (some v) H4) else C none H3)
  (hd:Q (xs.filterMap f) H1):qEp (Itl K a) σ0 g tt te Q H1:=by
 refine qAq (xs:=xs) (λi ys H=>H=H1/\ys=(xs.take i).filterMap f) ⟨rfl,by simp⟩ (λi ys H _ h=>by rw[h.1];exact hS) ?_ ?_
 ·rintro i x ys H hx ⟨rfl,rfl⟩;have hi:i<xs.length:=(hAp.mp hx).1;have hm:x∈xs:=hAc hx;have tk:(xs.take (i+1)).filterMap f=(xs.take i).filterMap f++(f x).toList:=by
   rw[List.take_add_one,hx,hD6];cases e:f x <;> simp[e]
  have hl:((xs.take i).filterMap f).length<sizeLine:=by
   have h1:=hCf f (xs.take i);rw[hAm]at h1;omega
  refine hs x hm (λo H4=>match o with|some v=>((xs.take i).filterMap f).length<sizeLine/\Nxt xs.length i _ ((xs.take i).filterMap f++[v]) H4|none=>Nxt xs.length i _ ((xs.take i).filterMap f) H4) ?_;cases e:f x with
  |none=>exact nxt hi ⟨rfl,by rw[tk,e];simp⟩
  |some v=>exact⟨hl,nxt hi ⟨rfl,by rw[tk,e];simp⟩⟩
 ·rintro ys H ⟨rfl,rfl⟩;rw[hA5 (hA9 _)];exact hd
end
theorem qIi(n:Str):∀other:List Str,inV (.str n) (other.map V.str)=decide (n∈other)
 |[]=>by simp[inV]
 |x :: r=>by
  have ih:=qIi n r;unfold inV at ih ⊢;rw[hBm,hEb,ih];show(x == n || decide (n∈r))=_;by_cases e:n=x
  ·subst e;simp
  ·have e':¬x=n:=λz=>e z.symm
   simp[e,e']
theorem qF0:∀other:List Str,(other.map V.str).all qIm=true:=λother=>by
 rw[hE0];intro x hx;obtain⟨y,_,rfl⟩:=hAe.mp hx;rfl
def LsS(H:Hp)(a:Addr)(ss:List Str):Prop:=H a=some (.lst (ss.map V.str))
abbrev sg:Str:="abcdefghijklmnopqrstuvwxyz0123456789"
def sgC(n:Nat):Nat:=sg.cps.toList.getD n 0
theorem qPc:sg.cps.toList.length=36:=by decide +kernel
theorem zFx:sg.cps.toList.Nodup:=by decide +kernel
theorem qWg:∀c∈sg.cps.toList,c<128:=by decide +kernel
theorem zDq(h0:0<=i)(h1:i<36):atI sg.cps.toList i=some (sgC i.toNat):=by
 have hk:i.toNat<sg.cps.toList.length:=by rw[qPc];omega
 have:=qA0 (xs:=sg.cps.toList) (j:=i.toNat) (v:=sgC i.toNat) (by
  unfold sgC;rw[hAa,hA2 hk];rfl)
 rw[hCt h0]at this;exact this
theorem zAi(hi:i<36)(hj:j<36)(e:sgC i=sgC j):i=j:=by
 have hi':i<sg.cps.toList.length:=by rw[qPc];exact hi
 have hj':j<sg.cps.toList.length:=by rw[qPc];exact hj
 unfold sgC at e;rw[hAa,hAa,hA2 hi',hA2 hj']at e;exact(List.getElem_inj zFx).mp e
def Sm(x:Str):Prop:=∀c∈x.cps.toList,c<128
theorem Sm.ok(h:Sm x):PyData.strOk x=true:=by
 unfold PyData.strOk;rw[Array.all_eq_true_iff_forall_mem];intro c hc;have:=h c (by simpa using hc);exact hEf vG
def qG2(r:List Str):PyData:=.list (r.map .str)
noncomputable def qNt(F:List (List Str)):PyData:=.list (F.map qG2)
theorem qQj:∀a b:List Str,PyData.eqvAll (a.map .str) (b.map .str)=decide (a=b)
 |[],[]=>rfl
 |[],_ :: _=>rfl
 |_ :: _,[]=>rfl
 |x :: a,y :: b=>by
  show(x == y && PyData.eqvAll (a.map .str) (b.map .str))=_;rw[qQj a b];by_cases e:x=y
  ·subst e;simp
  ·simp[e]
theorem qKy(a b:List Str):PyData.eqv (qG2 a) (qG2 b)=decide (a=b):=qQj a b
def SOk(r:List Str):Prop:=∀x∈r,PyData.strOk x=true
theorem qHe:∀ {r:List Str},SOk r->PyData.canLayAll0 (r.map .str)=true/\PyData.depthAll (r.map .str)=0
 |[],_=>⟨rfl,rfl⟩
 |x :: r,h=>by
  obtain⟨h1,h2⟩:=qHe (r:=r) λy hy=>h y (hA6 _ hy)
  refine⟨?_,?_⟩
  ·show(PyData.strOk x && PyData.canLayAll0 (r.map .str))=true;rw[h1,h x hA8];rfl
  ·show max 0 (PyData.depthAll (r.map .str))=0;rw[h2];rfl
theorem qI3(h:SOk r):SeqAt.shaped (qG2 r)=true:=by
 obtain⟨h3,h4⟩:=qHe h;show(PyData.canLayAll0 (r.map .str) && decide (PyData.depthAll (r.map .str)+1<=64))=true;rw[h3,h4];rfl
theorem qUv:∀r:List Str,DRs K H (r.map V.str) (r.map .str)
 |[]=>.nil
 |x :: r=>.cons (.str x) (qUv r)
theorem qMj(h:LsS H a r):DR K H (.ref a) (qG2 r):=.lst (SqL.of h) (qUv r)
theorem qPk(hr:Room k A):A.units+64<cLine:=by have:=hr.un;omega
theorem qCf:bootBuiltins "list"=some (.type "list"):=by decide +kernel
theorem qMs:bootBuiltins "str"=some (.type "str"):=by decide +kernel
theorem qBs:bootBuiltins "sorted"=some (.builtin "sorted"):=by decide +kernel
theorem qF8:bootBuiltins "all"=some (.builtin "all"):=by decide +kernel
theorem qVk:bootBuiltins "set"=some (.type "set"):=by decide +kernel
theorem qFe:bootBuiltins "tuple"=some (.type "tuple"):=by decide +kernel
end My
namespace L2
open PySem PySem.Spec PyProof.Rows
def zHd(Pm:St->Hp->Prop)(t:TS):TS:=λD σ H=>t { D with nx:=Pm } σ H/\∀σ' H',Pm σ' H'->D.nx σ' H'
theorem qJa{X:Cx}{st:Stmt}{t:TS}(Pm:St->Hp->Prop)(h:PS X st t):PS X st (zHd Pm t):=by
 intro aB s σ H D I hw;refine thn (h aB s σ H { D with nx:=Pm } I hw.1) λfl s' q=>?_
 cases fl with
 |next=>obtain⟨σ',H',I',q⟩:=q;exact⟨σ',H',I',hw.2 σ' H' q⟩
 |brk=>exact q
 |cont=>exact q
 |ret u=>exact q
end L2
namespace My
open PySem L2
theorem qG9{α:Type}{P:List α->Prop}(h0:P [])(hs:∀l t,P l->P (l++[t]))(l:List α):P l:=by
 have:∀r:List α,P r.reverse:=λr=>by
  induction r with
  |nil=>exact h0
  |cons a r ih=>rw[List.reverse_cons];exact hs _ _ ih
 have q:=this l.reverse
 rwa [List.reverse_reverse]at q
abbrev Tr:=Str×Str×Str
abbrev lab(f:Str->Str)(t:Tr):Str->Str:=λp=>if f p=f t.2.2 then f t.2.1 else f p
noncomputable def qCx(net:List Tr):Str->Str:=net.foldl lab id
theorem qFz(net:List Tr)(t:Tr):qCx (net++[t])=lab (qCx net) t:=by unfold qCx;rw[hBt];rfl
def qZp(net:List Tr)(x:Str):Prop:=∃t∈net,x=t.2.1\/x=t.2.2
theorem qXw(net:List Tr):∀t∈net,qCx net t.2.1=qCx net t.2.2:=by
 refine qG9 (P:=λnet=>∀t∈net,qCx net t.2.1=qCx net t.2.2) (λt h=>by cases h) (λl t ih=>?_) net;intro u hu;rw[qFz];show(if qCx l u.2.1=qCx l t.2.2 then qCx l t.2.1 else qCx l u.2.1)=if qCx l u.2.2=qCx l t.2.2 then qCx l t.2.1 else qCx l u.2.2
 rcases hAb.mp hu with z|z
 ·rw[ih u z]
 ·rw[hA3]at z;subst z;rw[hEk rfl];split <;> rfl
noncomputable def qV3(kept:List Tr)(t:Tr):List Tr:=if qCx kept t.2.1=qCx kept t.2.2 then kept else kept++[t]
def qHk(net:List Tr):List Tr:=net.foldl qV3 []
theorem qIx(net:List Tr)(t:Tr):qHk (net++[t])=qV3 (qHk net) t:=by unfold qHk;rw[hBt];rfl
theorem qXs(h:f t.2.1=f t.2.2):lab f t=f:=by
 funext p
 show(if f p=f t.2.2 then f t.2.1 else f p)=f p;split
 ·rename_i e;rw[e,h]
 ·rfl
theorem qUd(net:List Tr):qCx (qHk net)=qCx net:=by
 refine qG9 (P:=λnet=>qCx (qHk net)=qCx net) rfl (λl t ih=>?_) net;rw[qIx,qFz];unfold qV3;rw[ih];split
 ·rename_i e;rw[ih,qXs e]
 ·rw[qFz,ih]
abbrev qEc(l:List Str):Prop:=l.Pairwise λa b=>qSr a b=true
theorem qJ7:∀ {a b:List Str},qEc a->qEc b->(∀x,x∈a↔x∈b)->a=b
 |[],[],_,_,_=>rfl
 |[],y :: b,_,_,h=>by have:=(h y).mpr hA8;cases this
 |x :: a,[],_,_,h=>by have:=(h x).mp hA8;cases this
 |x :: a,y :: b,ha,hb,h=>by
  obtain⟨a1,a2⟩:=hAs.mp ha;obtain⟨b1,b2⟩:=hAs.mp hb;have e:x=y:=by
   rcases hAj.mp ((h x).mp hA8) with z|z
   ·exact z
   ·rcases hAj.mp ((h y).mpr hA8) with w|w
    ·exact w.symm
    ·have q:=qEs (b1 x z) (a1 y w);rw[qD0]at q;cases q
  subst e;refine congrArg _ (qJ7 a2 b2 λz=>⟨λhz=>?_,λhz=>?_⟩)
  ·rcases hAj.mp ((h z).mp (hA6 _ hz)) with w|w
   ·have:=a1 z hz;rw[w,qD0]at this;cases this
   ·exact w
  ·rcases hAj.mp ((h z).mpr (hA6 _ hz)) with w|w
   ·have:=b1 z hz;rw[w,qD0]at this;cases this
   ·exact w
noncomputable abbrev trV(t:Tr):List V:=[.str t.1,.str t.2.1,.str t.2.2]
def qFf(H:Hp)(p:Addr)(net:List Tr):Prop:=∃as:List Addr,H p=some (.lst (as.map V.ref))/\Paired (λa t=>H a=some (.tup (trV t))) as net
theorem qFf.ext(h:qFf H p net)(e:Ext H H'):qFf H' p net:=by
 obtain⟨as,h1,h2⟩:=h;exact⟨as,e _ _ h1,Paired.mapP h2 λa t z=>e _ _ z⟩
theorem qAr:∀ {as:List α} {bs:List β} {i:Nat} {a:α},Paired R as bs->as[i]?=some a->∃b,bs[i]?=some b/\R a b
 |_,_,_,_,.nil,e=>by simp at e
 |_,_,0,_,.cons h _,e=>by simp at e;subst e;exact⟨_,rfl,h⟩
 |_,_,i+1,_,.cons _ t,e=>by
  obtain⟨b,h1,h2⟩:=qAr (i:=i) t (by simpa using e);exact⟨b,by simpa using h1,h2⟩
theorem zB7{H:Hp}{as:List Addr}{net:List Tr}{i:Nat}{x:V}(h:Paired (λa t=>H a=some (.tup (trV t))) as net)(e:(as.map V.ref)[i]?=some x):∃a t,x = .ref a/\net[i]?=some t/\H a=some (.tup (trV t)):=by
 rw[hAl]at e;cases ha:as[i]? with
 |none=>rw[ha]at e;cases e
 |some a =>
  rw[ha]at e;obtain⟨t,h1,h2⟩:=qAr h ha;exact⟨a,t,(hAq e).symm,h1,h2⟩
theorem qAh{α:Type}{l:List α}{i:Nat}{t:α}(h:l[i]?=some t):l.take (i+1)=l.take i++[t]:=by rw[List.take_add_one,h];rfl
theorem qAx{α:Type}{l:List α}{i:Nat}{t:α}(h:l[i]?=some t):i<l.length:=(hAp.mp h).1
theorem qS5:∀(l:List Str) (p:Str),PyProof.Rows.risingS p l=true->(p :: l).Nodup->qEc (p :: l)
 |[],p,_,_=>hBz _ _
 |x :: r,p,h,nd=>by
  have h':(!PySem.Spec.ltCps x.cps.toList p.cps.toList && PyProof.Rows.risingS x r)=true:=h;rw[hCm]at h';have nd':=hBb.mp nd;have ih:=qS5 r x h'.2 nd'.2;have px:qSr p x=true:=by
   have z:=h'.1;rw[PyProof.Rows.ltCps_eq]at z;rcases qJ3 p x with t|t|t
   ·exact t
   ·exact absurd t (λe=>nd'.1 (by rw[e];exact hA8))
   ·rw[hEf (hEi t)]at z;cases z
  refine hAs.mpr ⟨λy hy=>?_,ih⟩;rcases hAj.mp hy with e|hy
  ·rw[e];exact px
  ·exact qEs px ((hAs.mp ih).1 y hy)
theorem qS4(h:PyProof.Rows.sortedS l=true)(nd:l.Nodup):qEc l:=by
 cases l with
 |nil=>exact List.Pairwise.nil
 |cons x r=>exact qS5 r x h nd
def qIv(net:List Tr)(ps:List Str):Prop:=ps.Nodup/\∀x,x∈ps↔qZp net x
theorem Ext.over(e:Ext H H')(h:H d=Option.none)(o:HO):Ext H (upd H' d o):=λb u q=>by rw[qAk (qAo q h)];exact e b u q
noncomputable def hD(ps:List Str)(f:Str->Str):List (Key×V):=ps.map λp=>(Sum.inr p,V.str (f p))
theorem zF2(hr:Room k A):A.units+2<cLine:=by have:=hr.un;omega
def qDx(H:Hp)(p:Addr)(F:List (List Str)):Prop:=∃as:List Addr,H p=some (.lst (as.map V.ref))/\Paired (LsS H) as F
theorem qDx.ext(h:qDx H p F)(e:Ext H H'):qDx H' p F:=by
 obtain⟨as,h1,h2⟩:=h;exact⟨as,e _ _ h1,Paired.mapP h2 λa r z=>e _ _ z⟩
def zC7(H0 H:Hp)(fo:Addr)(F:List (List Str)):Prop:=∃as:List Addr,H fo=some (.lst (as.map V.ref))/\Paired (λa r=>LsS H a r/\H0 a=none/\a≠fo) as F
theorem zC7.rows(h:zC7 H0 H p F):qDx H p F:=by
 obtain⟨as,h1,h2⟩:=h;exact⟨as,h1,Paired.mapP h2 λa r z=>z.1⟩
theorem qOf(as:List Addr):(List.range as.length).map (λi=>as.getD i 0)=as:=by
 refine hDv λi=>?_
 by_cases hi:i<as.length
 ·rw[hAl,hD3 hi,hA2 hi];show some (as.getD i 0)=_;rw[hAa,hA2 hi];rfl
 ·rw[hBu (by simp;omega),hBu vG]
theorem pick_perm(g:Gd as.length o):(o.toList.map λi=>as.getD i 0).Perm as :=
 ((hC5.mp g).map λi=>as.getD i 0).trans (hE8 (qOf as))
theorem qLx:∀ {as:List Addr} {ts:List (List Str)} {i:Nat},Paired R as ts->i<as.length->R (as.getD i 0) (ts.getD i [])
 |_,_,i,.nil,hi=>absurd hi (hCe _)
 |_,_,0,.cons h _,_=>h
 |_,_,i+1,.cons _ t,hi=>by simpa using qLx (i:=i) t (by simpa using hi)
theorem qFd{R:Addr->List Str->Prop}{as:List Addr}{ts:List (List Str)}(pr:Paired R as ts):∀ {l:List Nat},(∀i∈l,i<as.length)->Paired R (l.map λi=>as.getD i 0) (l.map λi=>ts.getD i [])
 |[],_=>.nil
 |i :: l,h=>.cons (qLx pr (h i hA8)) (qFd pr λj hj=>h j (hA6 _ hj))
def Sgd(s:Str):Prop:=∀c∈s.cps.toList,c∈sg.cps.toList
theorem zAh(hi:i<36):sgC i∈sg.cps.toList:=by
 have hi':i<sg.cps.toList.length:=by rw[qPc];exact hi
 unfold sgC;rw[hAa,hA2 hi'];exact hBn hi'
theorem Sgd.sm(h:Sgd s):Sm s:=λc hc=>qWg c (h c hc)
theorem Sgd.app(h:Sgd x)(h':Sgd y):Sgd (x++y):=λc hc=>by
 rw[Str.cps_append,Array.toList_append,hAb]at hc;exact hc.elim (h c) (h' c)
theorem Sgd.one(hi:i<36):Sgd ⟨#[sgC i]⟩:=λd hd=>by
 have:d=sgC i:=by simpa using hd
 rw[this];exact zAh hi
theorem Sgd.nil:Sgd "":=λc hc=>by
 have:c∈([]:List Nat):=hc;cases this
theorem Sgd.slice(h:Sgd x)(l u:Option Int):Sgd (Txt.slice x l u):=λc hc=>by
 unfold Txt.slice at hc;split at hc
 ·exact h c hc
 ·simp only[hD8]at hc;obtain⟨i,_,hi⟩:=hc;exact h c (by simpa using Array.mem_of_getElem? hi)
def zGt(s:Str):Prop:=Sgd s/\1<=s.length/\s.length<=6
theorem qNe(h0:0<=j)(h1:j<=x.length):(Txt.slice x none (some j)).length<=j.toNat:=by
 have e:Txt.slice x none (some j)=_:=PySem.StrLaws.sliceText_to (x:=x) (j:=j) ⟨h0,h1⟩;rw[e];show(List.toArray _).size<=_;rw[hAk,hAm];omega
theorem qJw(h0:0<=j)(h1:j<=x.length):(Txt.slice x (some j) none).length<=x.length-j.toNat:=by
 have e:Txt.slice x (some j) none=_:=PySem.StrLaws.sliceText_from (x:=x) (i:=j) ⟨h0,h1⟩;rw[e];show(List.toArray _).size<=_;rw[hAk,hAm,List.length_drop];have:x.cps.toList.length=x.length:=rfl;omega
def qRb(K:PySem.W.Frag):Sp:=λvs H Q _=>∃(a:Addr) (ns:List Int) (k:Int),vs=[.ref a,.int k]/\SqL K H a (ns.map V.int)/\0<=k/\k<=100/\∀v,Q (.int v) H
def Tx(ss:List Str):Prop:=∀s∈ss,zGt s
def qJu:Sp:=λvs H Q _=>∃(b n:Int),vs=[.int b,.int n]/\0<=n/\n<=100/\∀(r:Addr) (ss:List Str) (H':Hp),Ext H H'->H r=none->LsS H' r ss->ss.length=n.toNat->Tx ss->(n<=36->ss.Nodup)->Q (.ref r) H'
noncomputable def nmF(pre post:Str)(f:Int)(k:Nat):Str:=pre++⟨#[sgC ((f+7*(0+(k:Int))) % 36).toNat]⟩++post
theorem zB6(hi:i<36)(hj:j<36)(e:nmF pre post f i=nmF pre post f j):i=j:=by
 have e1:=congrArg (λs:Str=>s.cps.toList) e;unfold nmF at e1;simp only[Str.cps_append,Array.toList_append]at e1;have e2:=List.append_cancel_left (List.append_cancel_right e1);have a0:=hBj (f+7*(0+(i:Int))) (show(36:Int)≠0 by decide);have a1:=hBc (f+7*(0+(i:Int))) (show(0:Int)<36 by decide);have b0:=hBj (f+7*(0+(j:Int))) (show(36:Int)≠0 by decide);have b1:=hBc (f+7*(0+(j:Int))) (show(0:Int)<36 by decide);have e3:sgC ((f+7*(0+(i:Int))) % 36).toNat=sgC ((f+7*(0+(j:Int))) % 36).toNat:=by simpa using e2
 have e4:=zAi vG vG e3;have q1:=Int.emod_add_mul_ediv (f+7*(0+(i:Int))) 36;have q2:=Int.emod_add_mul_ediv (f+7*(0+(j:Int))) 36;rw[<-hCt a0,e4,hCt b0]at q1;clear e1 e2 e3 e4 a0 a1 b0 b1;omega
theorem qPy:∀ {n:Nat},(∀i j,i<n->j<n->g i=g j->i=j)->((List.range n).map g).Nodup
 |0,_=>List.nodup_nil
 |n+1,h=>by
  rw[hCk,hA4,hDu];refine⟨qPy λi j hi hj=>h i j vG vG,by simp,λa ha b hb=>?_⟩;obtain⟨i,hi,rfl⟩:=hAe.mp ha;rw[hDb,hA3]at hb;subst hb;rw[hAv]at hi;intro z;have:=h i n vG vG z;omega
section
variable{P:Program}{w:World}{K:PySem.W.Frag}{mg:Str->Option Value}{base:Heap}{f f1 f2:Addr}{fd fd1 fd2:FuncData}
noncomputable abbrev bgN:List Str:=["_law_script","_law_k","_law_x","_law_total","_law_j"]
theorem qNm:FnScope bgN ["_law_script","_law_k"] (qAc zF0):=fsk
theorem zEh(F:Fun K "_law_big" "_law_big" zF0 f fd)(G:v9 1 f1 fd1 ["_law_script","_law_k"] (qYz K) "_law_cell_at")(mr:mg "range"=none)(ma:mg "abs"=none) :
  v8 2 f fd ["_law_script","_law_k"] (qRb K):=by
 refine F.okA qNm λcdv A outer s H vs Q E hr h=>?_
 obtain⟨a,ns,k,rfl,hS,h0,h1,q⟩:=h;refine⟨_,qAa (qBo (qAn zGa (qAj qQw rfl ma qMt (pa1 (qAw G hr rfl .nil qAv (qAd (pv 0) (pa1 (pv 1)))))) (qAg qZf qAb qAb) (qAu _))
   (qAe (qAt (qAg qCw (qAj qQw rfl ma qMt (pa1 (qAw G hr rfl .nil qAv (qAd (pv 0) (pa1 (pv 1)))))) (qAg qZf qAb qAb)))) qA1)
  (qAa (v4 2 qNm (qAg qA9 (qAg qA9 (qAg qA9 (qAg qBb (qAw G hr rfl .nil qAv (qAd (pv 0) (pa1 qAb))) qAb) (qAg qE4 qAb (pv 1))) (qAg qE4 qAb (qAw G hr rfl .nil qAv (qAd (pv 0) (pa1 (pv 1)))))) qAb))
  (qAa (v4 2 qNm (qAg qA9 (qAg qBb (pv 2) qAb) qAb))
  (qAa (v4 3 qNm qAb)
  (qAa (qBa PassesOwn.never rfl (qBd rfl mr (pa1 qAb)) (v5 4 qNm)
   (qAa (v4 2 qNm (qAg qBb (qAg qA9 (qAg qA9 (qAg qA9 (qAg qE4 (pv 2) qAb) (qAg qA5 (pv 2) qAb)) (qAg qE4 (qAg qE4 qAb (pv 4)) (pv 4))) (pv 1)) qAb))
   (qAe (v4 3 qNm (qAg qA9 (qAg qE4 (pv 3) qAb) (qAg qBb (qAg qE4 (pv 2) qAb) qAb))))))
  (qAe (qAt (pv 3))))))),?_⟩
 refine⟨_,rfl,_,rfl,a,ns,k,rfl,hS,h0,λv=>⟨v,rfl,?_⟩⟩;refine⟨_,_,rfl,rfl,⟨by decide,by decide,by decide⟩,_,_,rfl,rfl,_,rfl,?_⟩;refine qBw (λc=>?_) (λc=>?_)
 ·refine⟨_,rfl,_,rfl,a,ns,k,rfl,hS,h0,λv=>⟨v,rfl,?_⟩⟩;exact⟨_,_,rfl,rfl,⟨by decide,by decide,by decide⟩,_,_,rfl,rfl,q _⟩
 refine⟨_,rfl,a,ns,0,rfl,hS,by decide,λv1=>?_⟩;refine⟨_,_,rfl,rfl,(by show(0:Int)<_;decide),_,rfl,_,_,rfl,rfl,.inl ⟨by decide,by decide⟩,_,_,rfl,rfl,?_⟩;refine⟨_,rfl,_,rfl,a,ns,k,rfl,hS,h0,λv2=>?_⟩;refine⟨_,_,rfl,rfl,.inl ⟨by decide,by decide⟩,_,_,rfl,rfl,_,_,rfl,rfl,?_⟩;refine⟨_,rfl,_,_,rfl,rfl,(by show(0:Int)<_;decide),_,_,rfl,rfl,?_⟩;refine⟨8,rfl,by decide,by decide,qB3 (lo:=0) (n:=8) (λi σ H'=>H'=H/\∃(x t:Int) (z:Option V),σ=[some (.ref a),some (.int k),some (.int x),some (.int t),z]) ⟨rfl,_,0,none,rfl⟩ ?_ ?_⟩
 ·rintro i σ H' hi ⟨rfl,x,t,z,rfl⟩;refine⟨_,rfl,_,_,rfl,rfl,.inr ⟨by decide,by decide⟩,_,rfl,_,_,rfl,rfl,⟨by decide,by decide⟩,_,_,rfl,rfl,?_⟩;refine⟨_,rfl,_,_,rfl,rfl,.inl ⟨by decide,by decide⟩,_,rfl,_,_,rfl,rfl,.inr ⟨by omega,by omega⟩,_,_,rfl,rfl,?_⟩;refine⟨_,rfl,_,_,rfl,rfl,_,_,rfl,rfl,(by show(0:Int)<_;decide),?_⟩;refine⟨_,rfl,_,_,rfl,rfl,.inr ⟨by decide,by decide⟩,_,rfl,_,_,rfl,rfl,.inr ⟨by decide,by decide⟩,_,_,rfl,rfl,(by show(0:Int)<_;decide),_,_,rfl,rfl,?_⟩;exact⟨rfl,_,_,_,rfl⟩
 ·rintro σ H' ⟨rfl,x,t,z,rfl⟩;exact⟨_,rfl,q _⟩
noncomputable abbrev naN:List Str:=["_law_big_here","_law_many","_law_signs","_law_word","_law_k","_law_spot","_law_first","_law_head","_law_tail"]
theorem qDi:FnScope naN ["_law_big_here","_law_many"] (qAc qPi):=fsk
theorem qXd(F:Fun K "_law_names" "_law_names" qPi f fd)(mr:mg "range"=none)(ml:mg "len"=none):v8 1 f fd ["_law_big_here","_law_many"] qJu:=by
 refine F.okA qDi λcdv A outer s H vs Q E hr h=>?_
 obtain⟨b,n,rfl,n0,n1,q⟩:=h;refine⟨_,qAa (v6 2 qDi qCv)
  (qAa (v4 3 qDi qCv)
  (qAa (qBa PassesOwn.never rfl (qBd rfl mr (pa1 (qAg qA9 qAb (qAg qBb (pv 0) qAb)))) (v5 4 qDi)
   (qAa (v4 3 qDi (qAg qEx (pv 3) (qBe qZn (pv 2) (qAg qBb (qAg qA5 (pv 0) qAb) qAb) (λ_ _=>rfl))))
   (qAe (v4 0 qDi (qAg qA5 (pv 0) qAb)))))
  (qAa (v4 5 qDi (qAg qBb (qAg qA5 (pv 0) qAb) (qAj qMq rfl ml hAy (pa1 (pv 3)))))
  (qAa (v6 6 qDi (qAg qBb (qAg qA5 (pv 0) qAb) qAb))
  (qAa (qGw (qA6 (qAd (qFp qY0 (pv 3) qH2 (qH1 (pv 5))) (pa1 (qFp qY0 (pv 3) (qH1 (qAg qA9 (pv 5) qAb)) qH2)))) (qB5 rfl (qAs (v7 7 qDi) (qAs (v7 8 qDi) qBl))))
  (qAe (qAt (qA8 (N:=naN) (sc:=qAc qPi) (N':=["_law_k","_law_head","_law_signs","_law_first","_law_tail"]) (sub:=[none,some 7,some 2,some 6,some 8]) (qBd rfl mr (pa1 (pv 1))) (λC s H fp=>⟨qAz,
    qAg qEx (qAg qEx (pv 1) (qBe qZn (pv 2) (qAg qBb (qAg qA9 (pv 3) (qAg qE4 qAb (pv 0))) qAb) (λ_ _=>rfl))) (pv 4)⟩))))))))),?_⟩
 have b6:=hBj b (show(6:Int)≠0 by decide);have b6':=hBc b (show(0:Int)<6 by decide);refine⟨_,rfl,_,_,rfl,rfl,(by show(0:Int)<_;decide),_,_,rfl,rfl,1+b % 6,rfl,by omega,by omega,?_⟩;refine qB3 (lo:=0) (n:=(1+b % 6).toNat) (λi σ H'=>H'=H/\∃(b':Int) (word:Str) (x:Option V),σ=[some (.int b'),some (.int n),some (.str sg),some (.str word),x,none,none,none,none]/\word.length=i/\Sgd word) ⟨rfl,b,"",none,rfl,rfl,Sgd.nil⟩ ?_ ?_
 ·rintro i σ H' hi ⟨rfl,b',word,x,rfl,hw,sm⟩;have c1:=hBj (b' / 6) (show(36:Int)≠0 by decide);have c2:=hBc (b' / 6) (show(0:Int)<36 by decide);refine⟨_,rfl,_,rfl,_,rfl,_,_,rfl,rfl,⟨by decide,by decide⟩,_,_,rfl,rfl,(by show(0:Int)<_;decide),sg,_,sgC (b' / 6 % 36).toNat,rfl,rfl,by decide +kernel,zDq c1 c2,word,⟨#[sgC (b' / 6 % 36).toNat]⟩,rfl,rfl,?_,?_⟩
  ·show word.length+1<=sizeLine;exact hB9 (qAf vG)
  ·refine⟨_,rfl,_,_,rfl,rfl,⟨by decide,by decide⟩,?_⟩;refine⟨rfl,_,_,_,rfl,?_,sm.app (Sgd.one vG)⟩;rw[Str.length_append];show word.length+1=i+1;omega
 ·rintro σ H' ⟨rfl,b',word,x,rfl,hw,sm⟩;have wl:word.length<=sizeLine:=hB9 (qAf vG);have fa:=hBj (b' / 216) (show(36:Int)≠0 by decide);have fb:=hBc (b' / 216) (show(0:Int)<36 by decide);refine⟨_,rfl,_,_,rfl,rfl,⟨by decide,by decide⟩,_,rfl,word,rfl,wl,_,_,rfl,rfl,(by show(0:Int)<_;omega),?_⟩;refine⟨_,rfl,_,_,rfl,rfl,⟨by decide,by decide⟩,_,_,rfl,rfl,(by show(0:Int)<_;decide),?_⟩;obtain⟨spot,hsp⟩:∃spot,b' / 6 % ((word.length:Nat):Int)=spot:=⟨_,rfl⟩;refine⟨_,rfl,_,rfl,_,rfl,word,rfl,wl,_,rfl,_,rfl,_,_,rfl,rfl,_,rfl,word,rfl,wl,(by show 2<=sizeLine;decide),λT hT=>⟨T,_,rfl,SqT.of upd_same,rfl,_,_,rfl,_,_,rfl,rfl,?_⟩⟩;have l1:=Txt.slice_le word none (some spot);have l2:=Txt.slice_le word (some (spot+1)) none;have s1:=sm.slice none (some spot);have s2:=sm.slice (some (spot+1)) none;have X1:=Ext.new hT (.tup [V.str (Txt.slice word none (some spot)),V.str (Txt.slice word (some (spot+1)) none)]);refine⟨_,rfl,n,rfl,by omega,by omega,?_⟩;refine qDy (lo:=0) (n:=n.toNat) (λi ys H2=>H2=upd H' T (.tup [V.str (Txt.slice word none (some spot)),V.str (Txt.slice word (some (spot+1)) none)])/\∃ss:List Str,ys=ss.map V.str/\ss.length=i/\Tx ss/\ss=(List.range i).map (nmF (Txt.slice word none (some spot)) (Txt.slice word (some (spot+1)) none) (b' / 216 % 36))) ⟨by rw[hsp],[],rfl,rfl,(λs hs=>by cases hs),rfl⟩ ?_ ?_
  ·rintro i ys H2 hi ⟨rfl,ss,rfl,ls,tx,eq⟩;have ea:=hBj (b' / 216 % 36+7*(0+(i:Int))) (show(36:Int)≠0 by decide);have eb:=hBc (b' / 216 % 36+7*(0+(i:Int))) (show(0:Int)<36 by decide);rw[hsp];refine⟨sls,iteT (B:=False) ⟨_,rfl,_,rfl,_,rfl,_,rfl,_,_,rfl,rfl,.inl ⟨by decide,by decide⟩,_,_,rfl,rfl,_,_,rfl,rfl,(by show(0:Int)<_;decide),sg,_,sgC ((b' / 216 % 36+7*(0+(i:Int))) % 36).toNat,rfl,rfl,by decide +kernel,zDq ea eb,_,_,rfl,rfl,?_,_,rfl,_,_,rfl,rfl,?_,?_,nxt hi ⟨rfl,ss++[Txt.slice word none (some spot)++⟨#[sgC ((b' / 216 % 36+7*(0+(i:Int))) % 36).toNat]⟩++Txt.slice word (some (spot+1)) none],?_,?_,?_,?_⟩⟩⟩
   ·show _+1<=sizeLine;exact hB9 (qAf vG)
   ·rw[Str.length_append];show _+1+_<=sizeLine;exact hB9 (qAf vG)
   ·rw[hA1];exact qAf vG
   ·rw[hA4];rfl
   ·rw[hAf,ls];rfl
   ·intro s hs;rcases hAb.mp hs with z|z
    ·exact tx s z
    ·rw[hA3]at z;subst z;have sp0:0<=spot:=by rw[<-hsp];exact hBj _ vG
     have sp1:spot<(word.length:Int):=by rw[<-hsp];exact hBc _ vG
     have la:=qNe (x:=word) (j:=spot) sp0 vG;have lb:=qJw (x:=word) (j:=spot+1) vG vG;have lc:(⟨#[sgC ((b' / 216 % 36+7*(0+(i:Int))) % 36).toNat]⟩:Str).length=1:=rfl;refine⟨(s1.app (Sgd.one vG)).app s2,?_,?_⟩
     ·rw[Str.length_append,Str.length_append,lc];omega
     ·rw[Str.length_append,Str.length_append,lc];omega
   ·rw[eq,hCk,hA4];rfl
  ·rintro ys H2 ⟨rfl,ss,rfl,ls,tx,eq⟩ r hr';exact q r ss _ (X1.trans (Ext.new hr' _)) (X1.none hr') upd_same ls tx (λn36=>by rw[eq];exact qPy λi j hi hj=>zB6 vG vG)
end
abbrev enV(e:Int×Int):List V:=[.int e.1,.int e.2]
def qBn(H:Hp)(p:Addr)(es:List (Int×Int)):Prop:=∃as:List Addr,H p=some (.lst (as.map V.ref))/\Paired (λa e=>H a=some (.tup (enV e))) as es
theorem qBn.ext(h:qBn H p es)(e:Ext H H'):qBn H' p es:=by
 obtain⟨as,h1,h2⟩:=h;exact⟨as,e _ _ h1,Paired.mapP h2 λa t z=>e _ _ z⟩
theorem qBn.snoc(hk:H k=some (.lst (as.map V.ref)))(pr:Paired (λa t=>H a=some (.tup (enV t))) as net)(e:Ext H H')(ha:H' a=some (.tup (enV t))):qBn (upd H' k (.lst (as.map V.ref++[V.ref a]))) k (net++[t]):=by
 have hk':=e _ _ hk;have ne:∀ {b:Addr} {xs:List V},H' b=some (.tup xs)->b≠k:=λh z=>by rw[z,hk']at h;cases h
 refine⟨as++[a],by rw[upd_same,hA4];rfl,?_⟩;refine Paired.snoc (Paired.mapP pr λb u z=>?_) ?_
 ·have z':=e _ _ z;rw[qAk (ne z')];exact z'
 ·rw[qAk (ne ha)];exact ha
theorem qZ6{hs:List Int}{i:Int}(h0:0<=i)(h1:i<(hs.length:Int)):∃v,atI (hs.map V.int) i=some (.int v):=by
 have hk:i.toNat<hs.length:=by omega
 have hv:atI (hs.map V.int) ((i.toNat:Nat):Int)=some (.int hs[i.toNat]):=qA0 (by rw[hAl,hA2 hk] <;> rfl);rw[hCt h0]at hv;exact⟨_,hv⟩
def qVx(sp:Int)(e:Int×Int):Prop:=(0<=e.1/\e.1<sp)/\0<=e.2/\e.2<sp
def qYy:Sp:=λvs H Q _=>∃(b n sp:Int),vs=[.int b,.int n,.int sp]/\0<=n/\n<=12/\0<sp/\sp<=10/\∀r es H',Ext H H'->H r=none->qBn H' r es->es.length<=n.toNat->(∀e∈es,qVx sp e)->Q (.ref r) H'
section
variable{P:Program}{w:World}{K:PySem.W.Frag}{mg:Str->Option Value}{base:Heap}{f f1 f2:Addr}{fd fd1 fd2:FuncData}
noncomputable abbrev eN:List Str:=["_law_big_here","_law_many","_law_spread","_law_heaps","_law_found","_law_high","_law_k","_law_one","_law_other","_law_gone"]
theorem qEf:FnScope eN ["_law_big_here","_law_many","_law_spread"] (qAc qWx):=fsk
structure EI(H:Hp)(sp n:Int)(i:Nat)(σ:St)(H':Hp)(b' h:Int)(hp fo:Addr)(hs:List Int)(es:List (Int×Int)):Prop where
 st:∃x6 x7 x8 x9:Option V,σ=[some (.int b'),some (.int n),some (.int sp),some (.ref hp),some (.ref fo),some (.int h),x6,x7,x8,x9]
 ext:Ext H H'
 fo0:H fo=none
 ne:hp≠fo
 hsA:H' hp=some (.lst (hs.map V.int))
 hsl:(hs.length:Int)=sp
 esA:qBn H' fo es
 esl:es.length<=i
 esi:∀e∈es,qVx sp e
theorem zB2(F:Fun K "_law_ends" "_law_ends" qWx f fd)(mr:mg "range"=none)(ml:mg "len"=none)(mL:mg "list"=none):v8 1 f fd ["_law_big_here","_law_many","_law_spread"] qYy:=by
 refine F.okA qEf λcdv A outer s H vs Q E hr h=>?_
 obtain⟨b,n,sp,rfl,n0,n1,p0,p1,q⟩:=h;refine⟨_,qAa (v6 3 qEf (qBy (qK5 rfl) rfl mL qCf (pa1 (qBy qGz rfl mr qOm (pa1 (pv 2))))))
  (qAa (v4 4 qEf (qA4 qA3))
  (qAa (v4 5 qEf qAb)
  (qAa (qBa PassesOwn.never rfl (qBd rfl mr (pa1 (pv 1))) (v5 6 qEf)
   (qAa (qGw (qA6 (qAd (qAg qBb (pv 0) (pv 2)) (pa1 (qAg qBb (qAg qA5 (pv 0) (pv 2)) (pv 2))))) (qB5 rfl (qAs (v7 7 qEf) (qAs (v5 8 qEf) qBl))))
   (qAa (v4 0 qEf (qAg qA5 (qAg qA5 (pv 0) (pv 2)) (pv 2)))
   (qAe (qBo (PW.pt (qI9 (qAn qB8 (qBe qB0 (pv 3) (pv 7) (λ_ _=>rfl)) (qBe qB0 (pv 3) (pv 8) (λ_ _=>rfl)) (qAu _)) (qGd (qAn qFs (qAg qCw (qAj qAl rfl ml hAy (pa1 (pv 4))) (pv 5)) qAb (qAu _)))))
    (qAe (qCp (qEb hB1 hBk hBl qBz (pv 4) (pa1 (qA6 (qAd (pv 7) (pa1 (pv 8))))))))
    (qAe (qBo (PW.pt (qI9 (qAn qFr (qBe qB0 (pv 3) (pv 7) (λ_ _=>rfl)) (qBe qB0 (pv 3) (pv 8) (λ_ _=>rfl)) (qAu _)) (qGd (qAn qFs (pv 5) qAb (qAu _)))))
     (qAa (qCp (qEb hB1 hBk hBl qBz (pv 4) (pa1 (qA6 (qAd (pv 7) (pa1 (pv 8)))))))
     (qAa (qLu (i:=5) qEf.nd rfl vE qAb qQb)
     (qAa (v6 9 qEf (qBe qB0 (pv 3) (pv 8) (λ_ _=>rfl)))
     (qAe (v6 3 qEf (qA8 (N:=eN) (sc:=qAc qWx) (N':=["_law_heap","_law_heaps","_law_one","_law_gone"]) (sub:=[none,some 3,some 7,some 9]) (qAp (pv 3)) (λC s H fp=>⟨qAz,qEv (qAn qB8 (pv 0) (pv 3) (qAu _)) (qBe (show IxR _ (zFl K) from qB0) (pv 1) (pv 2) (λ_ _=>rfl)) (pv 0)⟩)))))))
     qA1)))))))
  (qAe (qAt (pv 4)))))),?_⟩
 refine⟨_,rfl,sp,rfl,by omega,by omega,λrg hrg=>⟨rg,sp,rfl,upd_same,by omega,by omega,λhp hhp=>?_⟩⟩;have X1:=Ext.new hrg (.rng 0 sp);have X2:=X1.trans (Ext.new hhp (.lst ((List.range sp.toNat).map λ(i:Nat)=>V.int (i:Int))));refine⟨hAt _,λfo hfo=>?_⟩;have f0:=X2.none hfo;refine⟨_,rfl,n,rfl,by omega,by omega,qB3 (lo:=0) (n:=n.toNat) (λi σ H'=>∃b' h hp fo hs es,EI H sp n i σ H' b' h hp fo hs es)
  ⟨b,0,hp,fo,(List.range sp.toNat).map λ(i:Nat)=>(i:Int),[],⟨_,_,_,_,rfl⟩,X2.trans (Ext.new hfo _),f0,λe=>(by rw[<-e,upd_same]at hfo;cases hfo),?_,?_,⟨[],upd_same,.nil⟩,hA9 _,λe he=>by cases he⟩ ?_ ?_⟩
 ·rw[qAk (λe=>by rw[<-e,upd_same]at hfo;cases hfo),upd_same,hB6];rfl
 ·rw[hA1,hB4];omega
 ·rintro i σ H' hi ⟨b',h,hp,fo,hs,es,⟨x6,x7,x8,x9,rfl⟩,ext,fo0,ne,hsA,hsl,esA,esl,esi⟩;have sp0:(0:Int)<sp:=p0;have o0:=hBj b' (show sp≠0 by omega);have o1:=hBc b' p0;have t0:=hBj (b' / sp) (show sp≠0 by omega);have t1:=hBc (b' / sp) p0;have cd:zGv (b' / sp) sp:=⟨p0,by omega⟩;have cd':zGv b' sp:=⟨p0,by omega⟩;refine⟨_,rfl,_,rfl,_,_,rfl,rfl,p0,_,rfl,_,rfl,_,_,rfl,rfl,cd',_,rfl,_,_,rfl,rfl,p0,(by show 2<=sizeLine;decide),λT hT=>⟨T,_,rfl,SqT.of upd_same,rfl,_,_,rfl,_,_,rfl,rfl,?_⟩⟩;have X3:=Ext.new hT (.tup [V.int (b' % sp),V.int (b' / sp % sp)]);refine⟨_,rfl,_,rfl,_,_,rfl,rfl,cd',_,rfl,_,_,rfl,rfl,cd,?_⟩;obtain⟨v1,a1⟩:=qZ6 (hs:=hs) o0 vG;obtain⟨v2,a2⟩:=qZ6 (hs:=hs) t0 vG;have hs3:=X3 _ _ hsA;have es3:=esA.ext X3;obtain⟨as,ea1,ea2⟩:=id esA;have la:as.length=es.length:=ea2.length;have inn:qVx sp ((b' % sp),(b' / sp % sp)):=⟨⟨o0,o1⟩,t0,t1⟩;refine⟨_,rfl,_,rfl,hp,_,_,_,rfl,rfl,SqL.of hs3,a1,_,rfl,_,rfl,hp,_,_,_,rfl,rfl,SqL.of hs3,a2,rfl,_,rfl,?_⟩;refine qBw (λc=>?_) (λc=>?_)
  ·refine⟨_,rfl,fo,_,rfl,.inl (SqL.of (X3 _ _ ea1)),_,rfl,_,_,rfl,rfl,_,_,rfl,rfl,_,rfl,?_⟩;refine qBw (λc2=>?_) (λc2=>?_)
   ·refine⟨_,rfl,.inl ⟨rfl,_,SqL.of (X3 _ _ ea1)⟩,_,rfl,_,rfl,(by show 2<=sizeLine;decide),λT2 hT2=>?_⟩;have X4:=X3.trans (Ext.new hT2 (.tup (enV ((b' % sp),(b' / sp % sp)))));refine⟨fo,_,_,rfl,rfl,X4 _ _ ea1,by rw[hA1];exact qAf vG,?_⟩;refine⟨_,_,hp,fo,hs,es++[((b' % sp),(b' / sp % sp))],⟨_,_,_,_,rfl⟩,(ext.trans X4).over fo0 _,fo0,ne,by rw[qAk ne];exact X4 _ _ hsA,hsl,qBn.snoc ea1 ea2 X4 upd_same,by rw[hAf];exact hD0 esl,λe he=>?_⟩;rcases hAb.mp he with z|z
    ·exact esi e z
    ·rw[hA3]at z;subst z;exact inn
   ·refine⟨_,rfl,_,rfl,hp,_,_,_,rfl,rfl,SqL.of hs3,a1,_,rfl,_,rfl,hp,_,_,_,rfl,rfl,SqL.of hs3,a2,rfl,_,rfl,?_⟩;refine qBw (λc3=>?_) (λc3=>?_)
    ·have e1:v1=v2:=by simpa using c
     have e2:¬v1=v2:=by simpa using c3
     exact absurd e1 e2
    ·refine qG5 ?_;exact⟨_,_,hp,fo,hs,es,⟨_,_,_,_,rfl⟩,ext.trans X3,fo0,ne,hs3,hsl,es3,by omega,esi⟩
  ·refine qG5 ?_;refine⟨_,rfl,_,rfl,hp,_,_,_,rfl,rfl,SqL.of hs3,a1,_,rfl,_,rfl,hp,_,_,_,rfl,rfl,SqL.of hs3,a2,rfl,_,rfl,?_⟩;refine qBw (λc3=>?_) (λc3=>?_)
   ·refine⟨_,rfl,_,_,rfl,rfl,_,rfl,?_⟩;refine qBw (λc2=>?_) (λc2=>?_)
    ·refine⟨_,rfl,.inl ⟨rfl,_,SqL.of (X3 _ _ ea1)⟩,_,rfl,_,rfl,(by show 2<=sizeLine;decide),λT2 hT2=>?_⟩;have X4:=X3.trans (Ext.new hT2 (.tup (enV ((b' % sp),(b' / sp % sp)))));refine⟨fo,_,_,rfl,rfl,X4 _ _ ea1,by rw[hA1];exact qAf vG,?_⟩;have hs4:upd (upd (upd H' T (.tup [V.int (b' % sp),V.int (b' / sp % sp)])) T2 (.tup (enV ((b' % sp),(b' / sp % sp))))) fo (.lst (as.map V.ref++[V.ref T2])) hp=some (.lst (hs.map V.int)):=by rw[qAk ne];exact X4 _ _ hsA
     have en4:=qBn.snoc (t:=((b' % sp),(b' / sp % sp))) ea1 ea2 X4 upd_same;have X5:=(ext.trans X4).over fo0 (.lst (as.map V.ref++[V.ref T2]));refine⟨_,rfl,_,_,rfl,rfl,?_⟩;refine⟨_,rfl,_,rfl,hp,_,_,_,rfl,rfl,SqL.of hs4,a2,?_⟩;refine⟨_,rfl,hp,rfl,⟨_,SqL.of hs4⟩,?_⟩;refine qQ6 (λv=>some (if v = .int v2 then .int v1 else v)) (SqL.of hs4) (by rw[hA1];exact hB9 (qAf vG)) (λx hx C hC=>?_) (λr hr'=>?_)
     ·obtain⟨y,_,rfl⟩:=hAe.mp hx;refine⟨sls,iteT (B:=False) ?_⟩;refine⟨_,rfl,_,rfl,rfl,_,rfl,?_⟩;refine qBw (λc5=>?_) (λc5=>?_)
      ·have e5:y=v2:=by simpa using c5
       subst e5;refine⟨_,rfl,_,rfl,hp,_,_,_,rfl,rfl,SqL.of hs4,a1,?_⟩;rw[hEk rfl]at hC;exact hC
      ·have e5:¬y=v2:=by simpa using c5
       rw[hEj (λz=>e5 (V.int.inj z))]at hC;exact⟨_,rfl,hC⟩
     ·have rf:r≠fo:=λe=>by rw[e,upd_same]at hr';cases hr'
      have em:(hs.map V.int).filterMap (λv=>some (if v = .int v2 then .int v1 else v))=(hs.map λy=>if y=v2 then v1 else y).map V.int:=by
       rw[List.filterMap_eq_map',hB6,hB6];refine hBg λy _=>?_
       show(if V.int y=V.int v2 then V.int v1 else V.int y)=V.int (if y=v2 then v1 else y);by_cases z:y=v2
       ·subst z;rw[hEk rfl,hEk rfl]
       ·rw[hEj (λe=>z (V.int.inj e)),hEj z]
      rw[em];refine⟨_,_,r,fo,_,es++[((b' % sp),(b' / sp % sp))],⟨_,_,_,_,rfl⟩,X5.trans (Ext.new hr' _),fo0,rf,upd_same,by rw[hA1];exact hsl,en4.ext (Ext.new hr' _),by rw[hAf];exact hD0 esl,λe he=>?_⟩;rcases hAb.mp he with z|z
      ·exact esi e z
      ·rw[hA3]at z;subst z;exact inn
    ·exact⟨_,_,hp,fo,hs,es,⟨_,_,_,_,rfl⟩,ext.trans X3,fo0,ne,hs3,hsl,es3,by omega,esi⟩
   ·refine qG5 ?_;exact⟨_,_,hp,fo,hs,es,⟨_,_,_,_,rfl⟩,ext.trans X3,fo0,ne,hs3,hsl,es3,by omega,esi⟩
 ·rintro σ H' ⟨b',h,hp,fo,hs,es,⟨x6,x7,x8,x9,rfl⟩,ext,fo0,ne,hsA,hsl,esA,esl,esi⟩;exact⟨_,rfl,q fo es H' ext fo0 esA esl esi⟩
end
end My
namespace L2
open PySem PySem.Spec PyProof.Rows
theorem qIk{n:Nat}{Ls:Hp->Prop}{xv:Nat->List V}{g:TG}{tb:TS}{D:Ends}{σ:St}{H:Hp}(Pv:Nat->St->Hp->Prop)(h0:Pv 0 σ H)(hl:∀i σ H,i<=n->Pv i σ H->Ls H)
  (hs:∀i σ H T,i<n->Pv i σ H->H T=none->g (.ref T) σ (upd H T (.tup (xv i))) λσ2 H2=>tb { D with nx:=Pv (i+1),ct:=Pv (i+1),bk:=D.nx } σ2 H2) (hd:∀σ H,Pv n σ H->D.nx σ H) :
  ∃W:Nat->Nat->St->Hp->Prop,(∃m,W 0 m σ H)/\∀i m σ H,W i m σ H ->
   ((Itp n Ls xv).stop i H/\D.nx σ H)\/((Itp n Ls xv).go i H/\∃N:St->Hp->Prop,(∀σ' H',N σ' H'->∃m',m'<m/\W (i+1) m' σ' H')/\∀x H',(Itp n Ls xv).yld i H x H'->g x σ H' λσ2 H2=>tb { D with nx:=N,ct:=N,bk:=D.nx } σ2 H2):=by
 refine⟨λi m σ H=>m=n-i/\i<=n/\Pv i σ H,⟨n,by simp,hAt _,h0⟩,?_⟩;rintro i m σ H ⟨rfl,hi,p⟩;have q:=hl i σ H hi p;by_cases hlt:i<n
 ·refine .inr ⟨⟨q,hlt⟩,Pv (i+1),λσ' H' p'=>⟨n-(i+1),by omega,rfl,hlt,p'⟩,λx H' y=>?_⟩;obtain⟨T,e1,e2,e3⟩:=y;subst e2 e3;exact hs i σ H T hlt p e1
 ·have e:i=n:=by omega
  subst e;exact .inl ⟨⟨q,rfl⟩,hd σ H p⟩
end L2
namespace My
open PySem L2
theorem zC2{hs:List Int}{i:Int}(h0:0<=i)(h1:i<(hs.length:Int)):∃v∈hs,atI (hs.map V.int) i=some (.int v):=by
 have hk:i.toNat<hs.length:=by omega
 have hv:atI (hs.map V.int) ((i.toNat:Nat):Int)=some (.int hs[i.toNat]):=qA0 (by rw[hAl,hA2 hk] <;> rfl);rw[hCt h0]at hv;exact⟨_,hBn hk,hv⟩
theorem qVs{hs:List Str}{i:Int}(h0:0<=i)(h1:i<(hs.length:Int)):∃v∈hs,atI (hs.map V.str) i=some (.str v):=by
 have hk:i.toNat<hs.length:=by omega
 have hv:atI (hs.map V.str) ((i.toNat:Nat):Int)=some (.str hs[i.toNat]):=qA0 (by rw[hAl,hA2 hk] <;> rfl);rw[hCt h0]at hv;exact⟨_,hBn hk,hv⟩
theorem qEw:∀ {as:List α} {bs:List β},Paired R as bs->∀a∈as,∃b∈bs,R a b
 |_,_,.nil,a,h=>by cases h
 |_,_,.cons h t,a,ha=>by
  rcases hAj.mp ha with rfl|z
  ·exact⟨_,hA8,h⟩
  ·obtain⟨b,hb,hr⟩:=qEw t a z;exact⟨b,hA6 _ hb,hr⟩
theorem qJc{α β γ:Type}{R:α->β->Prop}{S:α->γ->Prop}(g:β->γ)(h:∀a b,R a b->S a (g b)):∀ {as:List α} {bs:List β},Paired R as bs->Paired S as (bs.map g)
 |_,_,.nil=>.nil
 |_,_,.cons x t=>.cons (h _ _ x) (qJc g h t)
theorem qFf.snoc(hk:H k=some (.lst (as.map V.ref)))(pr:Paired (λa t=>H a=some (.tup (trV t))) as net)(e:Ext H H')(ha:H' a=some (.tup (trV t))):qFf (upd H' k (.lst (as.map V.ref++[V.ref a]))) k (net++[t]):=by
 have hk':=e _ _ hk;have ne:∀ {b:Addr} {xs:List V},H' b=some (.tup xs)->b≠k:=λh z=>by rw[z,hk']at h;cases h
 refine⟨as++[a],by rw[upd_same,hA4];rfl,?_⟩;refine Paired.snoc (Paired.mapP pr λb u z=>?_) ?_
 ·have z':=e _ _ z;rw[qAk (ne z')];exact z'
 ·rw[qAk (ne ha)];exact ha
noncomputable def qM0(t:Tr):List Str:=[t.1,t.2.1,t.2.2]
noncomputable def t0:Tr:=("","","")
theorem qS2:∀ {net:List Tr} {i:Nat},i<net.length->qM0 (net.getD i t0)=(net.map qM0).getD i []
 |[],_,h=>absurd h (hCe _)
 |t :: r,0,_=>rfl
 |t :: r,i+1,h=>by simpa using qS2 (net:=r) (i:=i) (by simpa using h)
theorem qPx{H:Hp}:∀ {as:List Addr} {net:List Tr} {i:Nat},Paired (λa t=>H a=some (.tup (trV t))) as net->i<as.length->H (as.getD i 0)=some (.tup (trV (net.getD i t0)))
 |_,_,i,.nil,hi=>absurd hi (hCe _)
 |_,_,0,.cons h _,_=>h
 |_,_,i+1,.cons _ t,hi=>by simpa using qPx (i:=i) t (by simpa using hi)
theorem qL2{H:Hp}{as:List Addr}{net:List Tr}(pr:Paired (λa t=>H a=some (.tup (trV t))) as net):∀ {l:List Nat},(∀i∈l,i<as.length)->Paired (λa t=>H a=some (.tup (trV t))) (l.map λi=>as.getD i 0) (l.map λi=>net.getD i t0)
 |[],_=>.nil
 |i :: l,h=>.cons (qPx pr (h i hA8)) (qL2 pr λj hj=>h j (hA6 _ hj))
theorem qI7{net:List Tr}:∀ {l:List Nat},(∀i∈l,i<net.length)->(l.map λi=>net.getD i t0).map qM0=l.map λi=>(net.map qM0).getD i []
 |[],_=>rfl
 |i :: l,h=>by
  rw[hBm,hBm,hBm,qI7 λj hj=>h j (hA6 _ hj),qS2 (h i hA8)]
theorem qW0(e:qM0 t=qM0 u):t=u:=by
 obtain⟨a,b,c⟩:=t;obtain⟨a',b',c'⟩:=u;unfold qM0 at e;simp at e;obtain⟨e1,e2,e3⟩:=e;subst e1 e2 e3;rfl
theorem qL3(net:List Tr):(net.map qM0).map (λr=>r.getD 0 "")=net.map (·.1):=by
 rw[hB6];rfl
theorem qPl:∀ {net:List Tr},Srt (net.map qM0)->(net.map (·.1)).Nodup->qEc (net.map (·.1))
 |[],_,_=>List.Pairwise.nil
 |t :: r,h,nd=>by
  rw[hBm]at h nd;obtain⟨h1,h2⟩:=hAs.mp h;obtain⟨n1,n2⟩:=hBb.mp nd;rw[hBm];refine hAs.mpr ⟨λx hx=>?_,qPl h2 n2⟩;obtain⟨u,hu,rfl⟩:=hAe.mp hx;have q:=h1 (qM0 u) (hAu hu);have ne:¬u.1=t.1:=λz=>n1 (z▸hAu hu)
  unfold qM0 ltL at q;rw[hEj ne]at q;rcases qJ3 t.1 u.1 with z|z|z
  ·exact z
  ·exact absurd z.symm ne
  ·rw[z]at q;cases q
def TxT(t:Tr):Prop:=Sm t.1/\Sm t.2.1/\Sm t.2.2
def TxN(net:List Tr):Prop:=∀t∈net,TxT t
def zDm(K:PySem.W.Frag):Sp:=λvs H Q _=>∃(a:Addr) (ns:List Int),vs=[.ref a,.int 1]/\SqL K H a (ns.map V.int)/\∀r net H',Ext H H'->H r=none->qFf H' r net->net.length<=12->TxN net->qEc (net.map (·.1))->Q (.ref r) H'
section
variable{P:Program}{w:World}{K:PySem.W.Frag}{mg:Str->Option Value}{base:Heap}{f f1 f2 f3:Addr}{fd fd1 fd2 fd3:FuncData}
noncomputable abbrev neN:List Str:=["_law_script","_law_at","_law_head","_law_ends_here","_law_ties","_law_knots","_law_net_here","_law_tie","_law_two"]
theorem qLl:FnScope neN ["_law_script","_law_at"] (qAc zFz):=fsk
noncomputable abbrev spr:List Int:=[4,5,3,6,5,9,2,10]
theorem zEe(F:Fun K "_law_net" "_law_net" zFz f fd)
  (G1:v9 2 f1 fd1 ["_law_script","_law_k"] (qRb K) "_law_big")
  (G2:v9 1 f2 fd2 ["_law_big_here","_law_many","_law_spread"] qYy "_law_ends")
  (G3:v9 1 f3 fd3 ["_law_big_here","_law_many"] qJu "_law_names")
  (ml:mg "len"=none) (mz:mg "zip"=none) (mtu:mg "tuple"=none) (mso:mg "sorted"=none):v8 3 f fd ["_law_script","_law_at"] (zDm K):=by
 refine F.okA qLl λcdv A outer s H vs Q E hr h=>?_
 obtain⟨a,ns,rfl,hS,q⟩:=h;have hr1:=hr.mono (j:=1) (by decide);refine⟨_,qAa (v4 2 qLl (qAw G1 hr rfl .nil qAv (qAd (pv 0) (pa1 (pv 1)))))
  (qAa (v4 3 qLl (qAw G2 hr1 rfl .nil qAv (qAd (qAw G1 hr rfl .nil qAv (qAd (pv 0) (pa1 (qAg qA9 (pv 1) qAb)))) (qAd (qAg qBb (qAg qA5 (pv 2) qAb) qAb) (qAd
    (qBe qB0 (qA4 (qAd qAb (qAd qAb (qAd qAb (qAd qAb (qAd qAb (qAd qAb (qAd qAb (pa1 qAb))))))))) (qAg qBb (pv 2) qAb) (λ_ _=>rfl)) qA3)))))
  (qAa (v4 4 qLl (qAw G3 hr1 rfl .nil qAv (qAd (qAg qA5 (pv 2) qAb) (pa1 (qAj qAl rfl ml hAy (pa1 (pv 3)))))))
  (qAa (v4 5 qLl (qAw G3 hr1 rfl .nil qAv (qAd (qAw G1 hr rfl .nil qAv (qAd (pv 0) (pa1 (qAg qA9 (pv 1) qAb)))) (pa1 qAb))))
  (qAa (v4 6 qLl (qA4 qA3))
  (qAa (qBa PassesOwn.never rfl (zD5 rfl mz (qAd (pv 4) (pa1 (pv 3)))) (qB5 rfl (qAs (v5 7 qLl) (qAs (v5 8 qLl) qBl)))
   (qAe (qCp (qEb hB1 hBk hBl qBz (pv 6) (qAd
    (qAg qTk (qA6 (pa1 (pv 7))) (qBy qF2 rfl mtu qFe (pa1 (qAj qDg rfl mso qBs (qAd
     (qA4 (qAd (qBe qB0 (pv 5) (qBe qBq (pv 8) qAb (λ_ _=>rfl)) (λ_ _=>rfl)) (pa1 (qBe qB0 (pv 5) (qBe qBq (pv 8) qAb (λ_ _=>rfl)) (λ_ _=>rfl))))) qA3))))) qA3)))))
  (qAe (qAt (qAj qK4 rfl mso qBs (pa1 (pv 6)))))))))),?_⟩
 refine⟨_,rfl,_,rfl,a,ns,1,rfl,hS,by decide,by decide,λhd=>?_⟩;have d1:=hBj (hd / 8) (show(13:Int)≠0 by decide);have d2:=hBc (hd / 8) (show(0:Int)<13 by decide);have d3:=hBj hd (show(8:Int)≠0 by decide);have d4:=hBc hd (show(0:Int)<8 by decide);refine⟨_,rfl,_,rfl,_,_,rfl,rfl,a,ns,_,rfl,hS,by decide,by decide,λv1=>?_⟩;refine⟨_,rfl,_,_,rfl,rfl,⟨by decide,by decide⟩,_,_,rfl,rfl,(by show(0:Int)<_;decide),(by show 8<=sizeLine;decide),λL hL=>?_⟩;have X1:=Ext.new hL (.lst (spr.map V.int));obtain⟨sp,spm,spa⟩:=zC2 (hs:=spr) d3 (by show hd % 8<8;exact d4);have spb:0<sp/\sp<=10:=by
  have:∀z∈spr,0<z/\z<=10:=by decide
  exact this sp spm
 refine⟨_,rfl,_,_,rfl,rfl,(by show(0:Int)<_;decide),L,spr.map V.int,_,_,rfl,rfl,SqL.of upd_same,spa,?_⟩;refine⟨_,_,sp,rfl,d1,by omega,spb.1,spb.2,λen es H2 e2 en0 hen esl esi=>?_⟩;have E2:=X1.trans e2;obtain⟨bs,hb1,hb2⟩:=id hen;have lb:bs.length=es.length:=hb2.length;have esl':es.length<=12:=by omega
 refine⟨_,rfl,_,_,rfl,rfl,⟨by decide,by decide⟩,_,rfl,en,_,rfl,.inl (SqL.of hb1),?_⟩;refine⟨_,_,rfl,by omega,by rw[hA1];omega,λtl ts H3 e3 tl0 htl tsl tsx tnd=>?_⟩;have E3:=E2.trans e3;refine⟨_,rfl,_,rfl,_,_,rfl,rfl,a,ns,_,rfl,E3.sqL hS,by decide,by decide,λv2=>?_⟩;refine⟨_,10,rfl,by decide,by decide,λkl kn H4 e4 kl0 hkl knl knx _=>?_⟩;have E4:=E3.trans e4;refine⟨hAt _,λnl hnl=>?_⟩;have nl0:=E4.none hnl;have E5:=E4.trans (Ext.new hnl (.lst []));have tsl':ts.length=es.length:=by rw[tsl,hA1,lb];omega
 have mn:min (ts.map V.str).length (bs.map V.ref).length=es.length:=by rw[hA1,hA1,lb,tsl'];exact Nat.min_self _
 have htl5:=(Ext.new hnl (.lst [])) _ _ (e4 _ _ htl);have hen5:=(Ext.new hnl (.lst [])) _ _ (e4 _ _ (e3 _ _ hb1));refine⟨_,rfl,_,rfl,tl,en,_,_,rfl,SqL.of htl5,SqL.of hen5,?_⟩;refine qIk (λi σ H6=>∃(x7 x8:Option V) (net:List Tr),σ=[some (.ref a),some (.int 1),some (.int hd),some (.ref en),some (.ref tl),some (.ref kl),some (.ref nl),x7,x8]/\Ext H4 H6/\qFf H6 nl net/\net.length=i/\TxN net/\net.map (·.1)=ts.take i)
  ⟨none,none,[],rfl,Ext.new hnl _,⟨[],upd_same,.nil⟩,rfl,(λt ht=>by cases ht),rfl⟩ ?_ ?_ ?_
 ·rintro i σ H6 _ ⟨x7,x8,net,_,e6,_⟩;exact⟨SqL.of (e6 _ _ (e4 _ _ htl)),SqL.of (e6 _ _ (e4 _ _ (e3 _ _ hb1)))⟩
 ·rintro i σ H6 T hi ⟨x7,x8,net,rfl,e6,nt,nl',tx,nm⟩ hT;rw[mn]at hi;have hit:i<ts.length:=by omega
  have hib:i<bs.length:=by omega
  have g1:(ts.map V.str).getD i .non = .str ts[i]:=by rw[hAa,hAl,hA2 hit];rfl
  have g2:(bs.map V.ref).getD i .non = .ref bs[i]:=by rw[hAa,hAl,hA2 hib];rfl
  obtain⟨e,he,hbe⟩:=qAr hb2 (hA2 hib);obtain⟨⟨i0,i1⟩,j0,j1⟩:=esi e (hAc he);obtain⟨k1,k1m,k1a⟩:=qVs (hs:=kn) i0 (by rw[knl];show e.1<10;omega);obtain⟨k2,k2m,k2a⟩:=qVs (hs:=kn) j0 (by rw[knl];show e.2<10;omega);obtain⟨as,ea1,ea2⟩:=id nt;have la:as.length=net.length:=ea2.length;dsimp only;rw[g1,g2];have Y1:=Ext.new hT (.tup [V.str ts[i],V.ref bs[i]]);refine⟨T,_,rfl,SqT.of upd_same,rfl,_,_,rfl,_,_,rfl,rfl,?_⟩;refine⟨_,rfl,.inl ⟨rfl,_,SqL.of (Y1 _ _ ea1)⟩,_,rfl,(by show 1<=sizeLine;decide),λT1 hT1=>?_⟩;have Y2:=Y1.trans (Ext.new hT1 (.tup [V.str ts[i]]));have hb6:=Y2 _ _ (e6 _ _ (e4 _ _ (e3 _ _ hbe)));have hk6:=Y2 _ _ (e6 _ _ hkl);refine⟨_,rfl,_,rfl,bs[i],_,_,_,rfl,rfl,SqT.of hb6,(by exact qA0 (j:=0) rfl),kl,_,_,_,rfl,rfl,SqL.of hk6,k1a,?_⟩;refine⟨_,rfl,_,rfl,bs[i],_,_,_,rfl,rfl,SqT.of hb6,(by exact qA0 (j:=1) rfl),kl,_,_,_,rfl,rfl,SqL.of hk6,k2a,?_⟩;refine⟨(by show 2<=sizeLine;decide),λL2 hL2=>⟨L2,[k1,k2],rfl,SqL.of upd_same,(by show 2<64;decide),λS ss hS' perm srt=>?_⟩⟩;have Y3:=Y2.trans (Ext.new hL2 (.lst [V.str k1,V.str k2]));have Y4:=Y3.trans (Ext.new hS' (.lst (ss.map V.str)));refine⟨S,_,rfl,.inl ⟨SqL.of upd_same,λT2 hT2=>?_⟩⟩;have lss:ss.length=2:=perm.length_eq;obtain⟨x,y,rfl⟩:∃x y,ss=[x,y]:=by
   match ss,lss with
   |[x,y],_=>exact⟨x,y,rfl⟩
  have sx:Sm x:=by
   have:x∈[k1,k2]:=perm.mem_iff.mp vI;simp at this;rcases this with rfl|rfl
   ·exact(knx _ k1m).1.sm
   ·exact(knx _ k2m).1.sm
  have sy:Sm y:=by
   have:y∈[k1,k2]:=perm.mem_iff.mp vI;simp at this;rcases this with rfl|rfl
   ·exact(knx _ k1m).1.sm
   ·exact(knx _ k2m).1.sm
  have Y5:=Y4.trans (Ext.new hT2 (.tup ([x,y].map V.str)));have t1:upd (upd H6 T (.tup [V.str ts[i],V.ref bs[i]])) T1 (.tup [V.str ts[i]]) T1=some (.tup [V.str ts[i]]):=upd_same;have t15:=Ext.new hT2 (.tup ([x,y].map V.str)) _ _ (Ext.new hS' (.lst ([x,y].map V.str)) _ _ (Ext.new hL2 (.lst [V.str k1,V.str k2]) _ _ t1));refine⟨T1,T2,_,_,rfl,rfl,SqT.of t15,SqT.of upd_same,vI,(by show 3<=sizeLine;decide),(λz=>by cases z),λ_ T3 hT3=>?_⟩;have Y6:=Y5.trans (Ext.new hT3 (.tup (trV (ts[i],x,y))));refine⟨nl,_,_,rfl,rfl,Y6 _ _ ea1,?_,?_⟩
  ·rw[hA1];exact qAf vG
  ·refine⟨_,_,net++[(ts[i],x,y)],rfl,(e6.trans Y6).over hnl _,qFf.snoc ea1 ea2 Y6 upd_same,by rw[hAf,nl'];rfl,(λt ht=>?_),by rw[hA4,nm,qAh (hA2 hit)];rfl⟩;rcases hAb.mp ht with z|z
   ·exact tx t z
   ·rw[hA3]at z;subst z;exact⟨(tsx _ (hBn hit)).1.sm,sx,sy⟩
 ·rintro σ H6 ⟨x7,x8,net,rfl,e6,nt,nl',tx,nm⟩;rw[mn]at nl' nm;obtain⟨as,ea1,ea2⟩:=id nt;have la:as.length=net.length:=ea2.length;refine⟨_,rfl,nl,as,net.map qM0,rfl,SqL.of ea1,qJc _ (λa t z=>⟨SqT.of z,by simp[qM0]⟩) ea2,by omega,λr o hr' g sp=>?_⟩;have E6:=E4.trans e6;have gm:∀i∈o.toList,i<as.length:=λi hi=>qMd g hi
  have gm':∀i∈o.toList,i<net.length:=λi hi=>by have:=gm i hi;omega
  have gl:=qUh g;have lt:as.length=(net.map qM0).length:=by rw[hA1];exact la
  rw[lt]at g sp;obtain⟨s1,s2⟩:=qGg g sp;rw[<-qI7 gm']at s1 s2;have nd:((o.toList.map λi=>net.getD i t0).map (·.1)).Nodup:=by
   rw[<-qL3];refine(s2.map _).nodup_iff.mpr ?_;rw[qL3,nm,<-tsl',hA5 (hA9 _)];refine tnd ?_;rw[hA1];omega
  refine q r (o.toList.map λi=>net.getD i t0) _ (E6.trans (Ext.new hr' _)) (E6.none hr') ⟨_,upd_same,Paired.mapP (qL2 ea2 gm) λa' t z=>Ext.new hr' _ _ _ z⟩ ?_ (λt ht=>?_) (qPl s1 nd)
  ·rw[hA1,gl];omega
  ·have m:qM0 t∈net.map qM0:=s2.mem_iff.mp (hAu ht);obtain⟨u,hu,e⟩:=hAe.mp m;rw[<-qW0 e];exact tx u hu
end
section
variable{K:PySem.W.Frag}
theorem qHl(h:Tr->Str)(hp:H1 p=some (.lst (as.map V.ref)))(pr:Paired (λa t=>H1 a=some (.tup (trV t))) as net)(ln:net.length<=12)
  (hs:∀a t,H1 a=some (.tup (trV t))->∀(C:V->Hp->Prop) (B:Hp->Prop),C (.str (h t)) H1->g (.ref a) σ0 H1 λσ2 H2=>Sle σ0 σ2/\tt σ2 H2 λb H3=>if b=true then te σ2 H3 C else B H3)
  (hd:Q ((net.map h).map V.str) H1):qEp (Itl K p) σ0 g tt te Q H1:=by
 have lA:as.length=net.length:=pr.length;refine qAq (xs:=as.map V.ref) (λj ys H2=>H2=H1/\ys=((net.take j).map h).map V.str) ⟨rfl,rfl⟩ (λj ys H2 _ h=>by rw[h.1];exact SqL.of hp) ?_ ?_
 ·rintro j x ys H2 hx ⟨rfl,rfl⟩;obtain⟨a,t,rfl,ht,ha⟩:=zB7 pr hx;have hi:=qAx ht;have sz:(((net.take j).map h).map V.str).length<sizeLine:=by
   rw[hA1,hA1,hAm];exact qAf vG
  exact hs a t ha _ _ ⟨sz,nxt (qAx hx) ⟨rfl,by rw[qAh ht,hA4,hA4];rfl⟩⟩
 ·rintro ys H2 ⟨rfl,rfl⟩;rw[hA1,lA,hA5 (hA9 _)];exact hd
end
end My
namespace My
theorem qCo(h:x<2^i)(hj:i<=j):x.testBit j=false :=
 hDi (hAo h (hBd (by decide) hj))
theorem qV6(h:x.testBit i=true):2^i<=x:=by
 rcases Nat.lt_or_ge x (2^i) with z|z
 ·rw[hDi z]at h;cases h
 ·exact z
theorem qT4(h1:x.testBit i=true)(h2:x<2^(i+1)):x.log2=i:=by
 have g:=qV6 h1;have nz:x≠0:=λz=>by subst z;simp at h1
 have a:=(hDx nz).mpr h2;have b:=(Nat.le_log2 nz).mpr g;omega
theorem zAa{x i:Nat}(h:x.testBit i=true):i<=x.log2:=by
 have nz:x≠0:=λz=>by subst z;simp at h
 exact(Nat.le_log2 nz).mpr (qV6 h)
theorem qOy{x i:Nat}(h:x.log2<i):x.testBit i=false:=qCo hDm h
theorem qGr(h:n % 2=0):n^^^1=n+1:=by
 have d:(n^^^1) / 2=n / 2:=by rw[Nat.xor_div_two];simp
 have b:(n^^^1).testBit 0=true:=by rw[hAn,hB5,hB5];simp[h]
 rw[hB5]at b;have b':=hEi b;omega
theorem qM1(h:n % 2=1):n^^^1=n-1:=by
 have d:(n^^^1) / 2=n / 2:=by rw[Nat.xor_div_two];simp
 have b:(n^^^1).testBit 0=false:=by rw[hAn,hB5,hB5];simp[h]
 rw[hB5]at b;have b':=hFb b;omega
theorem qWe(hs:s≠0):s >>> s.log2=1:=by
 rw[hDr];have a:=Nat.log2_self_le hs;have b:s<2^(s.log2+1):=hDm;rw[hD7]at b;have p:0<2^s.log2:=Nat.pow_pos (by decide);exact Nat.div_eq_of_lt_le vG vG
theorem qIw(x:Nat)(hs:s≠0):x^^^s<x↔x.testBit s.log2=true:=by
 have e:(x^^^s) >>> s.log2=(x >>> s.log2)^^^1:=by rw[Nat.shiftRight_xor_distrib,qWe hs]
 have tb:x.testBit s.log2=decide ((x >>> s.log2) % 2=1):=by rw[hD2,hDr]
 rw[tb];have lt:∀ {a b:Nat},a >>> s.log2<b >>> s.log2->a<b:=λ{a b} h=>by
  rw[hDr,hDr]at h;rcases Nat.lt_or_ge a b with z|z
  ·exact z
  ·have:=Nat.div_le_div_right (c:=2^s.log2) z;omega
 rcases hC6 (x >>> s.log2) with h|h
 ·rw[qGr h]at e;have:x<x^^^s:=lt vG;constructor
  ·intro z;omega
  ·intro z;rw[h]at z;simp at z
 ·rw[qM1 h]at e;have:x^^^s<x:=lt (by rw[e];exact Nat.sub_one_lt λz=>by rw[z]at h;cases h);exact⟨λ_=>by simp[h],λ_=>this⟩
def rd1(x s:Nat):Nat:=if x.testBit s.log2=true then x^^^s else x
theorem zB9(x:Nat)(hs:s≠0):(if x^^^s<x then x^^^s else x)=rd1 x s:=by
 unfold rd1;by_cases h:x.testBit s.log2=true
 ·rw[hEk h,hEk ((qIw x hs).mpr h)]
 ·rw[hEj h,hEj (λz=>h ((qIw x hs).mp z))]
theorem qCs(x s i:Nat):(rd1 x s).testBit i=(x.testBit i ^^ (x.testBit s.log2 && s.testBit i)):=by
 unfold rd1;by_cases h:x.testBit s.log2=true
 ·rw[hEk h,hAn,h,hBw]
 ·rw[hEj h];have:x.testBit s.log2=false:=by simpa using h
  rw[this];simp
theorem qW4(s:Nat):rd1 0 s=0:=by unfold rd1;simp
theorem zAx(x y s:Nat):rd1 (x^^^y) s=rd1 x s^^^rd1 y s:=by
 refine hAh λi=>?_
 rw[qCs,hAn,hAn,hAn,qCs,qCs];cases x.testBit i <;> cases y.testBit i <;> cases x.testBit s.log2 <;> cases y.testBit s.log2 <;> cases s.testBit i <;> rfl
noncomputable def red1(k:List Nat)(x:Nat):Nat:=k.foldl rd1 x
theorem qEk:∀k:List Nat,red1 k 0=0
 |[]=>rfl
 |s :: k=>by show red1 k (rd1 0 s)=0;rw[qW4];exact qEk k
theorem qKa:∀(k:List Nat) (x y:Nat),red1 k (x^^^y)=red1 k x^^^red1 k y
 |[],_,_=>rfl
 |s :: k,x,y=>by show red1 k (rd1 (x^^^y) s)=red1 k (rd1 x s)^^^red1 k (rd1 y s);rw[zAx];exact qKa k _ _
structure RR(k:List Nat):Prop where
 nz:∀s∈k,s≠0
 ap:k.Pairwise λs t=>t.testBit s.log2=false/\s.testBit t.log2=false
theorem RR.nil:RR []:=⟨λs h=>(by cases h),.nil⟩
theorem RR.tl(h:RR (s :: k)):RR k:=⟨λt ht=>h.nz t (hA6 _ ht),(hAs.mp h.ap).2⟩
theorem RR.hd(h:RR (s :: k)):∀t∈k,t.testBit s.log2=false/\s.testBit t.log2=false:=(hAs.mp h.ap).1
theorem RR.ne:∀ {k:List Nat},RR k->∀ {s t:Nat},s∈k->t∈k->s≠t->s.testBit t.log2=false
 |[],_,_,_,hs,_,_=>by cases hs
 |a :: k,h,s,t,hs,ht,e=>by
  rcases hAj.mp hs with rfl|zs
  ·rcases hAj.mp ht with rfl|zt
   ·exact absurd rfl e
   ·exact(h.hd t zt).2
  ·rcases hAj.mp ht with rfl|zt
   ·exact(h.hd s zs).1
   ·exact RR.ne h.tl zs zt e
theorem RR.self(h:RR k)(hs:s∈k):s.testBit s.log2=true:=hBo (h.nz s hs)
theorem RR.nd(h:RR k):k.Nodup:=by
 have:∀ {k:List Nat},RR k->k.Nodup:=λ{k} h=>by
  induction k with
  |nil=>exact List.nodup_nil
  |cons s k ih =>
   refine hBb.mpr ⟨λz=>?_,ih h.tl⟩;have:=(h.hd s z).1;rw[h.self hA8]at this;cases this
 exact this h
theorem qFo:∀ {k:List Nat} {x i:Nat},RR k->(∀s∈k,x.testBit s.log2=true->s.testBit i=false)->(red1 k x).testBit i=x.testBit i
 |[],_,_,_,_=>rfl
 |s :: k,x,i,h,hx=>by
  show(red1 k (rd1 x s)).testBit i=_;have b1:(rd1 x s).testBit i=x.testBit i:=by
   rw[qCs];cases q:x.testBit s.log2 with
   |false=>simp
   |true=>rw[hx s hA8 q];simp
  rw[qFo h.tl λt ht hb=>?_,b1];refine hx t (hA6 _ ht) ?_;rw[qCs,(h.hd t ht).2]at hb
  simpa using hb
theorem qH0:∀ {k:List Nat} {x:Nat},RR k->∀s∈k,(red1 k x).testBit s.log2=false
 |[],_,_,_,hs=>by cases hs
 |a :: k,x,h,s,hs=>by
  show(red1 k (rd1 x a)).testBit s.log2=false;rcases hAj.mp hs with rfl|z
  ·rw[qFo h.tl λt ht _=>(h.hd t ht).1,qCs,h.self hA8];cases x.testBit s.log2 <;> rfl
  ·exact qH0 h.tl s z
theorem qPq:∀ {k:List Nat},RR k->∀s∈k,red1 k s=0
 |[],_,_,hs=>by cases hs
 |a :: k,h,s,hs=>by
  show red1 k (rd1 s a)=0;rcases hAj.mp hs with rfl|z
  ·have:rd1 s s=0:=by unfold rd1;rw[hEk (h.self hA8),hBv]
   rw[this];exact qEk k
  ·have:rd1 s a=s:=by unfold rd1;rw[hEj (by rw[(h.hd s z).1];decide)]
   rw[this];exact qPq h.tl s z
theorem qS8(h:RR k)(hx:∀s∈k,x.testBit s.log2=false):red1 k x=x :=
 hAh λi=>qFo h λs hs z=>by rw[hx s hs]at z;cases z
inductive Spn (l:List Nat):Nat->Prop
 |zero:Spn l 0
 |add {x y:Nat}:x∈l->Spn l y->Spn l (x^^^y)
theorem Spn.mem(h:x∈l):Spn l x:=by
 have:=Spn.add h Spn.zero
 rwa [hEd]at this
theorem Spn.xor(h:Spn l x)(h':Spn l y):Spn l (x^^^y):=by
 induction h with
 |zero=>rwa [hBy]
 |add m _ ih=>rw[hBe];exact .add m ih
theorem Spn.mono(h:∀x∈l,Spn l' x)(hy:Spn l y):Spn l' y:=by
 induction hy with
 |zero=>exact .zero
 |add m _ ih=>exact(h _ m).xor ih
theorem Spn.lt(h:∀x∈l,x<2^m)(hy:Spn l y):y<2^m:=by
 induction hy with
 |zero=>exact Nat.pow_pos (by decide)
 |add hm _ ih=>exact hCg (h _ hm) ih
theorem qAy(x y:Nat):(x^^^y)^^^y=x:=by rw[hBe,hBv,hEd]
theorem zAw(hs:s∈k):Spn k (rd1 x s^^^x):=by
 unfold rd1;split
 ·rw[hCl x s,qAy];exact .mem hs
 ·rw[hBv];exact .zero
theorem qEu(k:List Nat):∀(k':List Nat),(∀s∈k',s∈k)->∀x,Spn k (red1 k' x^^^x)
 |[],_,x=>by show Spn k (x^^^x);rw[hBv];exact .zero
 |s :: k',h,x=>by
  have a:=qEu k k' (λt ht=>h t (hA6 _ ht)) (rd1 x s);have b:=zAw (x:=x) (h s hA8);have c:=a.xor b;rw[<-hBe,qAy]at c;exact c
theorem qG8(h:RR k)(hy:Spn k y):red1 k y=0:=by
 induction hy with
 |zero=>exact qEk k
 |add m _ ih=>rw[qKa,qPq h _ m,ih];rfl
theorem qO0(h:RR k)(hy:Spn k y)(hx:∀s∈k,y.testBit s.log2=false):y=0:=(qS8 h hx).symm.trans (qG8 h hy)
theorem qJr{k:List Nat}(h:RR k){y:Nat}(hy:Spn k y)(nz:y≠0):∃s∈k,s.log2=y.log2:=by
 refine hC0 λno=>?_
 have e:(red1 k y).testBit y.log2=y.testBit y.log2:=qFo h λs hs hb=>by
  have le:=zAa hb;have ne:s.log2≠y.log2:=λz=>no ⟨s,hs,z⟩
  exact qOy vG
 rw[qG8 h hy,hBo nz]at e;simp at e
theorem qFa(ha:RR a)(hb:RR b)(h:∀y,Spn a y↔Spn b y):∀s∈a,s∈b:=λs hs=>by
 obtain⟨t,ht,e⟩:=qJr hb ((h s).mp (.mem hs)) (ha.nz s hs);have d:s^^^t=0:=by
  refine qO0 ha ((Spn.mem hs).xor ((h t).mpr (.mem ht))) λu hu=>?_
  rw[hAn];by_cases z:u=s
  ·subst z;have h2:=hb.self ht;rw[e]at h2;rw[ha.self hs,h2];rfl
  ·have s1:=ha.ne hs hu (λw=>z w.symm);obtain⟨v,hv,ev⟩:=qJr hb ((h u).mp (.mem hu)) (ha.nz u hu);have us:=ha.ne hu hs z;have vt:t≠v:=λw=>by
    have h3:=ha.self hu;rw[<-ev,<-w,e]at h3;rw[h3]at us;cases us
   have t1:=hb.ne ht hv vt;rw[ev]at t1;rw[s1,t1];rfl
 have:s=t:=by
  have q:=qAy s t;rw[d,hBy]at q;exact q.symm
 rw[this];exact ht
noncomputable def qRf(k:List Nat)(x:Nat):List Nat:=if red1 k x=0 then k else k.map (λs=>rd1 s (red1 k x))++[red1 k x]
def red(xs:List Nat):List Nat:=xs.foldl qRf []
theorem qEt(xs:List Nat)(x:Nat):red (xs++[x])=qRf (red xs) x:=by unfold red;rw[hBt];rfl
theorem qPr{s f:Nat}(hs:s≠0)(hf:f≠0)(h:f.testBit s.log2=false):(rd1 s f).log2=s.log2/\rd1 s f≠0:=by
 have ss:=hBo hs;have bit:(rd1 s f).testBit s.log2=true:=by rw[qCs,ss,h];simp
 refine⟨qT4 bit ?_,λz=>by rw[z]at bit;simp at bit⟩;unfold rd1;split
 ·rename_i q;have le:=zAa q;exact hCg hDm (hAo hDm (hBd (by decide) vG))
 ·exact hDm
theorem RR.step(h:RR k)(x:Nat):RR (qRf k x):=by
 unfold qRf;by_cases z:red1 k x=0
 ·rw[hEk z];exact h
 rw[hEj z];have ld:=λs hs=>qH0 (x:=x) h s hs
 generalize red1 k x=f at z ld;have l2:∀s∈k,(rd1 s f).log2=s.log2/\rd1 s f≠0:=λs hs=>qPr (h.nz s hs) z (ld s hs)
 have ff:=hBo z;refine⟨λs hs=>?_,?_⟩
 ·rcases hAb.mp hs with w|w
  ·obtain⟨u,hu,rfl⟩:=hAe.mp w;exact(l2 u hu).2
  ·rw[hA3]at w;rw[w];exact z
 ·rw[hBh];refine⟨?_,hBz _ _,λa ha b hb=>?_⟩
  ·rw[hBp];refine hBx (λ{a b} ha hb r=>?_) h.ap;rw[(l2 a ha).1,(l2 b hb).1,qCs,qCs,r.1,r.2,ld a ha,ld b hb];simp
  ·rw[hA3]at hb;obtain⟨u,hu,rfl⟩:=hAe.mp ha;subst hb;refine⟨by rw[(l2 u hu).1];exact ld u hu,?_⟩;rw[qCs,ff];cases u.testBit b.log2 <;> rfl
theorem qW2(x y:Nat):Spn (qRf k x) y↔Spn (k++[x]) y:=by
 have rx:=qEu k k (λ_ h=>h) x;unfold qRf;have inl:∀ {z},Spn k z->Spn (k++[x]) z:=λ{z} hz=>hz.mono λu hu=>.mem (hAg _ hu)
 have xm:Spn (k++[x]) x:=.mem vI;by_cases z:red1 k x=0
 ·rw[hEk z];rw[z,hBy]at rx;refine⟨inl,λh=>h.mono λu hu=>?_⟩;rcases hAb.mp hu with w|w
  ·exact .mem w
  ·rw[hA3]at w;rw[w];exact rx
 rw[hEj z];have fm:Spn (k++[x]) (red1 k x):=by
  have:=(inl rx).xor xm
  rwa [qAy]at this
 revert rx fm;generalize red1 k x=f;intro rx fm;have ff:Spn (k.map (λs=>rd1 s f)++[f]) f:=.mem vI;have sk:∀s∈k,Spn (k.map (λs=>rd1 s f)++[f]) s:=λs hs=>by
  have a:Spn (k.map (λs=>rd1 s f)++[f]) (rd1 s f):=.mem (hAg _ (hAu (f:=λs=>rd1 s f) hs));by_cases q:s.testBit f.log2=true
  ·have b:=a.xor ff;rw[show rd1 s f=s^^^f from hEk q,qAy]at b;exact b
  ·rw[show rd1 s f=s from hEj q]at a;exact a
 constructor
 ·intro h;refine h.mono λu hu=>?_
  rcases hAb.mp hu with w|w
  ·obtain⟨s,hs,rfl⟩:=hAe.mp w;unfold rd1;split
   ·exact(inl (.mem hs)).xor fm
   ·exact inl (.mem hs)
  ·rw[hA3]at w;rw[w];exact fm
 ·intro h;refine h.mono λu hu=>?_
  rcases hAb.mp hu with w|w
  ·exact sk u w
  ·rw[hA3]at w;subst w;have b:=ff.xor (rx.mono sk);rw[<-hBe,hBv,hBy]at b;exact b
theorem qG0{P:List Nat->Prop}(h0:P [])(hs:∀l t,P l->P (l++[t]))(l:List Nat):P l:=by
 have:∀r:List Nat,P r.reverse:=λr=>by
  induction r with
  |nil=>exact h0
  |cons a r ih=>rw[List.reverse_cons];exact hs _ _ ih
 have q:=this l.reverse
 rwa [List.reverse_reverse]at q
theorem qB1(xs:List Nat):RR (red xs):=qG0 (P:=λxs=>RR (red xs)) RR.nil (λl t ih=>by rw[qEt];exact ih.step t) xs
theorem qBj(xs:List Nat):∀y,Spn (red xs) y↔Spn xs y:=by
 refine qG0 (P:=λxs=>∀y,Spn (red xs) y↔Spn xs y) (λy=>Iff.rfl) (λl t ih y=>?_) xs;rw[qEt,qW2];constructor
 ·exact λh=>h.mono λu hu=>by
   rcases hAb.mp hu with w|w
   ·exact((ih u).mp (.mem w)).mono λv hv=>.mem (hAg _ hv)
   ·exact .mem (hA7 _ w)
 ·exact λh=>h.mono λu hu=>by
   rcases hAb.mp hu with w|w
   ·exact((ih u).mpr (.mem w)).mono λv hv=>.mem (hAg _ hv)
   ·exact .mem (hA7 _ w)
theorem qS7(h:∀x∈xs,x<2^m):∀s∈red xs,s<2^m:=λs hs=>Spn.lt h ((qBj xs s).mp (.mem hs))
def Fsh(xs:List Nat):Prop:=∀i x,xs[i]?=some x->∃j,x.testBit j=true/\∀y∈xs.take i,y.testBit j=false
theorem qJs(h:∀x∈l,x.testBit j=false)(hy:Spn l y):y.testBit j=false:=by
 induction hy with
 |zero=>simp
 |add m _ ih=>rw[hAn,h _ m,ih];rfl
noncomputable def xsum:Nat->(Nat->Bool)->Bool
 |0,_=>false
 |m+1,f=>xsum m f ^^ f m
theorem qBc:∀ {m:Nat},(∀j,j<m->f j=g j)->xsum m f=xsum m g
 |0,_=>rfl
 |m+1,h=>by unfold xsum;rw[qBc λj hj=>h j vG,h m vG]
theorem qG6(f g:Nat->Bool):∀m:Nat,xsum m (λj=>f j ^^ g j)=(xsum m f ^^ xsum m g)
 |0=>rfl
 |m+1=>by
  unfold xsum;rw[qG6 f g m];show((xsum m f ^^ xsum m g) ^^ (f m ^^ g m))=_;cases xsum m f <;> cases xsum m g <;> cases f m <;> cases g m <;> rfl
theorem qC1:∀m:Nat,xsum m (λ_=>false)=false
 |0=>rfl
 |m+1=>by unfold xsum;rw[qC1 m];rfl
theorem qG7:∀ {m:Nat},(∀j,j<m->j≠l->f j=false)->xsum m f=(decide (l<m) && f l)
 |0,_=>by simp[xsum]
 |m+1,h=>by
  unfold xsum;rw[qG7 (m:=m) λj hj=>h j vG];by_cases e:l=m
  ·subst e;simp
  ·have n:=h m vG (λz=>e z.symm);rw[n];have:decide (l<m)=decide (l<m+1):=by
    by_cases q:l<m
    ·rw[hEf q,hEf vG]
    ·rw[hEg q,hEg vG]
   rw[this];simp
theorem qK8(f:Nat->Bool):∀m:Nat,xsum (m+1) f=(f 0 ^^ xsum m λj=>f (j+1))
 |0=>by simp[xsum]
 |m+1=>by
  rw[xsum,qK8 f m,xsum];cases f 0 <;> cases xsum m (λj=>f (j+1)) <;> cases f (m+1) <;> rfl
theorem qOv(f:Nat->Bool):∀m:Nat,xsum m (λj=>f (m-1-j))=xsum m f
 |0=>rfl
 |m+1=>by
  rw[qK8];have:xsum m (λj=>f (m+1-1-(j+1)))=xsum m λj=>f (m-1-j):=qBc λj hj=>by
   rw[show m+1-1-(j+1)=m-1-j by omega]
  rw[this,qOv f m];show(f m ^^ xsum m f)=(xsum m f ^^ f m);cases f m <;> cases xsum m f <;> rfl
noncomputable def dot(m x y:Nat):Bool:=xsum m λj=>x.testBit j && y.testBit j
theorem qX4(m x x' y:Nat):dot m (x^^^x') y=(dot m x y ^^ dot m x' y):=by
 unfold dot;rw[<-qG6];refine qBc λj _=>?_
 rw[hAn];cases x.testBit j <;> cases x'.testBit j <;> cases y.testBit j <;> rfl
theorem qUz(m x y y':Nat):dot m x (y^^^y')=(dot m x y ^^ dot m x y'):=by
 unfold dot;rw[<-qG6];refine qBc λj _=>?_
 rw[hAn];cases x.testBit j <;> cases y.testBit j <;> cases y'.testBit j <;> rfl
theorem qX3(m y:Nat):dot m 0 y=false:=by
 unfold dot;rw[qBc (g:=λ_=>false) λj _=>by simp,qC1]
theorem qUy(m y:Nat):dot m y 0=false:=by
 unfold dot;rw[qBc (g:=λ_=>false) λj _=>by simp,qC1]
theorem zCw(hp:p<m):dot m (2^p) y=y.testBit p:=by
 unfold dot;rw[qG7 (l:=p) λj _ ne=>by rw[hAi,hEg (λz=>ne z.symm)];rfl];rw[hAi];simp[hp]
theorem zAe(h:∀s∈l,dot m y s=false)(hz:Spn l z):dot m y z=false:=by
 induction hz with
 |zero=>exact qUy m y
 |add hm _ ih=>rw[qUz,h _ hm,ih];rfl
theorem qOs:∀(l x:Nat),x.testBit l=false->2^l+x=2^l^^^x
 |0,x,h=>by
  have e:x % 2=0:=by
   rw[hB5]at h;have:=hFb h;omega
  show 1+x=1^^^x;rw[hCl,qGr e,Nat.add_comm]
 |l+1,x,h=>by
  rw[hCn]at h;have ih:=qOs l (x / 2) h;have d:(2^(l+1)^^^x) / 2=2^l+x / 2:=by
   rw[Nat.xor_div_two,ih,hD7,Nat.mul_div_cancel _ (by decide)]
  have b:(2^(l+1)^^^x).testBit 0=x.testBit 0:=by rw[hAn,hAi];simp
  rw[hB5,hB5]at b;have b':(2^(l+1)^^^x) % 2=1↔x % 2=1:=by simpa using b
  have p:=hD7 (n:=2) (m:=l);rcases hC6 x with q|q
  ·have:¬(2^(l+1)^^^x) % 2=1:=λz=>by have:=b'.mp z;omega
   omega
  ·have:=b'.mpr q;omega
theorem qE7:∀(L:List Nat),L.Nodup->∀j,((L.map λl=>2^l).sum).testBit j=decide (j∈L)
 |[],_,j=>by simp
 |l :: L,nd,j=>by
  obtain⟨n1,n2⟩:=hBb.mp nd;have ih:=qE7 L n2;rw[hBm,hCy,qOs l _ (by rw[ih l,hEg n1]),hAn,ih j,hAi];by_cases e:l=j
  ·subst e;simp[n1]
  ·have e':¬j=l:=λz=>e z.symm
   simp[e,e']
noncomputable def crM(S:List Nat)(p:Nat):Nat:=2^p+((S.filter λs:Nat=>s.testBit p).map λs:Nat=>2^s.log2).sum
def zG4(S:List Nat)(p:Nat):Prop:=∃s∈S,s.log2=p
instance (S:List Nat):DecidablePred (zG4 S):=λp=>inferInstanceAs (Decidable (∃s∈S,s.log2=p))
theorem qXr:∀ {S:List Nat},RR S->(S.map Nat.log2).Nodup
 |[],_=>List.nodup_nil
 |s :: S,h=>by
  rw[hBm];refine hBb.mpr ⟨λz=>?_,qXr h.tl⟩;obtain⟨t,ht,e⟩:=hAe.mp z;have a:=(h.hd t ht).1;rw[<-e,h.self (hA6 _ ht)]at a;cases a
noncomputable def zFd(S:List Nat)(m:Nat):List Nat:=((List.range m).filter λp=>!decide (zG4 S p)).map (crM S)
noncomputable def xl(L:List Nat):Nat:=L.foldr (·^^^·) 0
end My
namespace My
open PySem
theorem qVv:∀(n a b:Nat),a<n->a+b=(a^^^b)+2*(a&&&b)
 |0,_,_,h=>absurd h (hCe _)
 |n+1,a,b,h=>by
  by_cases a0:a=0
  ·subst a0;simp
  have ih:=qVv n (a / 2) (b / 2) vG;have d1:(a^^^b) / 2=a / 2^^^b / 2:=Nat.xor_div_two;have d2:(a&&&b) / 2=a / 2&&&b / 2:=Nat.and_div_two;have b1:(a^^^b).testBit 0=(a.testBit 0 ^^ b.testBit 0):=hAn ..;have b2:(a&&&b).testBit 0=(a.testBit 0 && b.testBit 0):=hAr ..;rw[hB5,hB5,hB5]at b1 b2;rw[<-d1,<-d2]at ih;generalize a^^^b=X at b1 ih ⊢;generalize a&&&b=Y at b2 ih ⊢;rcases hC6 a with p|p <;> rcases hC6 b with q|q <;> rw[p,q]at b1 b2 <;> simp at b1 b2 <;> omega
theorem qCl(a b:Nat):Builtin.bitAnd (a:Int) (b:Int)=((a&&&b:Nat):Int):=by
 unfold Builtin.bitAnd;rw[hEf (hD9 a),hEf (hD9 b)];simp
theorem qCk(a b:Nat):Builtin.bitXor (a:Int) (b:Int)=((a^^^b:Nat):Int):=by
 have e:=qVv (a+1) a b (hC8 a);have h:Builtin.bitXor (a:Int) (b:Int)=(a:Int)+b-2*Builtin.bitAnd a b:=by
  have x:∀x y:Int,Builtin.bitNot (Builtin.bitNot x)=x:=λx y=>by unfold Builtin.bitNot;omega
  unfold Builtin.bitXor Builtin.bitOr;have na:¬(0:Int)<=Builtin.bitNot (a:Int):=by unfold Builtin.bitNot;omega
  have nb:¬(0:Int)<=Builtin.bitNot (b:Int):=by unfold Builtin.bitNot;omega
  have o:Builtin.bitAnd (Builtin.bitNot (a:Int)) (Builtin.bitNot (b:Int))=Builtin.bitNot ((a ||| b:Nat):Int):=by
   unfold Builtin.bitAnd;rw[hEg na,hEg nb];show Builtin.bitNot _=_;rw[x a 0,x b 0];simp
  rw[o,x _ 0,qCl];have e2:(a ||| b)+(a&&&b)=a+b:=by
   have:=qQ2 (a+1) a b (hC8 a);omega
  omega
 rw[h,qCl];omega
where
 qQ2:∀(n a b:Nat),a<n->(a ||| b)+(a&&&b)=a+b
 |0,_,_,h=>absurd h (hCe _)
 |n+1,a,b,h=>by
  by_cases a0:a=0
  ·subst a0;simp
  have ih:=qQ2 n (a / 2) (b / 2) vG;have d1:(a ||| b) / 2=a / 2 ||| b / 2:=Nat.or_div_two
  have d2:(a&&&b) / 2=a / 2&&&b / 2:=Nat.and_div_two;have b1:(a ||| b).testBit 0=(a.testBit 0 || b.testBit 0):=hCi ..;have b2:(a&&&b).testBit 0=(a.testBit 0 && b.testBit 0):=hAr ..;rw[hB5,hB5,hB5]at b1 b2;rw[<-d1,<-d2]at ih;generalize a ||| b=X at b1 ih ⊢
  generalize a&&&b=Y at b2 ih ⊢;rcases hC6 a with p|p <;> rcases hC6 b with q|q <;> rw[p,q]at b1 b2 <;> simp at b1 b2 <;> omega
theorem qZl:∀(n f:Nat),f<n->f≠0->∃i,f.testBit i=true/\∀j,j<i->f.testBit j=false
 |0,_,h,_=>absurd h (hCe _)
 |n+1,f,h,nz=>by
  rcases hC6 f with p|p
  ·obtain⟨i,h1,h2⟩:=qZl n (f / 2) vG vG;refine⟨i+1,by rw[hCn];exact h1,λj hj=>?_⟩;cases j with
   |zero=>rw[hB5,p];rfl
   |succ j=>rw[hCn];exact h2 j vG
  ·exact⟨0,by rw[hB5,p];rfl,λj hj=>absurd hj (hCe _)⟩
noncomputable def lo(f:Nat):Nat:=Classical.epsilon λi=>f.testBit i=true/\∀j,j<i->f.testBit j=false
theorem qGk(h:f≠0):f.testBit (lo f)=true/\∀j,j<lo f->f.testBit j=false :=
 Classical.epsilon_spec (qZl (f+1) f (hC8 _) h)
theorem qKd:∀(i f:Nat),f.testBit i=true->(∀j,j<i->f.testBit j=false)->∀j,(f-1).testBit j=(decide (j<i) || (decide (i<j) && f.testBit j))
 |0,f,h1,_,j=>by
  rw[hB5]at h1;have p:=hEi h1;cases j with
  |zero=>rw[hB5];simp;omega
  |succ j=>rw[hCn,hCn,show(f-1) / 2=f / 2 by omega];simp
 |i+1,f,h1,h2,j=>by
  have z:=h2 0 vG;rw[hB5]at z;have p:=hFb z;rw[hCn]at h1;have nz:f / 2≠0:=λw=>by rw[w]at h1;simp at h1
  cases j with
  |zero=>rw[hB5];simp;omega
  |succ j =>
   rw[hCn,hCn,show(f-1) / 2=f / 2-1 by omega,qKd i (f / 2) h1 (λk hk=>by have:=h2 (k+1) vG;rwa [hCn]at this) j];simp
theorem qP5(e:Nat){f:Nat}(nz:f≠0):Builtin.bitAnd (Builtin.bitAnd (e:Int) (f:Int)) (-(f:Int))≠0↔e.testBit (lo f)=true:=by
 obtain⟨h1,h2⟩:=qGk nz;rw[qCl];have ev:Builtin.bitAnd (((e&&&f:Nat)):Int) (-(f:Int))=((e&&&f:Nat):Int)-(((e&&&f)&&&(f-1):Nat):Int):=by
  unfold Builtin.bitAnd;rw[hEf (hD9 _),hEg (by omega:¬(0:Int)<=-(f:Int))];show((e&&&f:Nat):Int)-(((((e&&&f:Nat):Int).toNat)&&&(Builtin.bitNot (-(f:Int))).toNat:Nat):Int)=_;rw[show(Builtin.bitNot (-(f:Int))).toNat=f-1 by unfold Builtin.bitNot;omega,hB7]
 rw[ev];have pb:=qKd (lo f) f h1 h2;constructor
 ·intro ne;cases q:e.testBit (lo f) with
  |true=>rfl
  |false =>
   refine absurd ?_ ne;have:(e&&&f)&&&(f-1)=e&&&f:=by
    refine hAh λj=>?_
    rw[hAr,hAr,pb j];rcases Nat.lt_trichotomy j (lo f) with z|z|z
    ·rw[h2 j z];simp
    ·subst z;rw[q];simp
    ·simp[z];exact λ_ h=>.inr h
   rw[this];omega
 ·intro q ne;have this:(e&&&f)&&&(f-1)=e&&&f:=by omega
  have b:=congrArg (λx:Nat=>x.testBit (lo f)) this;simp only[hAr,pb,q,h1]at b;simp at b
theorem qOa{f:Nat}(nz:f≠0):Builtin.bitAnd (f:Int) (-(f:Int))=((2^lo f:Nat):Int):=by
 obtain⟨h1,h2⟩:=qGk nz;have ev:Builtin.bitAnd (f:Int) (-(f:Int))=(f:Int)-((f&&&(f-1):Nat):Int):=by
  unfold Builtin.bitAnd;rw[hEf (hD9 _),hEg (by omega:¬(0:Int)<=-(f:Int))];show(f:Int)-((((f:Int).toNat)&&&(Builtin.bitNot (-(f:Int))).toNat:Nat):Int)=_;rw[show(Builtin.bitNot (-(f:Int))).toNat=f-1 by unfold Builtin.bitNot;omega,hB7]
 rw[ev];have pb:=qKd (lo f) f h1 h2;have e:f=2^lo f+(f&&&(f-1)):=by
  rw[qOs _ _ (by rw[hAr,pb];simp)];refine hAh λj=>?_
  rw[hAn,hAi,hAr,pb j];rcases Nat.lt_trichotomy j (lo f) with z|z|z
  ·have:¬lo f=j:=by omega
   rw[h2 j z];simp[this]
  ·subst z;rw[h1];simp
  ·have n1:¬lo f=j:=by omega
   simp[z,n1];exact λh=>.inr h
 omega
theorem qOr(x p:Nat):x&&&2^p≠0↔x.testBit p=true:=by
 constructor
 ·intro ne;cases q:x.testBit p with
  |true=>rfl
  |false =>
   refine absurd (hAh λj=>?_) ne;rw[hAr,hAi,hB0];by_cases e:p=j
   ·subst e;rw[q];rfl
   ·simp[e]
 ·intro q z;have:=congrArg (λx:Nat=>x.testBit p) z;simp[hAr,q]at this
noncomputable def rv(m x:Nat):Nat:=((((List.range m).filter λi=>x.testBit i).map λi=>m-1-i).map λl=>2^l).sum
theorem qB4(m x j:Nat):(rv m x).testBit j=(decide (j<m) && x.testBit (m-1-j)):=by
 have nd:(((List.range m).filter λi=>x.testBit i).map λi=>m-1-i).Nodup:=by
  have h:((List.range m).filter λi=>x.testBit i).Pairwise λa b=>m-1-a≠m-1-b:=by
   have:(List.range m).Pairwise λa b=>a≠b:=hDn
   refine hBx (λ{a b} ha hb ne=>?_) (this.sublist hCa);have a1:=hAv.mp (hAd.mp ha).1;have b1:=hAv.mp (hAd.mp hb).1;omega
  rw[List.Nodup,hBp];exact h
 unfold rv;rw[qE7 _ nd];by_cases hj:j<m
 ·rw[hEf hj,hBw];cases q:x.testBit (m-1-j) with
  |true=>exact hEf (hAe.mpr ⟨m-1-j,hAd.mpr ⟨hAv.mpr vG,q⟩,by omega⟩)
  |false =>
   refine hEg λz=>?_
   obtain⟨i,hi,e⟩:=hAe.mp z;obtain⟨h1,h2⟩:=hAd.mp hi;have:=hAv.mp h1;rw[show m-1-j=i by omega,h2]at q;cases q
 ·rw[hEg hj,Bool.false_and];refine hEg λz=>?_
  obtain⟨i,hi,e⟩:=hAe.mp z;have:=hAv.mp (hAd.mp hi).1;omega
theorem qLq(m x:Nat):rv m x<2^m:=hB8 _ λi hi=>by rw[qB4,hEg vG];rfl
theorem qSx(m x y:Nat):rv m (x^^^y)=rv m x^^^rv m y:=hAh λj=>by
 rw[hAn,qB4,qB4,qB4,hAn];cases decide (j<m) <;> simp
theorem qJ4(h:x<2^m):rv m (rv m x)=x:=hAh λj=>by
 rw[qB4,qB4];by_cases hj:j<m
 ·rw[hEf hj,hEf vG,show m-1-(m-1-j)=j by omega];rfl
 ·rw[hEg hj,qCo h (Nat.le_of_not_lt hj)];rfl
theorem qHx(m:Nat):rv m 0=0:=hAh λj=>by rw[qB4];simp
theorem zAt(h:x<2^m)(nz:x≠0):rv m x≠0:=λz=>nz (by rw[<-qJ4 h,z,qHx])
theorem zCf(h:x<2^m)(nz:x≠0):lo x<m:=by
 rcases Nat.lt_or_ge (lo x) m with z|z
 ·exact z
 ·have:=(qGk nz).1;rw[qCo h z]at this;cases this
theorem qNs(h:x<2^m)(nz:x≠0):(rv m x).log2=m-1-lo x:=by
 obtain⟨h1,h2⟩:=qGk nz;have l:=zCf h nz;refine qT4 ?_ (hB8 _ λi hi=>?_)
 ·rw[qB4,hEf vG,show m-1-(m-1-lo x)=lo x by omega,h1];rfl
 ·rw[qB4];by_cases q:i<m
  ·rw[h2 (m-1-i) vG];simp
  ·rw[hEg q];rfl
noncomputable def rdL(x s:Nat):Nat:=if x.testBit (lo s)=true then x^^^s else x
theorem qSy(hs:s<2^m)(nz:s≠0):rv m (rdL x s)=rd1 (rv m x) (rv m s):=by
 have l:=zCf hs nz;unfold rdL rd1;have b:(rv m x).testBit (rv m s).log2=x.testBit (lo s):=by
  rw[qNs hs nz,qB4,hEf vG,show m-1-(m-1-lo s)=lo s by omega];rfl
 rw[b];split
 ·exact qSx m x s
 ·rfl
theorem qY6(hx:x<2^m)(hs:s<2^m):rdL x s<2^m:=by
 unfold rdL;split
 ·exact hCg hx hs
 ·exact hx
noncomputable def redL1(k:List Nat)(x:Nat):Nat:=k.foldl rdL x
def Gm(m:Nat)(k:List Nat):Prop:=∀s∈k,s<2^m/\s≠0
theorem qPp:∀ {k:List Nat} {x:Nat},Gm m k->x<2^m->redL1 k x<2^m/\rv m (redL1 k x)=red1 (k.map (rv m)) (rv m x)
 |[],x,_,hx=>⟨hx,rfl⟩
 |s :: k,x,h,hx=>by
  obtain⟨h1,h2⟩:=h s hA8;have ih:=qPp (x:=rdL x s) (λt ht=>h t (hA6 _ ht)) (qY6 hx h1);refine⟨ih.1,?_⟩;show rv m (redL1 k (rdL x s))=red1 (k.map (rv m)) (rd1 (rv m x) (rv m s));rw[ih.2,qSy h1 h2]
noncomputable def qNy(k:List Nat)(x:Nat):List Nat:=if redL1 k x=0 then k else k.map (λs=>rdL s (redL1 k x))++[redL1 k x]
noncomputable def redL(xs:List Nat):List Nat:=xs.foldl qNy []
theorem qHz(xs:List Nat)(x:Nat):redL (xs++[x])=qNy (redL xs) x:=by unfold redL;rw[hBt];rfl
theorem qDk(xs:List Nat):(∀x∈xs,x<2^m)->Gm m (redL xs)/\(redL xs).map (rv m)=red (xs.map (rv m)):=by
 refine qG0 (P:=λxs=>(∀x∈xs,x<2^m)->Gm m (redL xs)/\(redL xs).map (rv m)=red (xs.map (rv m))) (λ_=>⟨λs hs=>(by cases hs),rfl⟩) (λl t ih h=>?_) xs;obtain⟨g,e⟩:=ih λx hx=>h x (hAg _ hx)
 have ht:=h t vI;obtain⟨l1,l2⟩:=qPp g ht;have sp:∀s∈redL l,rv m s≠0:=λs hs=>zAt (g s hs).1 (g s hs).2
 rw[hA4,hDb,qEt,qHz,<-e];unfold qNy qRf;rw[<-l2];by_cases z:redL1 (redL l) t=0
 ·rw[hEk z,z,qHx,hEk rfl];exact⟨g,rfl⟩
 ·have z':=zAt l1 z;rw[hEj z,hEj z'];have rr:=qB1 (l.map (rv m));rw[<-e]at rr;refine⟨λs hs=>?_,?_⟩
  ·rcases hAb.mp hs with w|w
   ·obtain⟨u,hu,rfl⟩:=hAe.mp w;refine⟨qY6 (g u hu).1 l1,λq=>?_⟩;have q2:=qSy (x:=u) l1 z;rw[q,qHx]at q2;have ld:=qH0 (x:=rv m t) rr (rv m u) (hAu hu);rw[<-l2]at ld;exact(qPr (sp u hu) z' ld).2 q2.symm
   ·rw[hA3]at w;rw[w];exact⟨l1,z⟩
  ·rw[hA4,hDb,hB6,hB6];congr 1;refine hBg λs hs=>?_
   exact qSy l1 z
noncomputable def bd(V:Nat->Nat):Nat->Nat->Nat
 |0,_=>0
 |m+1,y=>bd V m y^^^(if y.testBit m=true then V m else 0)
theorem qDw(V:Nat->Nat):∀(m x y:Nat),bd V m (x^^^y)=bd V m x^^^bd V m y
 |0,_,_=>by simp[bd]
 |m+1,x,y=>by
  show bd V m (x^^^y)^^^_=(bd V m x^^^_)^^^(bd V m y^^^_);rw[qDw V m x y,hAn];refine hAh λj=>?_
  simp only[hAn];cases x.testBit m <;> cases y.testBit m <;> simp[hAn] <;> cases(bd V m x).testBit j <;> cases(bd V m y).testBit j <;> cases(V m).testBit j <;> rfl
theorem qGp(V:Nat->Nat):∀m:Nat,bd V m 0=0
 |0=>rfl
 |m+1=>by show bd V m 0^^^_=0;rw[qGp V m];simp
theorem qQz(V:Nat->Nat)(q:Nat):∀m y:Nat,(bd V m y).testBit q=xsum m λi=>y.testBit i && (V i).testBit q
 |0,_=>by simp[bd,xsum]
 |m+1,y=>by
  show(bd V m y^^^_).testBit q=(xsum m _ ^^ (y.testBit m && (V m).testBit q));rw[hAn,qQz V q m y];cases y.testBit m <;> simp
theorem qQy(hp:p<m):bd V m (2^p)=V p:=by
 refine hAh λq=>?_
 rw[qQz,qG7 (l:=p) λj _ ne=>by rw[hAi,hEg (λz=>ne z.symm)];rfl,hAi];simp[hp]
noncomputable def el1(v f:Nat×Nat):Nat×Nat:=if v.1.testBit (lo f.1)=true then (v.1^^^f.1,v.2^^^f.2) else v
noncomputable def el(k:List (Nat×Nat))(v:Nat×Nat):Nat×Nat:=k.foldl el1 v
abbrev Ech(k:List (Nat×Nat)):Prop:=k.Pairwise λa b=>b.1.testBit (lo a.1)=false
theorem qUs:∀ {k:List (Nat×Nat)} {v:Nat×Nat} {i:Nat},(∀f∈k,f.1.testBit i=false)->(el k v).1.testBit i=v.1.testBit i
 |[],_,_,_=>rfl
 |f :: k,v,i,h=>by
  show(el k (el1 v f)).1.testBit i=_;rw[qUs λg hg=>h g (hA6 _ hg)];unfold el1;split
  ·show(v.1^^^f.1).testBit i=_;rw[hAn,h f hA8];simp
  ·rfl
theorem qZt:∀ {k:List (Nat×Nat)} {v:Nat×Nat},Ech k->(∀f∈k,f.1≠0)->∀f∈k,(el k v).1.testBit (lo f.1)=false
 |[],_,_,_,_,h=>by cases h
 |g :: k,v,e,nz,f,hf=>by
  obtain⟨e1,e2⟩:=hAs.mp e;show(el k (el1 v g)).1.testBit (lo f.1)=false;rcases hAj.mp hf with rfl|z
  ·rw[qUs λh hh=>e1 h hh];unfold el1;cases q:v.1.testBit (lo f.1) with
   |true =>
    rw[hEk rfl];show(v.1^^^f.1).testBit _=false;rw[hAn,q,(qGk (nz f hA8)).1];rfl
   |false=>rw[hEj (by decide)];exact q
  ·exact qZt e2 (λh hh=>nz h (hA6 _ hh)) f z
theorem qZs(V:Nat->Nat)(m:Nat)(K:List (Nat×Nat)):∀ {k:List (Nat×Nat)} {v:Nat×Nat},(∀f∈k,f∈K/\f.1=bd V m f.2)->v.1=bd V m v.2->(el k v).1=bd V m (el k v).2/\Spn (K.map (·.2)) ((el k v).2^^^v.2)
 |[],v,_,hv=>⟨hv,by show Spn _ (v.2^^^v.2);rw[hBv];exact .zero⟩
 |f :: k,v,h,hv=>by
  have h1:(el1 v f).1=bd V m (el1 v f).2:=by
   unfold el1;split
   ·show v.1^^^f.1=bd V m (v.2^^^f.2);rw[qDw,<-hv,<-(h f hA8).2]
   ·exact hv
  have h2:Spn (K.map (·.2)) ((el1 v f).2^^^v.2):=by
   unfold el1;split
   ·show Spn _ ((v.2^^^f.2)^^^v.2);rw[hCl v.2 f.2,qAy];exact .mem (hAu (h f hA8).1)
   ·rw[hBv];exact .zero
  obtain⟨a,b⟩:=qZs V m K (k:=k) (λg hg=>h g (hA6 _ hg)) h1;refine⟨a,?_⟩;have c:=b.xor h2;rw[<-hBe,qAy]at c;exact c
theorem qV9(h:Spn (a :: l) y):Spn l y\/Spn l (a^^^y):=by
 induction h with
 |zero=>exact .inl .zero
 |add m _ ih =>
  rename_i x y _;rcases hAj.mp m with rfl|z
  ·rcases ih with ih|ih
   ·refine .inr ?_;rw[<-hBe,hBv,hBy];exact ih
   ·exact .inl ih
  ·rcases ih with ih|ih
   ·exact .inl (.add z ih)
   ·refine .inr ?_;have:=Spn.add z ih;rw[<-hBe,hCl x a,hBe]at this;exact this
theorem qGb(h:Spn (l++l') y):∃a b,Spn l a/\Spn l' b/\y=a^^^b:=by
 induction h with
 |zero=>exact⟨0,0,.zero,.zero,rfl⟩
 |add m _ ih =>
  obtain⟨a,b,ha,hb,rfl⟩:=ih;rename_i x _;rcases hAb.mp m with z|z
  ·exact⟨x^^^a,b,.add z ha,hb,by rw[hBe]⟩
  ·exact⟨a,x^^^b,ha,.add z hb,by rw[<-hBe,<-hBe,hCl x a]⟩
theorem zDl(V:Nat->Nat)(m:Nat){k:List (Nat×Nat)}(h:∀f∈k,f.1=bd V m f.2){y:Nat}(hy:Spn (k.map (·.2)) y):Spn (k.map (·.1)) (bd V m y):=by
 induction hy with
 |zero=>rw[qGp];exact .zero
 |add hm _ ih =>
  obtain⟨f,hf,rfl⟩:=hAe.mp hm;rw[qDw,<-h f hf];exact .add (hAu hf) ih
theorem qK0(V:Nat->Nat)(m:Nat):∀ {k:List (Nat×Nat)},Ech k->(∀f∈k,f.1≠0/\f.1=bd V m f.2)->∀ {y:Nat},Spn (k.map (·.2)) y->(∀f∈k,(bd V m y).testBit (lo f.1)=false)->y=0
 |[],_,_,y,hy,_=>by
  cases hy with
  |zero=>rfl
  |add m _=>cases m
 |f :: k,e,h,y,hy,hb=>by
  obtain⟨e1,e2⟩:=hAs.mp e;obtain⟨f1,f2⟩:=h f hA8;have hk:=λg hg=>h g (hA6 _ hg)
  rw[hBm]at hy;rcases qV9 hy with z|z
  ·exact qK0 V m e2 hk z λg hg=>hb g (hA6 _ hg)
  ·have b:=qJs (j:=lo f.1) (λx hx=>by
    obtain⟨g,hg,rfl⟩:=hAe.mp hx;exact e1 g hg) (zDl V m (λg hg=>(hk g hg).2) z)
   rw[qDw,<-f2,hAn,(qGk f1).1,hb f hA8]at b;cases b
structure EIv(V:Nat->Nat)(m j:Nat)(K:List (Nat×Nat))(F:List Nat):Prop where
 k1:∀f∈K,f.1≠0/\f.1=bd V m f.2
 kl:∀f∈K,f.2<2^j
 k2:Ech K
 f1:∀y∈F,y<2^j/\bd V m y=0
 cov:∀y,y<2^j->Spn (F++K.map (·.2)) y
 len:F.length+K.length=j
 fsh:Fsh F
theorem EIv.start(V:Nat->Nat)(m:Nat):EIv V m 0 [] []:=⟨λf h=>(by cases h),λf h=>(by cases h),.nil,λy h=>(by cases h),λy hy=>by
 have:y=0:=by omega
 subst this;exact .zero,rfl,λi x h=>(by cases h)⟩
theorem EIv.run(h:EIv V m j K F)(hj:j<m) :
  (el K (V j,2^j)).1=bd V m (el K (V j,2^j)).2/\Spn (K.map (·.2)) ((el K (V j,2^j)).2^^^2^j)/\(el K (V j,2^j)).2<2^(j+1)/\(el K (V j,2^j)).2.testBit j=true/\∀f∈K,(el K (V j,2^j)).1.testBit (lo f.1)=false:=by
 obtain⟨a,b⟩:=qZs V m K (k:=K) (v:=(V j,2^j)) (λf hf=>⟨hf,(h.k1 f hf).2⟩) (by show V j=bd V m (2^j);rw[qQy hj]);have c:(el K (V j,2^j)).2^^^2^j<2^j:=Spn.lt (λx hx=>by
  obtain⟨f,hf,rfl⟩:=hAe.mp hx;exact h.kl f hf) b
 have d:((el K (V j,2^j)).2^^^2^j)^^^2^j=(el K (V j,2^j)).2:=qAy _ _;have p:2^j<2^(j+1):=hCb (by decide) vG;refine⟨a,b,?_,?_,qZt h.k2 (λf hf=>(h.k1 f hf).1)⟩
 ·rw[<-d];exact hCg vG p
 ·rw[<-d,hAn,hDi c,hAi];simp
theorem Fsh.snoc(h:Fsh F)(hx:x.testBit j=true)(hF:∀y∈F,y<2^j):Fsh (F++[x]):=λi z hz=>by
 by_cases hi:i<F.length
 ·rw[hD4 hi]at hz;obtain⟨l,h1,h2⟩:=h i z hz;exact⟨l,h1,λy hy=>h2 y (by rwa [List.take_append_of_le_length vG]at hy)⟩
 ·have hl:i<(F++[x]).length:=(hAp.mp hz).1;rw[hAf]at hl;have e:i=F.length:=by
   have:i<F.length+1:=hl;omega
  subst e;have ez:x=z:=by simpa using hz
  subst ez;refine⟨j,hx,λy hy=>?_⟩;rw[List.take_append_of_le_length (hA9 _),hA5 (hA9 _)]at hy;exact hDi (hF y hy)
theorem EIv.next(h:EIv V m j K F)(hj:j<m) :
  if (el K (V j,2^j)).1=0 then EIv V m (j+1) K (F++[(el K (V j,2^j)).2]) else EIv V m (j+1) (K++[el K (V j,2^j)]) F:=by
 obtain⟨a,b,c,d,e⟩:=h.run hj;have mono:∀ {x:Nat},x<2^j->x<2^(j+1):=λhx=>Nat.lt_trans hx (hCb (by decide) vG)
 generalize el K (V j,2^j)=r at a b c d e;have big:∀ {l:List Nat},(∀x∈F++K.map (·.2),Spn l x)->Spn l r.2->∀y,y<2^(j+1)->Spn l y:=λ{l} hl hr y hy=>by
  by_cases q:y.testBit j=true
  ·have lt:y^^^r.2<2^j:=by
    refine hB8 _ λi hi=>?_
    rw[hAn];by_cases e2:i=j
    ·subst e2;rw[q,d];rfl
    ·rw[qCo hy vG,qCo c vG];rfl
   have:=((h.cov _ lt).mono hl).xor hr
   rwa [qAy]at this
  ·have lt:y<2^j:=by
    refine hB8 _ λi hi=>?_
    by_cases e2:i=j
    ·subst e2;simpa using q
    ·exact qCo hy vG
   exact(h.cov _ lt).mono hl
 split
 ·rename_i z;refine⟨h.k1,λf hf=>mono (h.kl f hf),h.k2,λy hy=>?_,big (λx hx=>?_) ?_,?_,h.fsh.snoc d λy hy=>(h.f1 y hy).1⟩
  ·rcases hAb.mp hy with w|w
   ·exact⟨mono (h.f1 y w).1,(h.f1 y w).2⟩
   ·rw[hA3]at w;rw[w];exact⟨c,by rw[<-a,z]⟩
  ·refine .mem ?_;rcases hAb.mp hx with w|w
   ·exact hAg _ (hAg _ w)
   ·exact hA7 _ w
  ·exact .mem (hAg _ vI)
  ·rw[hAf];have:=h.len;show F.length+1+K.length=j+1;omega
 ·rename_i z;refine⟨λf hf=>?_,λf hf=>?_,?_,λy hy=>⟨mono (h.f1 y hy).1,(h.f1 y hy).2⟩,big (λx hx=>?_) ?_,?_,h.fsh⟩
  ·rcases hAb.mp hf with w|w
   ·exact h.k1 f w
   ·rw[hA3]at w;rw[w];exact⟨z,a⟩
  ·rcases hAb.mp hf with w|w
   ·exact mono (h.kl f w)
   ·rw[hA3]at w;rw[w];exact c
  ·rw[Ech,hBh];refine⟨h.k2,hBz _ _,λx hx y hy=>?_⟩;rw[hA3]at hy;rw[hy];exact e x hx
  ·refine .mem ?_;rw[hA4];rcases hAb.mp hx with w|w
   ·exact hAg _ w
   ·exact hA7 _ (hAg _ w)
  ·refine .mem (hA7 _ ?_);rw[hA4];simp
  ·rw[hAf];have:=h.len;show F.length+(K.length+1)=j+1;omega
theorem EIv.done(h:EIv V m m K F)(y:Nat):Spn F y↔y<2^m/\bd V m y=0:=by
 have bF:∀ {a},Spn F a->bd V m a=0:=λ{a} ha=>by
  induction ha with
  |zero=>exact qGp V m
  |add hm _ ih=>rw[qDw,(h.f1 _ hm).2,ih];rfl
 constructor
 ·intro hy;exact⟨Spn.lt (λx hx=>(h.f1 x hx).1) hy,bF hy⟩
 ·rintro⟨h1,h2⟩;obtain⟨a,b,ha,hb,rfl⟩:=qGb (h.cov y h1);rw[qDw,bF ha,hBy]at h2;have:b=0:=qK0 V m h.k2 h.k1 hb λf hf=>by rw[h2];simp
  rw[this,hEd];exact ha
theorem EIv.none(h:EIv V m j K F)(hj:j<m)(hy:y<2^j)(e:bd V m y=V j):(el K (V j,2^j)).1=0:=by
 obtain⟨a,b,_,_,d⟩:=h.run hj;have bF:∀ {a},Spn F a->bd V m a=0:=λ{a} ha=>by
  induction ha with
  |zero=>exact qGp V m
  |add hm _ ih=>rw[qDw,(h.f1 _ hm).2,ih];rfl
 have c:(el K (V j,2^j)).2^^^2^j<2^j:=Spn.lt (λx hx=>by
  obtain⟨f,hf,rfl⟩:=hAe.mp hx;exact h.kl f hf) b
 have z:bd V m (((el K (V j,2^j)).2^^^2^j)^^^y)=(el K (V j,2^j)).1:=by
  rw[qDw,qDw,qQy hj,e,<-a,qAy]
 obtain⟨u,v,hu,hv,ez⟩:=qGb (h.cov _ (hCg c hy));rw[ez,qDw,bF hu,hBy]at z;have:v=0:=qK0 V m h.k2 h.k1 hv λf hf=>by rw[z];exact d f hf
 rw[<-z,this,qGp]
end My
namespace L2
open PySem PySem.Spec PyProof.Rows
section
variable{X:Cx}
theorem qT9:∀ {us:List Value},qBx (ns.map V.int) us->∃xs:List (Int×Tok),us=xs.map (λp=>Value.int p.1 p.2)/\xs.map (·.1)=ns:=by
 induction ns with
 |nil=>intro us r;cases r;exact⟨[],rfl,rfl⟩
 |cons a l ih =>
  intro us r;cases r with
  |cons r rr =>
   obtain⟨t,rfl⟩:=r;obtain⟨xs,rfl,rfl⟩:=ih rr;exact⟨(a,t) :: xs,rfl,rfl⟩
theorem qC5(hc:X.calm=true):qCm X (.builtin "sum") (λxs H Q=>∃(p:Addr) (ns:List Int),xs=[.ref p]/\SqL X.K H p (ns.map V.int)/\Q (.int ns.sum) H):=by
 intro aB s σ H xs us Q I r h;obtain⟨p,ns,rfl,hq,q⟩:=h;obtain⟨u,rfl,rx⟩:=qCy r;cases rx;obtain⟨its,rv,pl,hz⟩:=I.list hq;obtain⟨ys,rfl,rfl⟩:=qT9 rv;have e:(ys.map (λp=>Value.int p.1 p.2)).toArray=intItems ys.toArray:=by unfold intItems;simp
 have pl':=pl.isList;rw[e]at pl';refine sum_intListG (I.ok.hd hc) pl' λh' tk t' hk=>⟨.int _,H,I.kept (t':=tk) hk,⟨t',rfl⟩,?_⟩
 rw[preSum_eq,hA5 vI];exact q
theorem qIh:∀ {us:List Value},qBx (ns.map V.int) us->IntsAre us ns:=by
 induction ns with
 |nil=>intro us r;cases r;exact .nil
 |cons a l ih =>
  intro us r;cases r with
  |cons r rr =>
   obtain⟨t,rfl⟩:=r;exact .cons a t (ih rr)
theorem qJe:∀ {us:List Value},IntsAre us ns->qBx (ns.map V.int) us:=by
 induction ns with
 |nil=>intro us r;cases r;exact .nil
 |cons a l ih =>
  intro us r;cases r with
  |cons _ _ r=>exact .cons ⟨_,rfl⟩ (ih r)
def qV7(K:PySem.W.Frag)(t:TA):TE:=λσ H Q=>t σ H λvs H1=>∃(p:Addr) (ns:List Int),vs=[.ref p]/\SqL K H1 p (ns.map V.int)/\ns.length<64/\∀(r:Addr) (ns':List Int),H1 r=none->ns'.Perm ns->Ordered true ns'->Q (.ref r) (upd H1 r (.lst (ns'.map V.int)))
theorem qGe(hg:Gl X "sorted")(hm:X.mg "sorted"=none)(ha:PA X [e] t)
  (he:backTo pos (starEach [e] X.env)=(false,eval e X.env) :: backTo pos (starEach [] X.env):=by rfl)
  (hplain:(backTo pos (starEach [e] X.env)).any (·.1)=false:=by rfl):PE X (.Call (.Name "sorted" p) [e] [⟨some "reverse",.Constant (.bool true) j cp,kp⟩] pos) (qV7 X.K t):=by
 intro aB s σ H Q I h;refine hEv (qE5 I hg hm (by decide +kernel:bootBuiltins "sorted"=some (.builtin "sorted")) ?_ (by decide) (by decide));refine PyProof.Rows.callWith_kw (thn (ha pos aB s σ H _ I h) λus s1 ⟨vs,H1,I1,r1,q1⟩=>?_) he hplain;obtain⟨a,ns,rfl,hq,h64,q⟩:=q1;obtain⟨u,rfl,rx⟩:=qCy r1;cases rx;refine hDp (Constant_bool (hDt ?_));obtain⟨its,rv,pl,hz⟩:=I1.list hq;have hl:=rv.length;rw[hA1]at hl;refine sorted_ints_rev (b:=true) pl.isList (qIh rv) vG λout ns' h1 h2 h3=>?_
 obtain⟨e,he⟩:=sortedAll_at s1.heap its out;have nz:H1 (s1.heap.objs.size+1)=none:=I1.hok.fresh (hBq _);refine⟨.ref (s1.heap.objs.size+1),_,I1.laid (t':=s1.toks) (a:=s1.heap.objs.size+1) (o:=.lst (ns'.map V.int)) (λb o eb=>sortedAll_old eb) (hBq _) ?_,rfl,q _ ns' nz h2 h3⟩;refine⟨?_,out.toList,e,qJe h1,by simpa using he⟩;rw[hA1,h2.length_eq];exact hB9 (qAf vG)
def qY7(K:PySem.W.Frag):V->List V->Hp->VK->Prop:=λx vs H Q=>∃(l:Addr) (ss:List Str) (z:Str) (j:Nat),x = .ref l/\vs=[.str z]/\H l=some (.lst (ss.map V.str))/\ss[j]?=some z/\(∀k,k<j->ss[k]?≠some z)/\j<1000/\Q (.int (j:Nat)) H
theorem qKn:MtR X "list.index" (qY7 X.K):=by
 intro aB s σ H x vs v us Q I rx rv h;obtain⟨l,ss,z,j,rfl,rfl,hH,hj,hno,hsm,q⟩:=h;cases rx;obtain⟨u,rfl,ru⟩:=rv.one;obtain⟨t,rfl⟩:=ru;obtain⟨zz,its,n,r,hl,e⟩:=I.lstM hH;have at_:∀k (hk:k<its.length),∃y t',ss[k]?=some y/\its[k]=Value.str y t':=λk hk=>by
  have hk':k<ss.length:=by rw[hA1]at hl;omega
  obtain⟨w,hw,rw'⟩:=r.get (i:=k) (x:=V.str ss[k]) (by rw[hAl,hA2 hk'];rfl);obtain⟨t',rfl⟩:=rw';rw[hA2 hk]at hw;exact⟨ss[k],t',hA2 hk',hAq hw⟩
 have jl:j<its.length:=by
  have:=(hAp.mp hj).1;rw[hA1]at hl;omega
 refine hFj F.slot_list_index ⟨_,e,rfl⟩ F.entry_list_index (F.args_list_index_2 _ _)
  (MeetsSeq.list_index l its.toArray n (.str z t) (λy=>match y with | .str y _=>y == z|_=>false) (λy hy=>?_) j (by rw[hAk];exact jl) vG ?_ (λm hm hmj=>?_)) ⟨e,⟨.int _,H,I.tok _,⟨_,rfl⟩,q⟩⟩
 ·have hy':y∈its:=by simpa using hy
  obtain⟨k,hk,rfl⟩:=List.getElem_of_mem hy';obtain⟨y,t',_,e2⟩:=at_ k hk;rw[e2];exact eqGives_str y z t' t
 ·obtain⟨y,t',h1,e2⟩:=at_ j jl;have:its.toArray[j]=Value.str y t':=by simpa using e2
  rw[this];rw[hj]at h1;cases h1;exact hF3 _
 ·have hm':m<its.length:=by simpa using hm
  obtain⟨y,t',h1,e2⟩:=at_ m hm';have:its.toArray[m]=Value.str y t':=by simpa using e2
  rw[this];show(y == z)=false;rw[beq_eq_false_iff_ne];intro w;exact hno m hmj (by rw[h1,w])
end
section
variable{X:Cx}
def zGk(K:PySem.W.Frag)(ta:TA):TI:=λσ H R=>ta σ H λvs H1=>∃(a:Addr) (xs:List V),vs=[.ref a]/\SqL K H1 a xs/\R (Itp xs.length (λH=>SqL K H a xs) (λi=>[.int (i:Nat),xs.getD i .non])) H1
theorem qVn:bootBuiltins "enumerate"=some (.type "enumerate"):=by decide +kernel
theorem qFb(hg:Gl X "enumerate")(hm:X.mg "enumerate"=none)(ha:PA X [a] ta)(hs:starEach [a] X.env=[(false,eval a X.env)]:=by rfl) :
  PI X (.Tuple elts ct tpos) (.Call (.Name "enumerate" p) [a] [] pos) (zGk X.K ta):=by
 intro aB s σ H R I h;refine Call_ (qE5 I hg hm qVn (hCw (thn (ha pos aB s σ H _ I h) λus s1 ⟨vs,H1,I1,r1,q1⟩=>?_) (by rw[hs];rfl) (by rfl)));obtain⟨l,xs,e,hx,q⟩:=q1;subst e;obtain⟨u,rfl,rx⟩:=qCy r1;cases rx;obtain⟨it1,rv1,pl1,hz1⟩:=I1.list hx;have b1:l<s1.heap.objs.size:=by obtain⟨o,n,e,_⟩:=pl1;exact Heap.lt_size e
 refine call_enumerate_list pl1.isList λh1 z1 z2 z3 z7=>?_
 refine wpAny_pyIter_enum z1 ?_;have hfp:∀b∈[s1.heap.objs.size+1,s1.heap.objs.size],s1.heap.objs.size<=b:=λb hb=>by
  simp only[hAj,hD1,hFo]at hb;rcases hb with rfl|rfl
  ·exact hE1 _ _
  ·exact hA9 _
 refine⟨s1.heap.objs.size+1,[s1.heap.objs.size+1,s1.heap.objs.size],
  λi h=>(∃old,IsEnum h (s1.heap.objs.size+1) s1.heap.objs.size i old)/\h.IsListIter s1.heap.objs.size l i,
  _,H1,rfl,I1.kept (t':=s1.toks) z7,
  qI0 (s1.heap.objs.size+1) _ [s1.heap.objs.size+1,s1.heap.objs.size,l] [s1.heap.objs.size+1,s1.heap.objs.size] _ _ _ _ vI (λb hb=>hb) (λi h st b hb=>?_) (λi h h' st k=>?_) (λi=>by show 2<=sizeLine;decide) ?_ (λA i s' Q E st hQ=>by
   obtain⟨⟨old,he⟩,_⟩:=st;exact wpAny_pyIter_enum he hQ),
  ⟨⟨_,z1⟩,z2⟩,λb hb=>I1.fpOk (hfp b hb) (I1.hok.fresh (hfp b hb)),q⟩
 ·obtain⟨⟨old,a1⟩,⟨o4,a4,c4,d4⟩⟩:=st;simp only[hAj,hD1,hFo]at hb;rcases hb with rfl|rfl
  ·exact⟨_,a1,λv z=>by cases z⟩
  ·exact⟨_,a4,λv z=>by rw[d4]at z;cases z⟩
 ·obtain⟨⟨old,a1⟩,a4⟩:=st;exact⟨⟨old,k _ vI _ a1⟩,a4.at λo e=>k _ vI o e⟩
 ·intro X' hP hw hK hc pins' s' σ' H' I' hL;rw[<-hK]at hL;obtain⟨jt1,sv1,ql1,_⟩:=I'.list hL;have m1:=sv1.length;have ne1:l≠s1.heap.objs.size:=hAx b1;have Wz:=WalksT.enumerateD (A:=X'.A) (Draws.list (prog:=X.prog) (w:=X.w) (A:=X'.A.in1) (I'.ok.hd hc) s1.heap.objs.size l ne1 jt1.toArray) (s1.heap.objs.size+1) (Nat.succ_ne_self _) (λz=>by
   simp only[hAj,hD1,hFo]at z;rcases z with z|z
   ·exact Nat.succ_ne_self _ z
   ·exact absurd b1 (by rw[<-z];exact Nat.not_lt_of_le (hBq _))) vI
  rw[show jt1.toArray.size=xs.length by show jt1.length=_;rw[m1]]at Wz;refine⟨_,_,_,Wz,λi st=>?_,λi h st=>?_,λi vals pv=>?_⟩
  ·exact⟨st.1,st.2,ql1.isList⟩
  ·exact⟨st.1,st.2.1⟩
  ·obtain⟨t,x,e1,rfl⟩:=pv;have e1:jt1[i]?=some x:=by simpa using e1
   have c1:i<xs.length:=by rw[m1];exact(hAp.mp e1).1
   obtain⟨u,d1,d2⟩:=sv1.get (hA2 c1);rw[e1]at d1;cases d1;show qBx [.int (i:Nat),xs.getD i .non] [.int i t,x];rw[hAa,hA2 c1];exact .cons ⟨t,rfl⟩ (.cons d2 .nil)
end
end L2
namespace My
open PySem L2
abbrev iV(n:Nat):V:=.int (n:Int)
def LsN(H:Hp)(a:Addr)(ms:List Nat):Prop:=H a=some (.lst (ms.map iV))
theorem qF7:bootBuiltins "min"=some (.builtin "min"):=by decide +kernel
theorem qC7:bootBuiltins "sum"=some (.builtin "sum"):=by decide +kernel
theorem qR6{as:List Str}{i:Nat}{x:V}(e:(as.map V.str)[i]?=some x):∃a,x = .str a/\as[i]?=some a:=by
 rw[hAl]at e;cases ha:as[i]? with
 |none=>rw[ha]at e;cases e
 |some a=>rw[ha]at e;exact⟨a,(hAq e).symm,rfl⟩
theorem qA7{as:List Addr}{i:Nat}{x:V}(e:(as.map V.ref)[i]?=some x):∃a,x = .ref a/\as[i]?=some a:=by
 rw[hAl]at e;cases ha:as[i]? with
 |none=>rw[ha]at e;cases e
 |some a=>rw[ha]at e;exact⟨a,(hAq e).symm,rfl⟩
theorem qB2{ms:List Nat}{i:Nat}{x:V}(e:(ms.map iV)[i]?=some x):∃n,x=iV n/\ms[i]?=some n:=by
 rw[hAl]at e;cases ha:ms[i]? with
 |none=>rw[ha]at e;cases e
 |some a=>rw[ha]at e;exact⟨a,(hAq e).symm,rfl⟩
theorem qCj(ms:List Nat):ms.map iV=(ms.map λn:Nat=>(n:Int)).map V.int:=by rw[hB6];rfl
noncomputable def maskF(aA row:List Str):Nat:=aA.foldl (λm n=>2*m+(if n∈row then 1 else 0)) 0
theorem qGi(aA row:List Str)(n:Str):maskF (aA++[n]) row=2*maskF aA row+(if n∈row then 1 else 0):=by unfold maskF;rw[hBt];rfl
theorem qFv(row:List Str)(aA:List Str):∀j,(maskF aA row).testBit j=(decide (j<aA.length) && decide (∃n,aA[aA.length-1-j]?=some n/\n∈row)):=by
 refine qG9 (P:=λaA=>∀j,(maskF aA row).testBit j=(decide (j<aA.length) && decide (∃n,aA[aA.length-1-j]?=some n/\n∈row))) (λj=>by simp[maskF]) (λl n ih j=>?_) aA;rw[qGi,hAf];show _=(decide (j<l.length+1) && decide (∃m,(l++[n])[l.length+1-1-j]?=some m/\m∈row));cases j with
 |zero =>
  rw[hB5,hEf (by omega:0<l.length+1),hBw];refine decide_eq_decide.mpr ?_;rw[show l.length+1-1-0=l.length by omega,hDl (hA9 _)];simp;by_cases h:n∈row
  ·simp[h]
  ·simp[h]
 |succ j =>
  rw[hCn,show(2*maskF l row+(if n∈row then 1 else 0)) / 2=maskF l row by split <;> omega,ih j];by_cases hj:j<l.length
  ·rw[hEf hj,hEf (by omega:j+1<l.length+1),show l.length+1-1-(j+1)=l.length-1-j by omega,hD4 vG]
  ·rw[hEg hj,hEg (by omega:¬j+1<l.length+1)];rfl
theorem qXo(aA row:List Str):maskF aA row<2^aA.length:=hB8 _ λi hi=>by rw[qFv,hEg vG];rfl
def qSb:Sp:=λvs H Q _=>∃(pn pr:Addr) (aA row:List Str),vs=[.ref pn,.ref pr]/\LsS H pn aA/\LsS H pr row/\Q (iV (maskF aA row)) H
noncomputable def rowM(aA:List Str)(x:Nat):List Str:=(List.range aA.length).filterMap λi=>if x.testBit (aA.length-1-i)=true then aA[i]? else none
def qNa:Sp:=λvs H Q _=>∃(pn:Addr) (aA:List Str) (x:Nat),vs=[.ref pn,iV x]/\LsS H pn aA/\aA.length<=12/\∀r H',Ext H H'->H r=none->LsS H' r (rowM aA x)->Q (.ref r) H'
theorem qEe(x k:Nat):Builtin.bitAnd ((x:Int) / 2^k) 1=if x.testBit k=true then 1 else 0:=by
 have e:(x:Int) / 2^k=((x / 2^k:Nat):Int):=by rw[Int.natCast_ediv,Int.natCast_pow];rfl
 have e1:(1:Int)=((1:Nat):Int):=rfl;rw[e];show Builtin.bitAnd _ ((1:Nat):Int)=_;rw[qCl,Nat.and_one_is_mod,hD2];rcases hC6 (x / 2^k) with h|h <;> rw[h] <;> rfl
def qO6:Sp:=λvs H Q _=>∃(x:Nat) (p:Addr) (k:List Nat),vs=[iV x,.ref p]/\LsN H p k/\(∀s∈k,s≠0)/\Q (iV (red1 k x)) H
theorem qTy(x:Nat){s:Nat}(hs:s≠0):(if Builtin.bitXor (x:Int) (s:Int)<(x:Int) then Builtin.bitXor (x:Int) (s:Int) else (x:Int))=((rd1 x s:Nat):Int):=by
 rw[qCk,<-zB9 x hs];by_cases h:x^^^s<x
 ·rw[hEk h,hEk vG]
 ·rw[hEj h,hEj vG]
def qO3:Sp:=λvs H Q _=>∃(p:Addr) (ms:List Nat),vs=[.ref p]/\LsN H p ms/\ms.length<=24/\∀(r:Addr) (M:List Nat) (H':Hp),Ext H H'->H r=none->LsN H' r M->M.Perm (red ms)->M.Pairwise (λa b=>b<=a)->Q (.ref r) H'
theorem qW3(k:List Nat)(x:Nat):(qRf k x).length<=k.length+1:=by
 unfold qRf;split
 ·omega
 ·rw[hAf,hA1];exact hA9 _
theorem qPo(xs:List Nat):(red xs).length<=xs.length:=by
 refine qG0 (P:=λxs=>(red xs).length<=xs.length) (hA9 _) (λl t ih=>?_) xs;rw[qEt,hAf];have:=qW3 (red l) t;show _<=l.length+1;omega
section
variable{P:Program}{w:World}{K:PySem.W.Frag}{mg:Str->Option Value}{base:Heap}{f f1 f2:Addr}{fd fd1 fd2:FuncData}
noncomputable abbrev maN:List Str:=["names","row","mask","name"]
theorem qGt:FnScope maN ["names","row"] (qAc qWn):=fsk
theorem zBh(F:Fun K "mask_of" "mask_of" qWn f fd):v8 1 f fd ["names","row"] qSb:=by
 refine F.okA qGt λcdv A outer s H vs Q E hr h=>?_
 obtain⟨pn,pr,aA,row,rfl,hn,hw,q⟩:=h;refine⟨_,qAa (v4 2 qGt qAb)
  (qAa (qBa PassesOwn.never rfl (qAp (pv 0)) (v5 3 qGt)
   (qAe (v4 2 qGt (qAg qA9 (qAg qE4 qAb (pv 2)) (qEv (qAn qDs (pv 3) (pv 1) (by with_unfolding_all rfl)) qAb qAb)))))
  (qAe (qAt (pv 2)))),?_⟩
 refine⟨_,rfl,pn,rfl,⟨_,SqL.of hn⟩,?_⟩;refine qBg (xs:=aA.map V.str) (λi σ H'=>H'=H/\∃x3:Option V,σ=[some (.ref pn),some (.ref pr),some (iV (maskF (aA.take i) row)),x3]) ⟨rfl,none,rfl⟩ (λi σ H' _ h=>by rw[h.1];exact SqL.of hn) ?_ ?_
 ·rintro i x σ H' hx ⟨rfl,x3,rfl⟩;obtain⟨y,rfl,hy⟩:=qR6 hx;refine⟨_,rfl,_,_,rfl,rfl,.inl ⟨by decide,by decide⟩,_,rfl,_,rfl,pr,_,rfl,.inl (SqL.of hw),rfl,qF0 _,_,rfl,?_⟩;rw[hEj (by decide),qIi];refine qBw (λc=>?_) (λc=>?_)
  ·have c':y∈row:=by simpa using c
   refine⟨_,_,rfl,rfl,rfl,some (.str y),?_⟩;rw[show iV (maskF (aA.take (i+1)) row)=V.int (2*((maskF (aA.take i) row:Nat):Int)+1) by rw[qAh hy,qGi,hEk c'];rfl];rfl
  ·have c':¬y∈row:=by simpa using c
   refine⟨_,_,rfl,rfl,rfl,some (.str y),?_⟩;rw[show iV (maskF (aA.take (i+1)) row)=V.int (2*((maskF (aA.take i) row:Nat):Int)+0) by rw[qAh hy,qGi,hEj c'];rfl];rfl
 ·rintro σ H' ⟨rfl,x3,rfl⟩;rw[hA1,hA5 (hA9 _)];exact⟨_,rfl,q⟩
theorem qJ0:FnScope ["names","mask","last"] ["names","mask"] (qAc qI6):=fsk
noncomputable abbrev roN:List Str:=["at","name","mask","last"]
theorem qXb(F:Fun K "row_of" "row_of" qI6 f fd)(ml:mg "len"=none)(me:mg "enumerate"=none):v8 1 f fd ["names","mask"] qNa:=by
 refine F.okA qJ0 λcdv A outer s H vs Q E hr h=>?_
 obtain⟨pn,aA,x,rfl,hn,ln,q⟩:=h;refine⟨_,qAa (v6 2 qJ0 (qAg qCw (qAj qAl rfl ml hAy (pa1 (pv 0))) qAb))
  (qAe (qAt (qGf (N:=["names","mask","last"]) (sc:=qAc qI6) (N':=roN) (sub:=[none,none,some 1,some 2]) rfl rfl (CmpOk.of (by decide +kernel)) rfl (qFb rfl me (pa1 (pv 0)))
   (λC s H fp=>⟨(show PG _ _ (zCs K 2 _) from qB5 rfl (qAs (qAm (i:=0) (by show roN.Nodup;decide) rfl vE) (qAs (qAm (i:=1) (by show roN.Nodup;decide) rfl vE) qBl))),
    qBk (qAn qB8 (qAg qBr (qAg qFq (pv 2) (qAg qCw (pv 3) (pv 0))) qAb) qAb (qAu _)),pv 1⟩)))),?_⟩
 refine⟨_,rfl,pn,_,rfl,.inl (SqL.of hn),_,_,rfl,rfl,?_⟩;refine⟨_,rfl,pn,_,rfl,SqL.of hn,?_⟩;rw[hA1];refine qEd (λi ys H'=>Ext H H'/\ys=((List.range i).filterMap λi=>if x.testBit (aA.length-1-i)=true then aA[i]? else none).map V.str) ⟨Ext.refl _,rfl⟩ (λi ys H' _ p=>SqL.of (p.1 _ _ hn)) ?_ ?_
 ·rintro i ys H' T hi ⟨e,rfl⟩ hT;have gd:(aA.map V.str).getD i .non = .str aA[i]:=by rw[hAa,hAl,hA2 hi];rfl
  have e2:=e.trans (Ext.new hT (.tup [V.int (i:Nat),(aA.map V.str).getD i .non]));refine⟨T,_,rfl,SqT.of upd_same,rfl,_,_,rfl,_,_,rfl,rfl,?_⟩;refine⟨Sle.set _ (sls) (λu z=>by cases z),?_⟩;have k:(((aA.length:Nat):Int)-1-(i:Nat))=((aA.length-1-i:Nat):Int):=by omega
  refine⟨_,rfl,_,rfl,_,rfl,_,_,rfl,rfl,_,_,rfl,rfl,(by show(0:Int)<=_;omega),_,_,rfl,rfl,rfl,_,rfl,?_⟩;have fm:((List.range (i+1)).filterMap λi=>if x.testBit (aA.length-1-i)=true then aA[i]? else none)=((List.range i).filterMap λi=>if x.testBit (aA.length-1-i)=true then aA[i]? else none)++(if x.testBit (aA.length-1-i)=true then [aA[i]] else []):=by
   rw[hCk,hD6];congr 1;by_cases b:x.testBit (aA.length-1-i)=true
   ·simp[b,hA2 hi]
   ·simp[b]
  have sz:=hCf (λi=>if x.testBit (aA.length-1-i)=true then aA[i]? else none) (List.range i);rw[hB4]at sz;have key:(decide (V.int (Builtin.bitAnd ((x:Int) / 2^(((aA.length:Nat):Int)-1-(i:Nat)).toNat) 1)=V.int 1)=true)↔x.testBit (aA.length-1-i)=true:=by
   rw[hEl,V.int.injEq,k,hB7,qEe];by_cases b:x.testBit (aA.length-1-i)=true
   ·simp[b]
   ·simp[b]
  refine qBw (λc=>?_) (λc=>?_)
  ·have b:=key.mp c;refine⟨_,rfl,by rw[hA1];exact qAf vG,nxt hi ⟨e2,?_⟩⟩;rw[fm,hEk b,hA4,gd];rfl
  ·have b:¬x.testBit (aA.length-1-i)=true:=λz=>c (key.mpr z)
   refine nxt hi ⟨e2,?_⟩;rw[fm,hEj b,hCc]
 ·rintro ys H' ⟨e,rfl⟩ r hr';exact q r _ (e.trans (Ext.new hr' _)) (e.none hr') upd_same
theorem qSo:FnScope ["mask","kept","step"] ["mask","kept"] (qAc zAn):=fsk
theorem zBv(F:Fun K "lessened" "lessened" zAn f fd)(mmi:mg "min"=none):v8 1 f fd ["mask","kept"] qO6:=by
 refine F.okA qSo λcdv A outer s H vs Q E hr h=>?_
 obtain⟨x,p,k,rfl,hk,nz,q⟩:=h;refine⟨_,qAa (qBa PassesOwn.never rfl (qAp (pv 1)) (v5 2 qSo)
   (qAe (v4 0 qSo (qAj (qF5 rfl) rfl mmi qF7 (qAd (pv 0) (pa1 (qAg qDr (pv 0) (pv 2))))))))
  (qAe (qAt (pv 0))),?_⟩
 refine⟨_,rfl,p,rfl,⟨_,SqL.of hk⟩,?_⟩;refine qBg (xs:=k.map iV) (λi σ H'=>H'=H/\∃x2:Option V,σ=[some (iV (red1 (k.take i) x)),some (.ref p),x2]) ⟨rfl,none,rfl⟩ (λi σ H' _ h=>by rw[h.1];exact SqL.of hk) ?_ ?_
 ·rintro i v σ H' hx ⟨rfl,x2,rfl⟩;obtain⟨s,rfl,hs⟩:=qB2 hx;refine⟨_,rfl,_,rfl,_,rfl,_,_,rfl,rfl,_,_,rfl,rfl,some (iV s),?_⟩;rw[qTy _ (nz s (hAc hs)),show red1 (k.take (i+1)) x=rd1 (red1 (k.take i) x) s by rw[qAh hs];unfold red1;rw[hBt];rfl];rfl
 ·rintro σ H' ⟨rfl,x2,rfl⟩;rw[hA1,hA5 (hA9 _)];exact⟨_,rfl,q⟩
theorem qLk:FnScope ["masks","kept","mask","fresh"] ["masks"] (qAc qWm):=fsk
theorem zBf(F:Fun K "reduced" "reduced" qWm f fd)(G:v9 1 f1 fd1 ["mask","kept"] qO6 "lessened")(mmi:mg "min"=none)(mso:mg "sorted"=none):v8 2 f fd ["masks"] qO3:=by
 refine F.okA qLk λcdv A outer s H vs Q E hr h=>?_
 obtain⟨p,ms,rfl,hp,lm,q⟩:=h;refine⟨_,qAa (v4 1 qLk (qA4 qA3))
  (qAa (qBa PassesOwn.never rfl (qAp (pv 0)) (v5 2 qLk)
   (qAa (v6 3 qLk (qAw G hr rfl .nil qAv (qAd (pv 2) (pa1 (pv 1)))))
   (qAe (qBo (qAn qFr (pv 3) qAb (qAu _))
    (qAe (v4 1 qLk (qAg qCi (qGf (N:=["masks","kept","mask","fresh"]) (sc:=qAc qWm) (N':=["step","fresh"]) (sub:=[none,some 3]) rfl rfl (CmpOk.of (by decide +kernel)) rfl (qAp (pv 1))
     (λC s H fp=>⟨qAm (i:=0) (by show(["step","fresh"]:List Str).Nodup;decide) rfl vE,qAz,qAj (qF5 rfl) rfl mmi qF7 (qAd (pv 0) (pa1 (qAg qDr (pv 0) (pv 1))))⟩)) (qA4 (pa1 (pv 3))))))
    qA1))))
  (qAe (qAt (qGe rfl mso (pa1 (pv 1)))))),?_⟩
 refine⟨hAt _,λke ke0=>?_⟩;have X0:=Ext.new ke0 (.lst []);refine⟨_,rfl,p,rfl,⟨_,SqL.of (X0 _ _ hp)⟩,?_⟩;refine qBg (xs:=ms.map iV) (λi σ H'=>∃(ke:Addr) (x2 x3:Option V),σ=[some (.ref p),some (.ref ke),x2,x3]/\Ext H H'/\LsN H' ke (red (ms.take i))) ⟨ke,none,none,rfl,X0,upd_same⟩ (λi σ H' _ h=>by obtain⟨_,_,_,_,e,_⟩:=h;exact SqL.of (e _ _ hp)) ?_ ?_
 ·rintro i v σ H' hx ⟨ke,x2,x3,rfl,e,hk⟩;obtain⟨m,rfl,hm⟩:=qB2 hx;have hi:i<ms.length:=qAx hm;have rr:=qB1 (ms.take i);have lr:=qPo (ms.take i);rw[hAm]at lr;refine⟨_,rfl,_,rfl,m,ke,_,rfl,hk,rr.nz,?_⟩;have sn:red (ms.take (i+1))=qRf (red (ms.take i)) m:=by rw[qAh hm,qEt]
  refine⟨_,rfl,rfl,_,rfl,?_⟩;refine qBw (λc=>?_) (λc=>?_)
  ·have c':red1 (red (ms.take i)) m≠0:=λz=>by rw[z]at c;simp at c
   refine⟨_,rfl,ke,rfl,⟨_,SqL.of hk⟩,?_⟩;refine qAq (xs:=(red (ms.take i)).map iV) (λj ys H2=>H2=H'/\ys=(((red (ms.take i)).take j).map λs=>rd1 s (red1 (red (ms.take i)) m)).map iV) ⟨rfl,rfl⟩ (λj ys H2 _ h=>by rw[h.1];exact SqL.of hk) ?_ ?_
   ·rintro j x ys H2 hx2 ⟨rfl,rfl⟩;obtain⟨s,rfl,hs⟩:=qB2 hx2;have hj:=qAx hs;refine⟨sls,iteT (B:=False) ⟨_,rfl,_,rfl,_,rfl,_,_,rfl,rfl,_,_,rfl,?_,nxt (qAx hx2) ⟨rfl,?_⟩⟩⟩
    ·rw[hA1,hA1,hAm];exact qAf vG
    ·rw[qTy _ c',qAh hs,hA4,hA4];rfl
   ·rintro ys H2 ⟨rfl,rfl⟩ l hl;rw[hA1,hA5 (hA9 _)];have n1:=Ext.new hl (.lst (((red (ms.take i)).map λs=>rd1 s (red1 (red (ms.take i)) m)).map iV));refine⟨_,rfl,(by show 1<=sizeLine;decide),λl2 hl2=>?_⟩;have n2:=Ext.new hl2 (.lst [iV (red1 (red (ms.take i)) m)]);refine⟨l,l2,_,_,rfl,rfl,n2 _ _ upd_same,upd_same,?_,λl3 hl3=>?_⟩
    ·rw[hA1,hA1];show _+1<=sizeLine;exact hB9 (qAf vG)
    ·refine⟨l3,_,_,rfl,((e.trans n1).trans n2).trans (Ext.new hl3 _),?_⟩;rw[sn];unfold qRf LsN;rw[hEj c',upd_same,hA4];rfl
  ·have c':red1 (red (ms.take i)) m=0:=by
    have:(red1 (red (ms.take i)) m:Int)=0:=by simpa using c
    omega
   refine⟨ke,_,_,rfl,e,?_⟩;rw[sn];unfold qRf;rw[hEk c'];exact hk
 ·rintro σ H' ⟨ke,x2,x3,rfl,e,hk⟩;rw[hA1,hA5 (hA9 _)]at hk;have lr:=qPo ms;refine⟨_,rfl,ke,(red ms).map (λn:Nat=>(n:Int)),rfl,by rw[<-qCj];exact SqL.of hk,by rw[hA1];omega,λr ns hr' pm od=>?_⟩;have od':ns.Pairwise λa b=>a >= b:=od
  obtain⟨M,rfl⟩:∃M:List Nat,ns=M.map (λn:Nat=>(n:Int)):=by
   refine⟨ns.map Int.toNat,?_⟩;rw[hB6];refine(List.map_id _).symm.trans (hBg λa ha=>?_);obtain⟨n,_,rfl⟩:=hAe.mp (pm.mem_iff.mp ha);simp
  have pm':M.Perm (red ms):=by
   have:=pm.map Int.toNat;rw[hB6,hB6]at this;have idn:(Int.toNat∘λn:Nat=>(n:Int))=id:=by funext n;simp
   rw[idn,List.map_id,List.map_id]at this;exact this
  refine q r M _ (e.trans (Ext.new hr' _)) (e.none hr') (by unfold LsN;rw[upd_same,qCj]) pm' ?_;rw[hBp]at od';exact List.Pairwise.imp (λ{a b} h=>by omega) od'
end
theorem RR.perm(h:RR a)(p:b.Perm a):RR b:=⟨λs hs=>h.nz s (p.mem_iff.mp hs),(p.pairwise_iff (λ{x y} z=>⟨z.2,z.1⟩)).mpr h.ap⟩
theorem qDb:∀l:List Nat,(l.map λn:Nat=>(n:Int)).sum=((l.sum:Nat):Int)
 |[]=>rfl
 |a :: l=>by rw[hBm,hCy,hCy,qDb l];omega
theorem qBt(p:Nat):(1:Int)*2^((p:Int)).toNat=((2^p:Nat):Int):=by
 rw[hB7,Int.one_mul,Int.natCast_pow];rfl
def qF9(H:Hp)(T:Addr)(aA:List Str)(rows:List (List Str)):Prop:=∃a b,H T=some (.tup [.ref a,.ref b])/\LsS H a aA/\qDx H b rows
def zC6(H0 H:Hp)(T:Addr)(aA:List Str)(rows:List (List Str)):Prop:=∃a b,H T=some (.tup [.ref a,.ref b])/\LsS H a aA/\H0 a=none/\zC7 H0 H b rows/\H0 b=none
theorem qF9.ext(h:qF9 H T aA rows)(e:Ext H H'):qF9 H' T aA rows:=by
 obtain⟨a,b,h1,h2,h3⟩:=h;exact⟨a,b,e _ _ h1,e _ _ h2,h3.ext e⟩
theorem zC6.tin(h:zC6 H0 H T aA rows):qF9 H T aA rows:=by
 obtain⟨a,b,h1,h2,h3,h4,h5⟩:=h;exact⟨a,b,h1,h2,h4.rows⟩
theorem zC6.down(h:zC6 H1 H T aA rows)(e:Ext H0 H1):zC6 H0 H T aA rows:=by
 obtain⟨a,b,h1,h2,h3,⟨as,h4,h6⟩,h5⟩:=h;exact⟨a,b,h1,h2,e.none h3,⟨as,h4,Paired.mapP h6 λa r z=>⟨z.1,e.none z.2.1,z.2.2⟩⟩,e.none h5⟩
def qYh:Sp:=λvs H Q _=>∃(pn pm:Addr) (aA:List Str) (ms:List Nat),vs=[.ref pn,.ref pm]/\LsS H pn aA/\aA.length<=12/\LsN H pm ms/\ms.length<=24/\∀(T:Addr) (M:List Nat) (H':Hp),Ext H H'->H T=none->zC6 H H' T aA (M.map (rowM aA))->M.Perm (red ms)->M.Pairwise (λa b=>b<=a)->Q (.ref T) H'
def qM8:Sp:=λvs H Q _=>∃(T:Addr) (aA:List Str) (rows:List (List Str)),vs=[.ref T]/\qF9 H T aA rows/\rows.length<=24/\∀(r:Addr) (M:List Nat) (H':Hp),Ext H H'->H r=none->LsN H' r M->M.Perm (red (rows.map (maskF aA)))->M.Pairwise (λa b=>b<=a)->Q (.ref r) H'
noncomputable def qVz(net:List Tr)(x:Str):List Str:=(net.filter λt=>decide (t.2.1=x) != decide (t.2.2=x)).map (·.1)
section
variable{P:Program}{w:World}{K:PySem.W.Frag}{mg:Str->Option Value}{base:Heap}{f f1 f2 f3 f4:Addr}{fd fd1 fd2 fd3 fd4:FuncData}
theorem qNl:FnScope ["table","names","rows"] ["table"] (qAc qPh):=fsk
theorem qW9(F:Fun K "step_masks" "step_masks" qPh f fd)(G1:v9 1 f1 fd1 ["names","row"] qSb "mask_of")
  (G2:v9 2 f2 fd2 ["masks"] qO3 "reduced"):v8 3 f fd ["table"] qM8:=by
 refine F.okA qNl λcdv A outer s H vs Q E hr h=>?_
 obtain⟨T,aA,rows,rfl,⟨a,b,hT,ha,⟨as,hb,pr⟩⟩,lr,q⟩:=h;have hr1:=hr.mono (j:=1) (by decide);refine⟨_,qAa (qGw (pv 0) (qB5 rfl (qAs (v7 1 qNl) (qAs (v5 2 qNl) qBl))))
  (qAe (qAt (qAw G2 hr rfl .nil qAv (pa1 (qGf (N:=["table","names","rows"]) (sc:=qAc qPh) (N':=["row","names"]) (sub:=[none,some 1]) rfl rfl (CmpOk.of (by decide +kernel)) rfl (qAp (pv 2))
   (λC s H fp=>⟨qAm (i:=0) (by show(["row","names"]:List Str).Nodup;decide) rfl vE,qAz,qAw G1 hr1 rfl .nil qAv (qAd (pv 1) (pa1 (pv 0)))⟩)))))),?_⟩
 have la:as.length=rows.length:=pr.length;refine⟨_,rfl,T,_,rfl,SqT.of hT,rfl,_,_,rfl,_,_,rfl,rfl,?_⟩;refine⟨_,rfl,b,rfl,⟨_,SqL.of hb⟩,?_⟩;refine qAq (xs:=as.map V.ref) (λj ys H2=>H2=H/\ys=((rows.take j).map (maskF aA)).map iV) ⟨rfl,rfl⟩ (λj ys H2 _ h=>by rw[h.1];exact SqL.of hb) ?_ ?_
 ·rintro j v ys H2 hx ⟨rfl,rfl⟩;obtain⟨c,rfl,hc⟩:=qA7 hx;obtain⟨rw1,hrw,hc1⟩:=qAr pr hc;have hj:=qAx hrw;refine⟨sls,iteT (B:=False) ⟨_,rfl,_,rfl,a,c,aA,rw1,rfl,ha,hc1,?_,nxt (qAx hx) ⟨rfl,?_⟩⟩⟩
  ·rw[hA1,hA1,hAm];exact qAf vG
  ·rw[qAh hrw,hA4,hA4];rfl
 ·rintro ys H2 ⟨rfl,rfl⟩ l hl;rw[hA1,la,hA5 (hA9 _)];have n1:=Ext.new hl (.lst ((rows.map (maskF aA)).map iV));refine⟨l,_,rfl,upd_same,by rw[hA1];exact lr,λr M H1 e1 r0 hM pM dM=>?_⟩;exact q r M H1 (n1.trans e1) (n1.none r0) hM pM dM
end
theorem qRo(net:List Tr):∀S:Str->Prop,(∀t∈net,S t.2.1↔S t.2.2)->∀x y,qCx net x=qCx net y->(S x↔S y):=by
 refine qG9 (P:=λnet=>∀S:Str->Prop,(∀t∈net,S t.2.1↔S t.2.2)->∀x y,qCx net x=qCx net y->(S x↔S y)) (λS _ x y e=>?_) (λl t ih S hS x y e=>?_) net
 ·have:x=y:=e;rw[this]
 have ih':=ih S λu hu=>hS u (hAg _ hu)
 have hT:=hS t vI;rw[qFz]at e;have e':(if qCx l x=qCx l t.2.2 then qCx l t.2.1 else qCx l x)=(if qCx l y=qCx l t.2.2 then qCx l t.2.1 else qCx l y):=e;by_cases a:qCx l x=qCx l t.2.2
 ·by_cases b:qCx l y=qCx l t.2.2
  ·exact ih' x y (a.trans b.symm)
  ·rw[hEk a,hEj b]at e';exact(ih' x t.2.2 a).trans (hT.symm.trans (ih' t.2.1 y e'))
 ·by_cases b:qCx l y=qCx l t.2.2
  ·rw[hEj a,hEk b]at e';exact(ih' x t.2.1 e').trans (hT.trans (ih' t.2.2 y b.symm))
  ·rw[hEj a,hEj b]at e';exact ih' x y e'
def ixF(ps:List Str)(x:Str):Nat:=ps.findIdx λy=>decide (y=x)
theorem qEa(h:x∈ps):ps[ixF ps x]?=some x/\(∀k,k<ixF ps x->ps[k]?≠some x)/\ixF ps x<ps.length:=by
 have lt:ixF ps x<ps.length:=List.findIdx_lt_length_of_exists ⟨x,h,by simp⟩;have at_:ps[ixF ps x]=x:=by
  have:=List.findIdx_getElem (w:=lt);exact hEi this
 refine⟨by rw[hA2 lt,at_],λk hk e=>?_,lt⟩;have:=List.not_of_lt_findIdx hk;have kl:k<ps.length:=Nat.lt_trans hk lt;rw[hA2 kl]at e;have e':=hAq e;simp[e']at this
def vT(ps:List Str)(t:Tr):Nat:=2^ixF ps t.2.1^^^2^ixF ps t.2.2
def vF(net:List Tr)(ps:List Str)(i:Nat):Nat:=match net[i]? with|some t=>vT ps t|none=>0
theorem qM5(h:net[i]?=some t):vF net ps i=vT ps t:=by unfold vF;rw[h]
noncomputable def phi(M:Nat)(Z:Nat->Bool)(z:Nat):Bool:=xsum M λq=>z.testBit q && Z q
theorem qKg(M:Nat)(Z:Nat->Bool)(x y:Nat):phi M Z (x^^^y)=(phi M Z x ^^ phi M Z y):=by
 unfold phi;rw[<-qG6];refine qBc λj _=>?_
 rw[hAn];cases x.testBit j <;> cases y.testBit j <;> cases Z j <;> rfl
theorem qKf(M:Nat)(Z:Nat->Bool):phi M Z 0=false:=by
 unfold phi;rw[qBc (g:=λ_=>false) λj _=>by simp,qC1]
theorem zA9(h:p<M):phi M Z (2^p)=Z p:=by
 unfold phi;rw[qG7 (l:=p) λj _ ne=>by rw[hAi,hEg (λz=>ne z.symm)];rfl,hAi];simp[h]
theorem qZb(M:Nat)(Z:Nat->Bool)(V:Nat->Nat):∀m y:Nat,phi M Z (bd V m y)=xsum m λj=>y.testBit j && phi M Z (V j)
 |0,y=>by show phi M Z 0=false;exact qKf M Z
 |m+1,y=>by
  show phi M Z (bd V m y^^^_)=(xsum m _ ^^ (y.testBit m && phi M Z (V m)));rw[qKg,qZb M Z V m y];cases y.testBit m
  ·simp[qKf]
  ·simp
theorem qX2(hp:∀x,qZp net x->x∈ps)(h:EIv (vF net ps) m i K F)(hi:i<m)(ht:net[i]?=some t) :
  (el K (vF net ps i,2^i)).1=0↔qCx (net.take i) t.2.1=qCx (net.take i) t.2.2:=by
 have tm:=hAc ht;have pa:t.2.1∈ps:=hp _ ⟨t,tm,.inl rfl⟩;have pb:t.2.2∈ps:=hp _ ⟨t,tm,.inr rfl⟩;have il:i<net.length:=qAx ht;have got:∀j,j<i->∃u,net[j]?=some u/\u∈net.take i/\u∈net:=λj hj=>by
  have jl:j<net.length:=by omega
  refine⟨net[j],hA2 jl,?_,hBn jl⟩;refine hAc (i:=j) ?_;rw[List.getElem?_take,hEk hj,hA2 jl]
 constructor
 ·intro r0;refine hC0 λne=>?_
  obtain⟨a,b,c,d,_⟩:=h.run hi;have c':(el K (vF net ps i,2^i)).2^^^2^i<2^i:=Spn.lt (λx hx=>by
   obtain⟨f,hf,rfl⟩:=hAe.mp hx;exact h.kl f hf) b
  have e:(el K (vF net ps i,2^i)).1=bd (vF net ps) m ((el K (vF net ps i,2^i)).2^^^2^i)^^^vF net ps i:=by
   rw[qDw,qQy hi,<-a,qAy]
  have Zix:∀ {x:Str},x∈ps->phi ps.length (λq=>decide (qCx (net.take i) (ps.getD q "")=qCx (net.take i) t.2.1)) (2^ixF ps x)=decide (qCx (net.take i) x=qCx (net.take i) t.2.1):=λ{x} hx=>by
   obtain⟨h1,_,h3⟩:=qEa hx;rw[zA9 h3];show decide (qCx (net.take i) (ps.getD (ixF ps x) "")=_)=_;rw[hAa,h1];rfl
  have p0:=congrArg (phi ps.length (λq=>decide (qCx (net.take i) (ps.getD q "")=qCx (net.take i) t.2.1))) e;rw[r0,qKf,qKg,qZb]at p0;have z1:(xsum m λj=>((el K (vF net ps i,2^i)).2^^^2^i).testBit j && phi ps.length (λq=>decide (qCx (net.take i) (ps.getD q "")=qCx (net.take i) t.2.1)) (vF net ps j))=false:=by
   rw[qBc (g:=λ_=>false) λj _=>?_,qC1];by_cases hj:j<i
   ·obtain⟨u,hu,hu2,hu3⟩:=got j hj;rw[qM5 hu];unfold vT;rw[qKg,Zix (hp _ ⟨u,hu3,.inl rfl⟩),Zix (hp _ ⟨u,hu3,.inr rfl⟩),qXw (net.take i) u hu2];simp
   ·rw[qCo c' vG];rfl
  rw[z1,qM5 ht]at p0;unfold vT at p0;rw[qKg,Zix pa,Zix pb,hEf rfl,hEg (λz=>ne z.symm)]at p0;cases p0
 ·intro e;have S:=qRo (net.take i) (λz=>∃y,y<2^i/\bd (vF net ps) m y=2^ixF ps t.2.1^^^2^ixF ps z) (λu hu=>by
   obtain⟨j,hj,ej⟩:=List.getElem_of_mem hu;have ji:j<i:=by rw[hAm]at hj;omega
   have uj:net[j]?=some u:=by
    have:(net.take i)[j]?=some u:=by rw[hA2 hj,ej]
    rw[List.getElem?_take,hEk ji]at this;exact this
   have jm:j<m:=by omega
   have b:bd (vF net ps) m (2^j)=2^ixF ps u.2.1^^^2^ixF ps u.2.2:=by rw[qQy jm,qM5 uj];rfl
   have pj:2^j<2^i:=hCb (by decide) ji;constructor
   ·rintro⟨y,hy,ey⟩;refine⟨y^^^2^j,hCg hy pj,?_⟩;rw[qDw,ey,b,<-hBe,qAy]
   ·rintro⟨y,hy,ey⟩;refine⟨y^^^2^j,hCg hy pj,?_⟩;rw[qDw,ey,b,hCl (2^ixF ps u.2.1),<-hBe,qAy]) t.2.1 t.2.2 e
  obtain⟨y,hy,ey⟩:=S.mp ⟨0,Nat.pow_pos (by decide),by rw[qGp,hBv]⟩;exact h.none hi hy (by rw[ey,qM5 ht];rfl)
theorem qUp(hp:∀x,qZp net x->x∈ps)(h:EIv (vF net ps) m i K F)(hi:i<m)(ht:net[i]?=some t)(hk:K.length=(qHk (net.take i)).length) :
  if (el K (vF net ps i,2^i)).1=0 then K.length=(qHk (net.take (i+1))).length else (K++[el K (vF net ps i,2^i)]).length=(qHk (net.take (i+1))).length:=by
 have e:=qX2 hp h hi ht;rw[qAh ht,qIx];unfold qV3;rw[qUd];split
 ·rename_i z;rw[hEk (e.mp z)];exact hk
 ·rename_i z;rw[hEj (λw=>z (e.mpr w)),hAf,hAf,hk];rfl
def qHp:Sp:=λvs H Q _=>∃(p:Addr) (ms:List Nat) (m:Nat),vs=[.ref p]/\LsN H p ms/\ms.length<=4999/\(∀x∈ms,x<2^m)/\∀r H',Ext H H'->H r=none->LsN H' r (redL ms)->Q (.ref r) H'
theorem qRg(k:List Nat)(s x:Nat):redL1 (k++[s]) x=rdL (redL1 k x) s:=by unfold redL1;rw[hBt];rfl
theorem qEj(xs:List Nat):(redL xs).length<=xs.length:=by
 refine qG0 (P:=λxs=>(redL xs).length<=xs.length) (hA9 _) (λl t ih=>?_) xs;rw[qHz,hAf];unfold qNy;split
 ·exact hAw ih (hE1 _ _)
 ·rw[hAf,hA1];exact Nat.add_le_add_right ih _
def qQ4(H:Hp)(p:Addr)(K:List (Nat×Nat)):Prop:=∃as:List Addr,H p=some (.lst (as.map V.ref))/\Paired (λa f=>H a=some (.tup [iV f.1,iV f.2])) as K
def qNc:Sp:=λvs H Q _=>∃(p:Addr) (net:List Tr),vs=[.ref p]/\qFf H p net/\net.length<=12/\∀(r:Addr) (F:List Nat) (K:List (Nat×Nat)) (ps:List Str) (H':Hp),Ext H H'->H r=none->LsN H' r F->qIv net ps->EIv (vF net ps) net.length net.length K F->K.length=(qHk net).length->Q (.ref r) H'
noncomputable def rowL(aA:List Str)(x:Nat):List Str:=(List.range aA.length).filterMap λi=>if x.testBit i=true then aA[i]? else none
def qSe:Sp:=λvs H Q _=>∃(pn:Addr) (aA:List Str) (x:Nat),vs=[.ref pn,iV x]/\LsS H pn aA/\aA.length<=12/\∀r H',Ext H H'->H r=none->LsS H' r (rowL aA x)->Q (.ref r) H'
theorem zCv(k:List (Nat×Nat))(f v:Nat×Nat):el (k++[f]) v=el1 (el k v) f:=by unfold el;rw[hBt];rfl
section
variable{P:Program}{w:World}{K:PySem.W.Frag}{mg:Str->Option Value}{base:Heap}{f f1 f2 f3 f4:Addr}{fd fd1 fd2 fd3 fd4:FuncData}
noncomputable abbrev lrN:List Str:=["_law_numbers","_law_rows","_law_number","_law_row_here","_law_lead"]
noncomputable abbrev lrC:List Str:=["_law_row_here","_law_number","_law_lead"]
theorem qHt:FnScope lrN ["_law_numbers"] (qAc qWr):=fsk
theorem zBm(F:Fun K "_law_reduced" "_law_reduced" qWr f fd):v8 1 f fd ["_law_numbers"] qHp:=by
 refine F.okA qHt λcdv A outer s H vs Q E hr h=>?_
 obtain⟨p,ms,m,rfl,hp,lm,lt,q⟩:=h;refine⟨_,qAa (v4 1 qHt (qA4 qA3))
  (qAa (qBa PassesOwn.never rfl (qAp (pv 0)) (v7 2 qHt)
   (qAa (qBa PassesOwn.never rfl (qAp (pv 1)) (v5 3 qHt)
    (qAe (qBo (qAn qFr (qAg qBr (qAg qBr (pv 2) (pv 3)) (qN1 qIy (pv 3))) qAb (qAu _)) (qAe (v6 2 qHt (qAg qDr (pv 2) (pv 3)))) qA1)))
   (qAe (qBo (qAn qFr (pv 2) qAb (qAu _))
    (qAa (v6 4 qHt (qAg qBr (pv 2) (qN1 qIy (pv 2))))
    (qAe (v4 1 qHt (qAg qCi (qGf (N:=lrN) (sc:=qAc qWr) (N':=lrC) (sub:=[none,some 2,some 4]) rfl rfl (CmpOk.of (by decide +kernel)) rfl (qAp (pv 1))
     (λC s H fp=>⟨qAm (i:=0) (by show lrC.Nodup;decide) rfl vE,qAz,qEv (qAn qFr (qAg qBr (pv 0) (pv 2)) qAb (qAu _)) (qAg qDr (pv 0) (pv 1)) (pv 0)⟩)) (qA4 (pa1 (pv 2)))))))
    qA1))))
  (qAe (qAt (pv 1)))),?_⟩
 refine⟨hAt _,λro ro0=>?_⟩;have X0:=Ext.new ro0 (.lst []);refine⟨_,rfl,p,rfl,⟨_,SqL.of (X0 _ _ hp)⟩,?_⟩;refine qBg (xs:=ms.map iV) (λi σ H'=>∃(ro:Addr) (x2 x3 x4:Option V),σ=[some (.ref p),some (.ref ro),x2,x3,x4]/\Ext H H'/\H ro=none/\LsN H' ro (redL (ms.take i))) ⟨ro,none,none,none,rfl,X0,ro0,upd_same⟩ (λi σ H' _ h=>by obtain⟨_,_,_,_,_,e,_⟩:=h;exact SqL.of (e _ _ hp)) ?_ ?_
 ·rintro i v σ H' hx ⟨ro,x2,x3,x4,rfl,e,ro0,hk⟩;obtain⟨n,rfl,hn⟩:=qB2 hx;have hi:i<ms.length:=qAx hn;have nl:=lt n (hAc hn);obtain⟨gm,_⟩:=qDk (m:=m) (ms.take i) λx hx=>lt x (hDe hx)
  have lr:=qEj (ms.take i);rw[hAm]at lr;have sn:redL (ms.take (i+1))=qNy (redL (ms.take i)) n:=by rw[qAh hn,qHz]
  refine⟨_,rfl,ro,rfl,⟨_,SqL.of hk⟩,?_⟩;refine qBg (xs:=(redL (ms.take i)).map iV) (λj σ H2=>H2=H'/\∃x3:Option V,σ=[some (.ref p),some (.ref ro),some (iV (redL1 ((redL (ms.take i)).take j) n)),x3,x4]) ⟨rfl,x3,rfl⟩ (λj σ H2 _ h=>by rw[h.1];exact SqL.of hk) ?_ ?_
  ·rintro j v σ H2 hx2 ⟨rfl,x3,rfl⟩;obtain⟨s,rfl,hs⟩:=qB2 hx2;have snz:=(gm s (hAc hs)).2;have st:redL1 ((redL (ms.take i)).take (j+1)) n=rdL (redL1 ((redL (ms.take i)).take j) n) s:=by rw[qAh hs,qRg]
   refine⟨_,rfl,_,rfl,_,_,rfl,rfl,_,rfl,_,rfl,_,_,rfl,rfl,rfl,_,rfl,?_⟩;have lt2:=qP5 (redL1 ((redL (ms.take i)).take j) n) snz;have key:((!decide (V.int (Builtin.bitAnd (Builtin.bitAnd ((redL1 ((redL (ms.take i)).take j) n:Nat):Int) (s:Int)) (-(s:Int)))=V.int 0))=true)↔(redL1 ((redL (ms.take i)).take j) n).testBit (lo s)=true:=by
    rw[<-lt2];simp
   refine qBw (λc=>?_) (λc=>?_)
   ·refine⟨_,rfl,_,rfl,_,_,rfl,rfl,rfl,some (iV s),?_⟩;rw[st,show rdL (redL1 ((redL (ms.take i)).take j) n) s=redL1 ((redL (ms.take i)).take j) n^^^s from hEk (key.mp c),show iV (redL1 ((redL (ms.take i)).take j) n^^^s)=V.int (Builtin.bitXor ((redL1 ((redL (ms.take i)).take j) n:Nat):Int) (s:Int)) by rw[qCk]];rfl
   ·refine⟨rfl,some (iV s),?_⟩;rw[st,show rdL (redL1 ((redL (ms.take i)).take j) n) s=redL1 ((redL (ms.take i)).take j) n from hEj λz=>c (key.mpr z)];rfl
  ·rintro σ H2 ⟨rfl,x3,rfl⟩;rw[hA1,hA5 (hA9 _)];refine⟨_,rfl,rfl,_,rfl,?_⟩;refine qBw (λc=>?_) (λc=>?_)
   ·have nz:redL1 (redL (ms.take i)) n≠0:=λz=>by rw[z]at c;simp at c
    have lb:=qOa nz;refine⟨_,rfl,_,rfl,_,rfl,_,_,rfl,rfl,?_⟩;refine⟨_,rfl,ro,rfl,⟨_,SqL.of hk⟩,?_⟩;refine qAq (xs:=(redL (ms.take i)).map iV) (λj ys H3=>H3=H2/\ys=(((redL (ms.take i)).take j).map λs=>rdL s (redL1 (redL (ms.take i)) n)).map iV) ⟨rfl,rfl⟩ (λj ys H3 _ h=>by rw[h.1];exact SqL.of hk) ?_ ?_
    ·rintro j v ys H3 hx3 ⟨rfl,rfl⟩;obtain⟨s,rfl,hs⟩:=qB2 hx3;have hj:=qAx hs;have sz:((((redL (ms.take i)).take j).map λs=>rdL s (redL1 (redL (ms.take i)) n)).map iV).length<sizeLine:=by
      rw[hA1,hA1,hAm];exact qDo vG
     have ap:=qOr s (lo (redL1 (redL (ms.take i)) n));have key:((!decide (V.int (Builtin.bitAnd (s:Int) (Builtin.bitAnd ((redL1 (redL (ms.take i)) n:Nat):Int) (-((redL1 (redL (ms.take i)) n:Nat):Int))))=V.int 0))=true)↔s.testBit (lo (redL1 (redL (ms.take i)) n))=true:=by
      rw[lb,qCl,<-ap];simp
     refine⟨sls,iteT (B:=False) ?_⟩;refine⟨_,rfl,_,rfl,_,_,rfl,rfl,rfl,_,rfl,?_⟩;refine qBw (λc3=>?_) (λc3=>?_)
     ·refine⟨_,rfl,_,rfl,_,_,rfl,rfl,sz,nxt (qAx hx3) ⟨rfl,?_⟩⟩;rw[qAh hs,hA4,hA4,hDb,hDb,show rdL s (redL1 (redL (ms.take i)) n)=s^^^redL1 (redL (ms.take i)) n from hEk (key.mp c3),show iV (s^^^redL1 (redL (ms.take i)) n)=V.int (Builtin.bitXor (s:Int) ((redL1 (redL (ms.take i)) n:Nat):Int)) by rw[qCk]]
     ·refine⟨_,rfl,sz,nxt (qAx hx3) ⟨rfl,?_⟩⟩;rw[qAh hs,hA4,hA4,hDb,hDb,show rdL s (redL1 (redL (ms.take i)) n)=s from hEj λz=>c3 (key.mpr z)]
    ·rintro ys H3 ⟨rfl,rfl⟩ l1 hl1;rw[hA1,hA5 (hA9 _)];have n1:=Ext.new hl1 (.lst (((redL (ms.take i)).map λs=>rdL s (redL1 (redL (ms.take i)) n)).map iV));refine⟨_,rfl,(by show 1<=sizeLine;decide),λl2 hl2=>?_⟩;have n2:=Ext.new hl2 (.lst [iV (redL1 (redL (ms.take i)) n)]);refine⟨l1,l2,_,_,rfl,rfl,n2 _ _ upd_same,upd_same,?_,λl3 hl3=>?_⟩
     ·rw[hA1,hA1];show _+1<=sizeLine;exact hB9 (qDo vG)
     ·refine⟨l3,_,_,_,rfl,((e.trans n1).trans n2).trans (Ext.new hl3 _),((e.trans n1).trans n2).none hl3,?_⟩;rw[sn];unfold qNy LsN;rw[hEj nz,upd_same,hA4];rfl
   ·have z:redL1 (redL (ms.take i)) n=0:=by
     have:(redL1 (redL (ms.take i)) n:Int)=0:=by simpa using c
     omega
    refine⟨ro,_,_,_,rfl,e,ro0,?_⟩;rw[sn];unfold qNy;rw[hEk z];exact hk
 ·rintro σ H' ⟨ro,x2,x3,x4,rfl,e,ro0,hk⟩;rw[hA1,hA5 (hA9 _)]at hk;exact⟨_,rfl,q ro _ e ro0 hk⟩
theorem zDt:FnScope ["_law_names_here","_law_number"] ["_law_names_here","_law_number"] (qAc qWq):=fsk
noncomputable abbrev lwN:List Str:=["_law_k","_law_name","_law_number"]
theorem zBl(F:Fun K "_law_row" "_law_row" qWq f fd)(me:mg "enumerate"=none):v8 1 f fd ["_law_names_here","_law_number"] qSe:=by
 refine F.okA zDt λcdv A outer s H vs Q E hr h=>?_
 obtain⟨pn,aA,x,rfl,hn,ln,q⟩:=h;refine⟨_,qAe (qAt (qGf (N:=["_law_names_here","_law_number"]) (sc:=qAc qWq) (N':=lwN) (sub:=[none,none,some 1]) rfl rfl (CmpOk.of (by decide +kernel)) rfl (qFb rfl me (pa1 (pv 0)))
   (λC s H fp=>⟨(show PG _ _ (zCs K 2 _) from qB5 rfl (qAs (qAm (i:=0) (by show lwN.Nodup;decide) rfl vE) (qAs (qAm (i:=1) (by show lwN.Nodup;decide) rfl vE) qBl))),
    qBk (qAn qB8 (qAg qBr (qAg qFq (pv 2) (pv 0)) qAb) qAb (qAu _)),pv 1⟩))),?_⟩
 refine⟨_,rfl,pn,_,rfl,SqL.of hn,?_⟩;rw[hA1];refine qEd (λi ys H'=>Ext H H'/\ys=((List.range i).filterMap λi=>if x.testBit i=true then aA[i]? else none).map V.str) ⟨Ext.refl _,rfl⟩ (λi ys H' _ p=>SqL.of (p.1 _ _ hn)) ?_ ?_
 ·rintro i ys H' T hi ⟨e,rfl⟩ hT;have gd:(aA.map V.str).getD i .non = .str aA[i]:=by rw[hAa,hAl,hA2 hi];rfl
  have e2:=e.trans (Ext.new hT (.tup [V.int (i:Nat),(aA.map V.str).getD i .non]));refine⟨T,_,rfl,SqT.of upd_same,rfl,_,_,rfl,_,_,rfl,rfl,?_⟩;refine⟨Sle.set _ (sls) (λu z=>by cases z),?_⟩;refine⟨_,rfl,_,rfl,_,_,rfl,rfl,(by show(0:Int)<=_;omega),_,_,rfl,rfl,rfl,_,rfl,?_⟩;have fm:((List.range (i+1)).filterMap λi=>if x.testBit i=true then aA[i]? else none)=((List.range i).filterMap λi=>if x.testBit i=true then aA[i]? else none)++(if x.testBit i=true then [aA[i]] else []):=by
   rw[hCk,hD6];congr 1;by_cases b:x.testBit i=true
   ·simp[b,hA2 hi]
   ·simp[b]
  have sz:=hCf (λi=>if x.testBit i=true then aA[i]? else none) (List.range i);rw[hB4]at sz;have key:(decide (V.int (Builtin.bitAnd ((x:Int) / 2^(((i:Nat):Int)).toNat) 1)=V.int 1)=true)↔x.testBit i=true:=by
   rw[hEl,V.int.injEq,hB7,qEe];by_cases b:x.testBit i=true
   ·simp[b]
   ·simp[b]
  refine qBw (λc=>?_) (λc=>?_)
  ·have b:=key.mp c;refine⟨_,rfl,by rw[hA1];exact qAf vG,nxt hi ⟨e2,?_⟩⟩;rw[fm,hEk b,hA4,gd];rfl
  ·have b:¬x.testBit i=true:=λz=>c (key.mpr z)
   refine nxt hi ⟨e2,?_⟩;rw[fm,hEj b,hCc]
 ·rintro ys H' ⟨e,rfl⟩ r hr';exact q r _ (e.trans (Ext.new hr' _)) (e.none hr') upd_same
end
theorem qQ4.ext(h:qQ4 H p K)(e:Ext H H'):qQ4 H' p K:=by
 obtain⟨as,h1,h2⟩:=h;exact⟨as,e _ _ h1,Paired.mapP h2 λa t z=>e _ _ z⟩
section
variable{P:Program}{w:World}{K:PySem.W.Frag}{mg:Str->Option Value}{base:Heap}{f f1 f2 f3 f4:Addr}{fd fd1 fd2 fd3 fd4:FuncData}
noncomputable abbrev leN:List Str:=["_law_net_here","_law_knots","_law_kept","_law_found","_law_place","_law_tie","_law_ends_here","_law_mine","_law_far","_law_more"]
theorem qCr:FnScope leN ["_law_net_here"] (qAc qLp):=fsk
theorem qXi(F:Fun K "_law_even" "_law_even" qLp f fd)(mso:mg "sorted"=none)(mst:mg "set"=none)(me:mg "enumerate"=none):v8 1 f fd ["_law_net_here"] qNc:=by
 refine F.okA qCr λcdv A outer s H vs Q E hr h=>?_
 obtain⟨p,net,rfl,⟨as,hp,pr⟩,hl,q⟩:=h;refine⟨_,qAa (qJa (λσ H1=>∃(kn:Addr) (ps:List Str),σ=[some (.ref p),some (.ref kn),none,none,none,none,none,none,none,none]/\Ext H H1/\LsS H1 kn ps/\qIv net ps/\ps.length<=24) (v4 1 qCr (qAj (qIu rfl) rfl mso qBs (pa1 (qBy (qVf rfl) rfl mst qVk (pa1 (qAg qCi
  (qA8 (N:=leN) (sc:=qAc qLp) (N':=["_law_tie"]) (sub:=[none]) (qAp (pv 0)) (λC s H fp=>⟨qAz,qBe (show IxR _ (qNz K) from qBq) (pv 0) qAb (λ_ _=>rfl)⟩))
  (qA8 (N:=leN) (sc:=qAc qLp) (N':=["_law_tie"]) (sub:=[none]) (qAp (pv 0)) (λC s H fp=>⟨qAz,qBe (show IxR _ (qNz K) from qBq) (pv 0) qAb (λ_ _=>rfl)⟩)))))))))
  (qAa (v4 2 qCr (qA4 qA3))
  (qAa (v4 3 qCr (qA4 qA3))
  (qAa (qBa PassesOwn.never rfl (qFb rfl me (pa1 (pv 0))) (qB5 rfl (qAs (v5 4 qCr) (qAs (v5 5 qCr) qBl)))
   (qAa (v4 6 qCr (qAg qDr (qAg qCd qAb (qEb hB1 hDy hDz qKn (pv 1) (pa1 (qBe qBq (pv 5) qAb (λ_ _=>rfl))))) (qAg qCd qAb (qEb hB1 hDy hDz qKn (pv 1) (pa1 (qBe qBq (pv 5) qAb (λ_ _=>rfl)))))))
   (qAa (v4 7 qCr (qAg qCd qAb (pv 4)))
   (qAa (qBa PassesOwn.never rfl (qAp (pv 2)) (qB5 rfl (qAs (v5 8 qCr) (qAs (v5 9 qCr) qBl)))
    (qAe (qBo (qAn qFr (qAg qBr (qAg qBr (pv 6) (pv 8)) (qN1 qIy (pv 8))) qAb (qAu _))
     (qAa (v4 6 qCr (qAg qDr (pv 6) (pv 8)))
     (qAe (v4 7 qCr (qAg qDr (pv 7) (pv 9))))) qA1)))
   (qAe (qBo (qAn qB8 (pv 6) qAb (qAu _))
    (qAe (qCp (qEb hB1 hBk hBl qBz (pv 3) (pa1 (pv 7)))))
    (qAe (qCp (qEb hB1 hBk hBl qBz (pv 2) (pa1 (qA6 (qAd (pv 6) (pa1 (pv 7))))))))))))))
  (qAe (qAt (pv 3)))))),?_⟩
 refine⟨?_,?_⟩
 ·refine⟨_,rfl,p,rfl,⟨_,SqL.of hp⟩,?_⟩;refine qHl (λt=>t.2.1) hp pr hl (λa t ha C B c=>⟨sls,?_⟩) ?_
  ·exact iteT (B:=B H) ⟨_,rfl,a,_,_,_,rfl,rfl,SqT.of ha,(by exact qA0 (j:=1) rfl),c⟩
  intro l1 hl1;have n1:=Ext.new hl1 (.lst ((net.map λt=>t.2.1).map V.str));refine⟨_,rfl,p,rfl,⟨_,SqL.of (n1 _ _ hp)⟩,?_⟩;refine qHl (λt=>t.2.2) (n1 _ _ hp) (Paired.mapP pr λa t z=>n1 _ _ z) hl (λa t ha C B c=>⟨sls,?_⟩) ?_
  ·exact iteT (B:=B (upd H l1 (.lst ((net.map λt=>t.2.1).map V.str)))) ⟨_,rfl,a,_,_,_,rfl,rfl,SqT.of ha,(by exact qA0 (j:=2) rfl),c⟩
  intro l2 hl2;have n2:=n1.trans (Ext.new hl2 (.lst ((net.map λt=>t.2.2).map V.str)));refine⟨l1,l2,_,_,rfl,rfl,(Ext.new hl2 _) _ _ upd_same,upd_same,?_,λl3 hl3=>?_⟩
  ·simp only[hA1];exact hB9 (qAf vG)
  have n3:=n2.trans (Ext.new hl3 (.lst ((net.map λt=>t.2.1).map V.str++(net.map λt=>t.2.2).map V.str)));refine⟨l3,(net.map λt=>t.2.1)++(net.map λt=>t.2.2),rfl,SqL.of (by rw[upd_same,hA4]),?_,λr1 ss hr1 nd ln mem=>?_⟩
  ·simp only[hAf,hA1];omega
  simp only[hAf,hA1]at ln;refine⟨r1,ss,rfl,upd_same,by omega,λkn ps hkn pm srt=>?_⟩;have E1:=(n3.trans (Ext.new hr1 _)).trans (Ext.new hkn (.lst (ps.map V.str)));have pok:qIv net ps:=⟨pm.nodup_iff.mpr nd,λx=>by
   rw[pm.mem_iff,mem,hAb,hAe,hAe];unfold qZp;constructor
   ·rintro(⟨t,ht,rfl⟩|⟨t,ht,rfl⟩)
    ·exact⟨t,ht,.inl rfl⟩
    ·exact⟨t,ht,.inr rfl⟩
   ·rintro⟨t,ht,rfl|rfl⟩
    ·exact .inl ⟨t,ht,rfl⟩
    ·exact .inr ⟨t,ht,rfl⟩⟩
  have lps:ps.length<=24:=by rw[pm.length_eq];omega
  exact⟨kn,ps,rfl,E1,upd_same,pok,lps⟩
 rintro σ H1 ⟨kn,ps,rfl,E1,hk1,pok,lps⟩;refine⟨hAt _,λke ke1=>?_⟩;have Xk:=Ext.new ke1 (.lst []);refine⟨hAt _,λfo fo1=>?_⟩;have Xf:=Xk.trans (Ext.new fo1 (.lst []));have ke0:=E1.none ke1;have fo0:=E1.none (Xk.none fo1);have kefo:ke≠fo:=qAo (upd_same:upd H1 ke (.lst []) ke=_) fo1;have lA:as.length=net.length:=pr.length;have hpx:∀x,qZp net x->x∈ps:=λx hx=>(pok.2 x).mpr hx
 refine⟨_,rfl,p,_,rfl,SqL.of (Xf _ _ (E1 _ _ hp)),?_⟩;rw[hA1,lA];refine qIk (λi σ H2=>∃(Kp:List (Nat×Nat)) (Fd:List Nat) (x4 x5 x6 x7 x8 x9:Option V),σ=[some (.ref p),some (.ref kn),some (.ref ke),some (.ref fo),x4,x5,x6,x7,x8,x9]/\Ext H1 H2/\qQ4 H2 ke Kp/\LsN H2 fo Fd/\EIv (vF net ps) net.length i Kp Fd/\Kp.length=(qHk (net.take i)).length)
  ⟨[],[],none,none,none,none,none,none,rfl,Xf,⟨[],(Ext.new fo1 _) _ _ upd_same,.nil⟩,upd_same,EIv.start _ _,rfl⟩ ?_ ?_ ?_
 ·rintro i σ H2 _ ⟨Kp,Fd,x4,x5,x6,x7,x8,x9,_,e2,_⟩;exact SqL.of ((E1.trans e2) _ _ hp)
 ·rintro i σ H2 T hi ⟨Kp,Fd,x4,x5,x6,x7,x8,x9,rfl,e2,kp,fd,ei,kw⟩ hT;have hia:i<as.length:=by omega
  have g2:(as.map V.ref).getD i .non = .ref as[i]:=by rw[hAa,hAl,hA2 hia];rfl
  obtain⟨t,ht,hta⟩:=qAr pr (hA2 hia);dsimp only;rw[g2];have Y1:=Ext.new hT (.tup [V.int (i:Nat),V.ref as[i]]);have E2:=(E1.trans e2).trans Y1;obtain⟨a1,a2,a3⟩:=qEa (hpx t.2.1 ⟨t,hAc ht,.inl rfl⟩);obtain⟨b1,b2,b3⟩:=qEa (hpx t.2.2 ⟨t,hAc ht,.inr rfl⟩);have hk2:=(e2.trans Y1) _ _ hk1;refine⟨T,_,rfl,SqT.of upd_same,rfl,_,_,rfl,_,_,rfl,rfl,?_⟩;refine⟨_,rfl,.inl ⟨rfl,_,SqL.of hk2⟩,_,rfl,as[i],_,_,_,rfl,rfl,SqT.of (E2 _ _ hta),(by exact qA0 (j:=1) rfl),kn,ps,t.2.1,ixF ps t.2.1,rfl,rfl,hk2,a1,a2,by omega,_,_,rfl,rfl,⟨by omega,by omega,by decide⟩,?_⟩;refine⟨_,rfl,.inl ⟨rfl,_,SqL.of hk2⟩,_,rfl,as[i],_,_,_,rfl,rfl,SqT.of (E2 _ _ hta),(by exact qA0 (j:=2) rfl),kn,ps,t.2.2,ixF ps t.2.2,rfl,rfl,hk2,b1,b2,by omega,_,_,rfl,rfl,⟨by omega,by omega,by decide⟩,_,_,rfl,rfl,?_⟩;have vv:(λi j:Int=>V.int (Builtin.bitXor i j)) (1*2^(((ixF ps t.2.1:Nat):Int)).toNat) (1*2^(((ixF ps t.2.2:Nat):Int)).toNat)=iV (vF net ps i):=by
   show V.int (Builtin.bitXor _ _)=_;rw[qBt,qBt,qCk,qM5 ht];rfl
  rw[vv];refine⟨_,rfl,_,_,rfl,rfl,⟨by omega,by omega,by decide⟩,?_⟩;have wv:(λi j:Int=>V.int (i*2^j.toNat)) 1 ((i:Nat):Int)=iV (2^i):=by
   show V.int (1*2^_)=_;rw[qBt]
  rw[wv];obtain⟨ks,hks,pks⟩:=kp.ext Y1;have lk:ks.length=Kp.length:=pks.length;have lKp:Kp.length<=12:=by have:=ei.len;omega
  refine⟨_,rfl,ke,rfl,⟨_,SqL.of hks⟩,?_⟩;refine qBg (xs:=ks.map V.ref) (λj σ H3=>H3=upd H2 T (.tup [V.int (i:Nat),V.ref as[i]])/\∃(x8 x9:Option V),σ=[some (.ref p),some (.ref kn),some (.ref ke),some (.ref fo),some (.int (i:Nat)),some (.ref as[i]),some (iV (el (Kp.take j) (vF net ps i,2^i)).1),some (iV (el (Kp.take j) (vF net ps i,2^i)).2),x8,x9])
   ⟨rfl,x8,x9,rfl⟩ (λj σ H3 _ h=>by rw[h.1];exact SqL.of hks) ?_ ?_
  ·rintro j v σ H3 hx3 ⟨rfl,x8,x9,rfl⟩;obtain⟨c,rfl,hc⟩:=qA7 hx3;obtain⟨g,hg,hcg⟩:=qAr pks hc;have gnz:=(ei.k1 g (hAc hg)).1;have st:el (Kp.take (j+1)) (vF net ps i,2^i)=el1 (el (Kp.take j) (vF net ps i,2^i)) g:=by rw[qAh hg,zCv]
   refine⟨c,_,rfl,SqT.of hcg,rfl,_,_,rfl,_,_,rfl,rfl,?_⟩;refine⟨_,rfl,_,rfl,_,_,rfl,rfl,_,rfl,_,rfl,_,_,rfl,rfl,rfl,_,rfl,?_⟩;rw[st];generalize el (Kp.take j) (vF net ps i,2^i)=ev;have lt2:=qP5 ev.1 gnz;have key:((!decide (V.int (Builtin.bitAnd (Builtin.bitAnd ((ev.1:Nat):Int) ((g.1:Nat):Int)) (-((g.1:Nat):Int)))=V.int 0))=true)↔ev.1.testBit (lo g.1)=true:=by
    rw[<-lt2];simp
   refine qBw (λc2=>?_) (λc2=>?_)
   ·refine⟨_,rfl,_,rfl,_,_,rfl,rfl,_,rfl,_,rfl,_,_,rfl,rfl,rfl,some (iV g.1),some (iV g.2),?_⟩;rw[show el1 ev g=(ev.1^^^g.1,ev.2^^^g.2) from hEk (key.mp c2),show iV (ev.1^^^g.1,ev.2^^^g.2).1=V.int (Builtin.bitXor ((ev.1:Nat):Int) ((g.1:Nat):Int)) by rw[qCk],show iV (ev.1^^^g.1,ev.2^^^g.2).2=V.int (Builtin.bitXor ((ev.2:Nat):Int) ((g.2:Nat):Int)) by rw[qCk]];rfl
   ·refine⟨rfl,some (iV g.1),some (iV g.2),?_⟩;rw[show el1 ev g=ev from hEj λz=>c2 (key.mpr z)];rfl
  ·rintro σ H3 ⟨rfl,x8,x9,rfl⟩;rw[hA1,lk,hA5 (hA9 _)];have nx:=ei.next hi;have wd:=qUp hpx ei hi ht kw;have fd3:=Y1 _ _ fd;have lF:Fd.length<=12:=by have:=ei.len;omega
   revert nx wd;generalize el Kp (vF net ps i,2^i)=ev;intro nx wd;refine⟨_,rfl,rfl,_,rfl,?_⟩;refine qBw (λc2=>?_) (λc2=>?_)
   ·have z:ev.1=0:=by
     have:((ev.1:Nat):Int)=0:=by simpa using c2
     omega
    rw[hEk z]at nx wd;refine⟨_,rfl,.inl ⟨rfl,_,SqL.of fd3⟩,_,rfl,fo,_,_,rfl,rfl,fd3,by rw[hA1];exact qAf vG,?_⟩;refine⟨Kp,Fd++[ev.2],_,_,_,_,_,_,rfl,(e2.trans Y1).over (Xk.none fo1) _,⟨ks,by rw[qAk kefo];exact hks,Paired.mapP pks λa u z=>?_⟩,?_,nx,wd⟩
    ·have ne:a≠fo:=λw=>by
      rw[w]at z;have f3:upd H2 T (.tup [V.int (i:Nat),V.ref as[i]]) fo=some (.lst (Fd.map iV)):=fd3;rw[f3]at z;cases z
     rw[qAk ne];exact z
    ·unfold LsN;rw[upd_same,hA4];rfl
   ·have z:¬ev.1=0:=λw=>c2 (by rw[w];rfl)
    rw[hEj z]at nx wd;refine⟨_,rfl,.inl ⟨rfl,_,SqL.of hks⟩,_,rfl,_,rfl,(by show 2<=sizeLine;decide),λT2 hT2=>?_⟩;have Y2:=Ext.new hT2 (.tup [iV ev.1,iV ev.2]);refine⟨ke,_,_,rfl,rfl,Y2 _ _ hks,by rw[hA1];exact qAf vG,?_⟩;refine⟨Kp++[ev],Fd,_,_,_,_,_,_,rfl,((e2.trans Y1).trans Y2).over ke1 _,⟨ks++[T2],by rw[upd_same,hA4];rfl,Paired.snoc (Paired.mapP pks λa u z=>?_) ?_⟩,?_,nx,wd⟩
    ·have z':=Y2 _ _ z;have ne:a≠ke:=λw=>by rw[w,Y2 _ _ hks]at z';cases z'
     rw[qAk ne];exact z'
    ·have ne:T2≠ke:=λw=>by rw[w,hks]at hT2;cases hT2
     rw[qAk ne,upd_same]
    ·unfold LsN;rw[qAk (Ne.symm kefo)];exact Y2 _ _ fd3
 ·rintro σ H2 ⟨Kp,Fd,x4,x5,x6,x7,x8,x9,rfl,e2,kp,fd,ei,kw⟩;rw[hA5 (hA9 _)]at kw;exact⟨_,rfl,q fo Fd Kp ps _ (E1.trans e2) fo0 fd pok ei kw⟩
end
noncomputable abbrev nmS(net:List Tr):List Str:=net.map λt=>t.1
theorem zGb{net:List Tr}{i:Nat}{t:Tr}(h:net[i]?=some t):(nmS net)[i]?=some t.1:=by rw[hAl,h];rfl
theorem zEk(nd:(nmS net).Nodup)(ht:t∈net)(hu:u∈net)(e:t.1=u.1):t=u:=by
 induction net with
 |nil=>cases ht
 |cons v r ih =>
  have nd':(v.1 :: nmS r).Nodup:=nd;obtain⟨n1,n2⟩:=hBb.mp nd';rcases hAj.mp ht with a|a <;> rcases hAj.mp hu with b|b
  ·rw[a,b]
  ·subst a;exact absurd (hAe.mpr ⟨u,b,e.symm⟩) n1
  ·subst b;exact absurd (hAe.mpr ⟨t,a,e⟩) n1
  ·exact ih n2 a b
theorem zCa(nd:(nmS net).Nodup)(ht:t∈net)(x:Str):t.1∈qVz net x↔(decide (t.2.1=x) != decide (t.2.2=x))=true:=by
 unfold qVz;rw[hAe];constructor
 ·rintro⟨u,hu,e⟩;obtain⟨h1,h2⟩:=hAd.mp hu;rw[<-zEk nd h1 ht e];exact h2
 ·intro h;exact⟨t,hAd.mpr ⟨ht,h⟩,rfl⟩
theorem bx:∀a b:Bool,decide ((a != b)=true)=(a ^^ b):=λa b=>by cases a <;> cases b <;> rfl
theorem qQh:∀ {l:List α},(∀i∈l,f i=g i)->l.filterMap f=l.filterMap g
 |[],_=>rfl
 |a :: l,h=>by rw[hBs,hBs,h a hA8,qQh λi hi=>h i (hA6 _ hi)]
def gT(net:List Tr)(g:Tr->Bool)(i:Nat):Bool:=match net[i]? with|some t=>g t|none=>false
noncomputable def atX(x:Str)(t:Tr):Bool:=decide (t.2.1=x) ^^ decide (t.2.2=x)
theorem zDo{net:List Tr}(nd:(nmS net).Nodup)(x:Str){j:Nat}(hj:j<net.length):(maskF (nmS net) (qVz net x)).testBit j=gT net (atX x) (net.length-1-j):=by
 rw[qFv,hA1,hEf hj,hBw];have hi:net.length-1-j<net.length:=by omega
 have ht:=hA2 hi;unfold gT;rw[zGb ht,ht];have e:(∃n,some net[net.length-1-j].1=some n/\n∈qVz net x)↔net[net.length-1-j].1∈qVz net x:=⟨λ⟨n,h1,h2⟩=>by cases h1;exact h2,λh=>⟨_,rfl,h⟩⟩;exact(decide_eq_decide.mpr (e.trans (zCa nd (hBn hi) x))).trans (bx _ _)
theorem zFa(nd:(nmS net).Nodup)(x:Str)(z:Nat):dot net.length z (maskF (nmS net) (qVz net x))=xsum net.length λi=>z.testBit (net.length-1-i) && gT net (atX x) i:=by
 unfold dot;rw[<-qOv (λi=>z.testBit (net.length-1-i) && gT net (atX x) i)];refine qBc λj hj=>?_
 rw[zDo nd x hj,show net.length-1-(net.length-1-j)=j by omega]
theorem qZa(hx:x∈ps)(hy:y∈ps):(2^ixF ps x).testBit (ixF ps y)=decide (x=y):=by
 rw[hAi];refine decide_eq_decide.mpr ⟨λe=>?_,λe=>by rw[e]⟩;have h1:=(qEa hx).1;have h2:=(qEa hy).1;rw[e,h2]at h1;exact(hAq h1).symm
theorem zGp(hp:∀x,qZp net x->x∈ps)(hx:x∈ps)(y:Nat):(bd (vF net ps) net.length y).testBit (ixF ps x)=xsum net.length λi=>y.testBit i && gT net (atX x) i:=by
 rw[qQz];refine qBc λi hi=>?_
 have ht:=hA2 hi;rw[qM5 ht];unfold gT vT atX;rw[ht,hAn,qZa (hp _ ⟨_,hBn hi,.inl rfl⟩) hx,qZa (hp _ ⟨_,hBn hi,.inr rfl⟩) hx]
theorem qOo(hp:∀x,qZp net x->x∈ps)(y:Nat):bd (vF net ps) net.length y=0↔∀x∈ps,(bd (vF net ps) net.length y).testBit (ixF ps x)=false:=by
 constructor
 ·intro e x _;rw[e];simp
 ·intro h;refine hAh λq=>?_
  rw[hB0];by_cases c:∃x∈ps,ixF ps x=q
  ·obtain⟨x,hx,rfl⟩:=c;exact h x hx
  ·rw[qQz,qBc (g:=λ_=>false) λi hi=>?_,qC1];have ht:=hA2 hi;rw[qM5 ht];unfold vT;rw[hAn,hAi,hAi,hEg λz=>c ⟨_,hp _ ⟨_,hBn hi,.inl rfl⟩,z⟩,hEg λz=>c ⟨_,hp _ ⟨_,hBn hi,.inr rfl⟩,z⟩];simp
theorem zG1(nd:(nmS net).Nodup)(pk:qIv net ps)(pk':qIv net ps')(hz:z<2^net.length):(∀x∈ps,dot net.length z (maskF (nmS net) (qVz net x))=false)↔bd (vF net ps') net.length (rv net.length z)=0:=by
 have hp:∀x,qZp net x->x∈ps':=λx hx=>(pk'.2 x).mpr hx
 rw[qOo hp];have e:∀x∈ps',dot net.length z (maskF (nmS net) (qVz net x))=(bd (vF net ps') net.length (rv net.length z)).testBit (ixF ps' x):=λx hx=>by
  rw[zFa nd,zGp hp hx];refine qBc λi hi=>?_
  rw[qB4,hEf hi,hBw]
 constructor
 ·intro h x hx;rw[<-e x hx];exact h x ((pk.2 x).mpr ((pk'.2 x).mp hx))
 ·intro h x hx;have hx':=(pk'.2 x).mpr ((pk.2 x).mp hx);rw[e x hx'];exact h x hx'
theorem zDk(hF:∀x∈F,x<2^m)(z:Nat):Spn (F.map (rv m)) z↔z<2^m/\Spn F (rv m z):=by
 constructor
 ·intro h;refine⟨Spn.lt (λx hx=>?_) h,?_⟩
  ·obtain⟨y,_,rfl⟩:=hAe.mp hx;exact qLq m y
  ·induction h with
   |zero=>rw[qHx];exact .zero
   |add hm _ ih =>
    obtain⟨y,hy,rfl⟩:=hAe.mp hm;rw[qSx,qJ4 (hF y hy)];exact .add hy ih
 ·rintro⟨hz,h⟩;rw[<-qJ4 hz];generalize rv m z=y at h
  induction h with
  |zero=>rw[qHx];exact .zero
  |add hm _ ih=>rw[qSx];exact .add (hAu hm) ih
theorem qNu(x:Nat):rowM aA (rv aA.length x)=rowL aA x:=by
 unfold rowM rowL;have:∀i∈List.range aA.length,(if (rv aA.length x).testBit (aA.length-1-i)=true then aA[i]? else none)=(if x.testBit i=true then aA[i]? else none):=λi hi=>by
  have hi':=hAv.mp hi;rw[qB4,hEf vG,hBw,show aA.length-1-(aA.length-1-i)=i by omega]
 exact qQh this
theorem qFm(nz:z≠0)(lt:z<2^aA.length):∃n rest,rowM aA z=n :: rest/\aA[aA.length-1-z.log2]?=some n:=by
 have l:z.log2<aA.length:=(hDx nz).mpr lt;have hi:aA.length-1-z.log2<aA.length:=by omega
 have sp:List.range aA.length=List.range (aA.length-1-z.log2)++((aA.length-1-z.log2) :: (List.range z.log2).map λk=>aA.length-1-z.log2+1+k):=by
  have e:aA.length=(aA.length-1-z.log2)+(1+z.log2):=by omega
  conv=>lhs;rw[e]
  rw[List.range_add];congr 1;rw[Nat.add_comm 1 z.log2,hE3,hBm,hB6];congr 1;refine hBg λk _=>?_
  show _+(k+1)=_;omega
 refine⟨aA[aA.length-1-z.log2],((List.range z.log2).map λk=>aA.length-1-z.log2+1+k).filterMap λi=>if z.testBit (aA.length-1-i)=true then aA[i]? else none,?_,hA2 hi⟩;unfold rowM;rw[sp,hD6,hBs];have z1:(List.range (aA.length-1-z.log2)).filterMap (λi=>if z.testBit (aA.length-1-i)=true then aA[i]? else none)=[]:=by
  rw[List.filterMap_eq_nil_iff];intro i hi';have:=hAv.mp hi';rw[qOy vG];rfl
 rw[z1,show aA.length-1-(aA.length-1-z.log2)=z.log2 by omega,hBo nz,hEk rfl,hA2 hi];rfl
theorem qJ6{l:List Str}(h:qEc l){i j:Nat}{a b:Str}(hij:i<j)(ha:l[i]?=some a)(hb:l[j]?=some b):qSr a b=true:=by
 obtain⟨hi,rfl⟩:=hAp.mp ha;obtain⟨hj,rfl⟩:=hAp.mp hb;exact(List.pairwise_iff_getElem.mp h) i j hi hj hij
theorem qWz{aA:List Str}(rn:qEc aA){M:List Nat}(rr:RR M)(lt:∀z∈M,z<2^aA.length)(d:M.Pairwise λa b=>b<=a):Srt (M.map (rowM aA)):=by
 rw[Srt,hBp];have nd:=rr.nd;refine hBx (λ{a b} ha hb r=>?_) (List.Pairwise.and d nd);obtain⟨le,ne⟩:=r;obtain⟨n1,r1,e1,g1⟩:=qFm (rr.nz a ha) (lt a ha);obtain⟨n2,r2,e2,g2⟩:=qFm (rr.nz b hb) (lt b hb);have ll:b.log2<a.log2:=by
  have l1:b.log2<=a.log2:=by
   rcases Nat.lt_or_ge a.log2 b.log2 with q|q
   ·have h1:a<2^b.log2:=hAo hDm (hBd (by decide) q);have h2:=Nat.log2_self_le (rr.nz b hb);omega
   ·exact q
  rcases Nat.lt_or_ge b.log2 a.log2 with q|q
  ·exact q
  ·have e:a.log2=b.log2:=by omega
   have h1:=rr.ne ha hb ne;rw[<-e,rr.self ha]at h1;cases h1
 have la:a.log2<aA.length:=(hDx (rr.nz a ha)).mpr (lt a ha);have s:=qJ6 rn vG g1 g2;rw[e1,e2];unfold ltL;have n12:¬n2=n1:=λz=>by rw[z,qD0]at s;cases s
 rw[hEj n12];cases q:qSr n2 n1 with
 |false=>rfl
 |true=>have:=qEs s q;rw[qD0]at this;cases this
structure Made(net:List Tr)(ps ps':List Str)(S M:List Nat)(K:List (Nat×Nat))(F:List Nat):Prop where
 rs:qEc (nmS net)
 pk:qIv net ps
 pk':qIv net ps'
 pS:S.Perm (red (ps.map λx=>maskF (nmS net) (qVz net x)))
 pM:M.Perm (red (zFd S net.length))
 dM:M.Pairwise λa b=>b<=a
 ei:EIv (vF net ps') net.length net.length K F
 kw:K.length=(qHk net).length
theorem qD8(h:qEc l):l.Nodup:=List.Pairwise.imp (λ{a b} z e=>by rw[e,qD0]at z;cases z) h
theorem zE4{α:Type}{p:α->Bool}{l:List α}{i:Nat}{t:α}(h:l[i]?=some t)(c:p t=true):(l.take (i+1)).filter p=(l.take i).filter p++[t]:=by rw[qAh h,hBr];simp[c]
theorem zE5{α:Type}{p:α->Bool}{l:List α}{i:Nat}{t:α}(h:l[i]?=some t)(c:p t=false):(l.take (i+1)).filter p=(l.take i).filter p:=by rw[qAh h,hBr];simp[c]
theorem qMg:∀a b:List (List Str),PyData.eqvAll (a.map qG2) (b.map qG2)=decide (a=b)
 |[],[]=>rfl
 |[],_ :: _=>rfl
 |_ :: _,[]=>rfl
 |x :: a,y :: b=>by
  show(PyData.eqv (qG2 x) (qG2 y) && PyData.eqvAll (a.map qG2) (b.map qG2))=_;rw[qMg a b,qKy];by_cases e:x=y
  ·subst e;simp
  ·simp[e]
theorem qQk(a b:List (List Str)):PyData.eqv (qNt a) (qNt b)=decide (a=b):=qMg a b
theorem qKs:∀ {F:List (List Str)},(∀r∈F,SOk r)->PyData.canLayAll0 (F.map qG2)=true/\PyData.depthAll (F.map qG2)<=1
 |[],_=>⟨rfl,by decide⟩
 |x :: r,h=>by
  obtain⟨h1,h2⟩:=qKs (F:=r) λy hy=>h y (hA6 _ hy)
  obtain⟨h3,h4⟩:=qHe (h x hA8);refine⟨?_,?_⟩
  ·show(PyData.canLayAll0 (x.map .str) && PyData.canLayAll0 (r.map qG2))=true;rw[h1,h3];rfl
  ·show max (PyData.depthAll (x.map .str)+1) (PyData.depthAll (r.map qG2))<=1;rw[h4];omega
theorem qE8(h:∀r∈F,SOk r):SeqAt.shaped (qNt F)=true:=by
 obtain⟨h3,h4⟩:=qKs h;show(PyData.canLayAll0 (F.map qG2) && decide (PyData.depthAll (F.map qG2)+1<=64))=true;rw[h3,hEf vG];rfl
theorem qQo:∀ {as:List Addr} {F:List (List Str)},Paired (LsS H) as F->DRs K H (as.map V.ref) (F.map qG2)
 |_,_,.nil=>.nil
 |_,_,.cons h t=>.cons (qMj h) (qQo t)
theorem qK1(h:qDx H p F):DR K H (.ref p) (qNt F):=by
 obtain⟨as,h1,h2⟩:=h;exact .lst (SqL.of h1) (qQo h2)
def zFj(aA:List Str)(rows:List (List Str)):PyData:=.tuple [qG2 aA,qNt rows]
theorem qUr(aA:List Str)(rows:List (List Str)):PyData.eqv (zFj aA rows) (zFj aA rows)=true:=by
 show(PyData.eqv (qG2 aA) (qG2 aA) && (PyData.eqv (qNt rows) (qNt rows) && true))=true;rw[qKy,qQk,hEf rfl,hEf rfl];rfl
theorem qI2(h1:SOk aA)(h2:∀r∈rows,SOk r):SeqAt.shaped (zFj aA rows)=true:=by
 obtain⟨a1,a2⟩:=qHe h1;obtain⟨b1,b2⟩:=qKs h2;show((PyData.canLayAll0 (aA.map .str) && (PyData.canLayAll0 (rows.map qG2) && true)) && decide (max (PyData.depthAll (aA.map .str)+1) (max (PyData.depthAll (rows.map qG2)+1) 0)+1<=64))=true;rw[a1,b1,a2,hEf vG];rfl
theorem qQn(h:qF9 H T aA rows):DR K H (.ref T) (zFj aA rows):=by
 obtain⟨a,b,h1,h2,h3⟩:=h;exact .tup (SqT.of h1) (.cons (qMj h2) (.cons (qK1 h3) .nil))
theorem qEy:n∈rowM aA z↔∃i,i<aA.length/\aA[i]?=some n/\z.testBit (aA.length-1-i)=true:=by
 unfold rowM;rw[hD8];constructor
 ·rintro⟨i,hi,e⟩;split at e
  ·rename_i b;exact⟨i,hAv.mp hi,e,b⟩
  ·cases e
 ·rintro⟨i,hi,e,b⟩;exact⟨i,hAv.mpr hi,by rw[hEk b];exact e⟩
theorem qHb(h:n∈rowM aA z):n∈aA:=by
 obtain⟨i,_,e,_⟩:=qEy.mp h;exact hAc e
theorem qIj{aA:List Str}(nd:aA.Nodup){i j:Nat}{n:Str}(hi:aA[i]?=some n)(hj:aA[j]?=some n):i=j :=
 (List.getElem?_inj (hAp.mp hi).1 nd).mp (hi.trans hj.symm)
noncomputable abbrev chi(aA:List Str)(z:Nat):Str->Bool:=λn=>decide (n∈rowM aA z)
theorem zFf{aA:List Str}(nd:aA.Nodup){z i:Nat}{n:Str}(hi:aA[i]?=some n):chi aA z n=z.testBit (aA.length-1-i):=by
 have il:=(hAp.mp hi).1;cases q:z.testBit (aA.length-1-i) with
 |true=>exact hEf (qEy.mpr ⟨i,il,hi,q⟩)
 |false =>
  refine hEg λm=>?_
  obtain⟨j,_,ej,bj⟩:=qEy.mp m;rw[qIj nd ej hi,q]at bj;cases bj
theorem qEl(nd:aA.Nodup)(hz:z<2^aA.length):maskF aA (rowM aA z)=z:=by
 refine hAh λj=>?_
 rw[qFv];by_cases hj:j<aA.length
 ·rw[hEf hj,hBw];have hi:aA.length-1-j<aA.length:=by omega
  have e:=hA2 hi;have c:=zFf nd (z:=z) e;rw[show aA.length-1-(aA.length-1-j)=j by omega]at c;rw[<-c];refine decide_eq_decide.mpr ⟨λ⟨n,h1,h2⟩=>?_,λh=>⟨_,e,h⟩⟩;rw[e]at h1;cases h1;exact h2
 ·rw[hEg hj,qCo hz vG];rfl
structure Tb(net:List Tr)(ps:List Str)(S M:List Nat):Prop where
 rs:qEc (nmS net)
 pk:qIv net ps
 pS:S.Perm (red (ps.map λx=>maskF (nmS net) (qVz net x)))
 pM:M.Perm (red (zFd S net.length))
 dM:M.Pairwise λa b=>b<=a
theorem qIo:∀ {a b:List Nat},a.Pairwise (λx y=>y<=x)->b.Pairwise (λx y=>y<=x)->a.Perm b->a=b
 |[],b,_,_,p=>(List.nil_perm.mp p).symm▸rfl
 |x :: a,[],_,_,p=>by have:=p.length_eq;simp at this
 |x :: a,y :: b,ha,hb,p=>by
  obtain⟨a1,a2⟩:=hAs.mp ha;obtain⟨b1,b2⟩:=hAs.mp hb;have e:x=y:=by
   rcases hAj.mp (p.mem_iff.mp hA8) with z|z
   ·exact z
   ·rcases hAj.mp (p.mem_iff.mpr hA8) with w'|w'
    ·exact w'.symm
    ·have h1:=b1 x z;have h2:=a1 y w';omega
  subst e;rw[qIo a2 b2 ((List.perm_cons _).mp p)]
section
variable{P:Program}{w:World}{K:PySem.W.Frag}{mg:Str->Option Value}{base:Heap}{f f1 f2 f3 f4 f5:Addr}{fd fd1 fd2 fd3 fd4 fd5:FuncData}
theorem qBm(pr:Nat->Bool)(h:Nat->Nat)(hp:LsN H1 p ms)(ln:ms.length<=5000)
  (hs:∀z∈ms,∀(C:V->Hp->Prop) (B:Hp->Prop),(pr z=true->C (iV (h z)) H1)->(pr z=false->B H1)->g (iV z) σ0 H1 λσ2 H2=>Sle σ0 σ2/\tt σ2 H2 λb H3=>if b=true then te σ2 H3 C else B H3)
  (hd:Q (((ms.filter pr).map h).map iV) H1):qEp (Itl K p) σ0 g tt te Q H1:=by
 refine qAq (xs:=ms.map iV) (λj ys H2=>H2=H1/\ys=(((ms.take j).filter pr).map h).map iV) ⟨rfl,rfl⟩ (λj ys H2 _ h=>by rw[h.1];exact SqL.of hp) ?_ ?_
 ·rintro j x ys H2 hx ⟨rfl,rfl⟩;obtain⟨z,rfl,hz⟩:=qB2 hx;have hj:=qAx hz;have sz:=hAz pr (ms.take j);rw[hAm]at sz;refine hs z (hAc hz) _ _ (λb=>⟨?_,nxt (qAx hx) ⟨rfl,?_⟩⟩) (λb=>nxt (qAx hx) ⟨rfl,?_⟩)
  ·rw[hA1,hA1];exact qDo vG
  ·rw[qAh hz,hBr,hA4,hA4];simp[b]
  ·rw[qAh hz,hBr];simp[b]
 ·rintro ys H2 ⟨rfl,rfl⟩;rw[hA1,hA5 (hA9 _)];exact hd
end
end My
namespace L2
open PySem PySem.Spec PyProof.Rows
section
variable{σ0:St}{g:TG}{tt:TT}{te:TE}{Q:List V->Hp->Prop}{H1:Hp}
theorem qM6{K:PySem.W.Frag}{a:Addr}{xs:List V}(Pv:Nat->List V->Hp->Prop)(h0:Pv 0 [] H1)(hl:∀i ys H,i<=xs.length->Pv i ys H->SqT K H a xs)
  (hs:∀i x ys H,xs[i]?=some x->Pv i ys H->g x σ0 H λσ2 H2=>Sle σ0 σ2/\tt σ2 H2 λb H3=>if b=true then te σ2 H3 (λv H4=>ys.length<sizeLine/\Nxt xs.length i Pv (ys++[v]) H4) else Nxt xs.length i Pv ys H3)
  (hd:∀ys H,Pv xs.length ys H->Q ys H):qEp (Itt K a) σ0 g tt te Q H1:=by
 refine⟨λi m ys H=>m=xs.length-i/\i<=xs.length/\Pv i ys H,⟨xs.length,by simp,hAt _,h0⟩,?_⟩;rintro i m ys H ⟨rfl,hi,p⟩;have q:=hl i ys H hi p;by_cases hlt:i<xs.length
 ·refine .inr ⟨⟨xs,xs[i],q,by simp[hlt]⟩,λx H' y=>?_⟩;obtain⟨e,y⟩:=y;subst e;exact hs i x ys _ (y xs q) p
 ·have e:i=xs.length:=by omega
  subst e;exact .inl ⟨⟨xs,q,hA9 _⟩,hd ys H p⟩
end
end L2
namespace My
open PySem L2
theorem qRq(ms:List Nat):∃m,∀x∈ms,x<2^m:=by
 induction ms with
 |nil=>exact⟨0,λx h=>(by cases h)⟩
 |cons a l ih =>
  obtain⟨m,h⟩:=ih;refine⟨m+a,λx hx=>?_⟩;rcases hAj.mp hx with z|z
  ·rw[z];exact hAo Nat.lt_two_pow_self (hBd (by decide) vG)
  ·exact hAo (h x z) (hBd (by decide) vG)
noncomputable def qD2(aA row:List Str):Nat:=(row.map λn=>2^ixF aA n).sum
theorem qZo(nd:aA.Nodup)(h:aA[i]?=some n):ixF aA n=i:=qIj nd (qEa (hAc h)).1 h
theorem qBf:n∈rowL aA z↔∃i,i<aA.length/\aA[i]?=some n/\z.testBit i=true:=by
 unfold rowL;rw[hD8];constructor
 ·rintro⟨i,hi,e⟩;split at e
  ·rename_i b;exact⟨i,hAv.mp hi,e,b⟩
  ·cases e
 ·rintro⟨i,hi,e,b⟩;exact⟨i,hAv.mpr hi,by rw[hEk b];exact e⟩
theorem qNv(nd:aA.Nodup)(x:Nat):(rowL aA x).Nodup:=by
 rw[<-qNu];have:(rowM aA (rv aA.length x)).Nodup:=by
  unfold rowM;have h:∀l:List Nat,l.Nodup->(l.filterMap λi=>if (rv aA.length x).testBit (aA.length-1-i)=true then aA[i]? else none).Nodup:=λl=>by
   induction l with
   |nil=>intro _;exact List.nodup_nil
   |cons a l ih =>
    intro hn;obtain⟨h1,h2⟩:=hBb.mp hn;rw[hBs];split
    ·exact ih h2
    ·rename_i b e;refine hBb.mpr ⟨λm=>?_,ih h2⟩;obtain⟨c,hc,ec⟩:=hD8.mp m;split at e
     ·split at ec
      ·have:=qIj nd e ec;subst this;exact h1 hc
      ·cases ec
     ·cases e
  exact h _ hDn
 exact this
theorem qIb(nd:aA.Nodup)(rn:row.Nodup)(sub:∀n∈row,n∈aA)(j:Nat):(qD2 aA row).testBit j=decide (∃n∈row,ixF aA n=j):=by
 unfold qD2;have e:(row.map λn=>2^ixF aA n)=(row.map (ixF aA)).map λl=>2^l:=by rw[hB6];rfl
 have nd2:(row.map (ixF aA)).Nodup:=by
  rw[List.Nodup,hBp];refine hBx (λ{a b} ha hb ne q=>ne ?_) rn;have h1:=(qEa (sub a ha)).1;have h2:=(qEa (sub b hb)).1;rw[q,h2]at h1;exact(hAq h1).symm
 rw[e,qE7 _ nd2];refine decide_eq_decide.mpr ?_;rw[hAe]
theorem qKo(nd:aA.Nodup)(rn:row.Nodup)(sub:∀n∈row,n∈aA):qD2 aA row<2^aA.length/\rv aA.length (qD2 aA row)=maskF aA row:=by
 refine⟨hB8 _ λi hi=>?_,hAh λj=>?_⟩
 ·rw[qIb nd rn sub];refine hEg ?_;rintro⟨n,hn,e⟩;have:=(qEa (sub n hn)).2.2;omega
 ·rw[qB4,qFv,qIb nd rn sub];by_cases hj:j<aA.length
  ·rw[hEf hj,hBw,hBw];refine decide_eq_decide.mpr ⟨λ⟨n,hn,e⟩=>⟨n,by rw[<-e];exact(qEa (sub n hn)).1,hn⟩,λ⟨n,h1,h2⟩=>⟨n,h2,qZo nd h1⟩⟩
  ·rw[hEg hj];rfl
theorem qCc(hF:∀x∈F,x<2^m)(hz:z<2^m):Spn (F.map (rv m)) (rv m z)↔Spn F z:=by
 rw[zDk hF,qJ4 hz];exact⟨λh=>h.2,λh=>⟨qLq _ _,h⟩⟩
structure TabOk(aA:List Str)(rows:List (List Str)):Prop where
 rn:qEc aA
 ok:SOk aA
 ln:aA.length<=12
 lr:rows.length<=16
 rw:∀r∈rows,∃x,r=rowL aA x
section
variable{aA:List Str}{rows:List (List Str)}
theorem TabOk.masks(h:TabOk aA rows):(∀x∈rows.map (qD2 aA),x<2^aA.length)/\(rows.map (qD2 aA)).map (rv aA.length)=rows.map (maskF aA):=by
 have nd:=qD8 h.rn;refine⟨λx hx=>?_,?_⟩
 ·obtain⟨r,hr,rfl⟩:=hAe.mp hx;obtain⟨x,rfl⟩:=h.rw r hr;exact(qKo nd (qNv nd x) λn hn=>by obtain⟨i,_,e,_⟩:=qBf.mp hn;exact hAc e).1
 ·rw[hB6];refine hBg λr hr=>?_
  obtain⟨x,rfl⟩:=h.rw r hr;exact(qKo nd (qNv nd x) λn hn=>by obtain⟨i,_,e,_⟩:=qBf.mp hn;exact hAc e).2
end
theorem qEi:∀s∈redL xs,Spn xs s:=by
 obtain⟨m,h⟩:=qRq xs;obtain⟨g,e⟩:=qDk xs h;intro s hs;have h1:Spn (red (xs.map (rv m))) (rv m s):=by rw[<-e];exact .mem (hAu hs)
 exact(qCc h (g s hs).1).mp ((qBj _ _).mp h1)
end My
namespace L2
open PySem PySem.Spec PyProof.Rows
end L2
namespace My
open PySem L2
theorem qOl(a b:Nat):Builtin.bitOr (a:Int) (b:Int)=((a ||| b:Nat):Int):=by
 have x:∀x:Int,Builtin.bitNot (Builtin.bitNot x)=x:=λx=>by unfold Builtin.bitNot;omega
 unfold Builtin.bitOr;have na:¬(0:Int)<=Builtin.bitNot (a:Int):=by unfold Builtin.bitNot;omega
 have nb:¬(0:Int)<=Builtin.bitNot (b:Int):=by unfold Builtin.bitNot;omega
 have o:Builtin.bitAnd (Builtin.bitNot (a:Int)) (Builtin.bitNot (b:Int))=Builtin.bitNot ((a ||| b:Nat):Int):=by
  unfold Builtin.bitAnd;rw[hEg na,hEg nb];show Builtin.bitNot _=_;rw[x,x];simp
 rw[o,x]
theorem qPb(z k:Nat):(z:Int)*2^((k:Int)).toNat=((z <<< k:Nat):Int):=by
 rw[hB7,Nat.shiftLeft_eq,Int.natCast_mul,Int.natCast_pow];rfl
theorem qTi(m:Nat):(0:Int)<1*2^((m:Int)).toNat:=by
 rw[qBt];have:0<2^m:=Nat.pow_pos (by decide);omega
theorem zEa(a:Int)(m:Nat):∃x:Nat,a % (1*2^((m:Int)).toNat)=(x:Int):=by
 have:=qTi m;exact⟨(a % (1*2^((m:Int)).toNat)).toNat,(hCt (hBj _ vG)).symm⟩
theorem qU4(xs:List V)(p:Nat):qX5 xs none (some (p:Int))=xs.take p:=by
 unfold qX5;rw[HT.sIx_nat,HT.sIx_none,List.drop_zero,Nat.sub_zero];rcases Nat.le_total p xs.length with h|h
 ·rw[Nat.min_eq_left h]
 ·rw[Nat.min_eq_right h,hA5 (hA9 _),hA5 h]
def qSf:Sp:=λvs H Q _=>∃(pn pr:Addr) (aA row:List Str),vs=[.ref pn,.ref pr]/\LsS H pn aA/\LsS H pr row/\(∀n∈row,n∈aA)/\aA.length<=12/\row.length<=12/\∀H',Ext H H'->Q (iV (qD2 aA row)) H'
def qYs:Sp:=λvs H Q _=>∃(b:Int) (m:Nat),vs=[.int b,iV m]/\m<=12/\∀(r:Addr) (ns:List Nat) (H':Hp),Ext H H'->H r=none->LsN H' r ns->ns.length<=9->(∀x∈ns,x<2^m)->Q (.ref r) H'
def zHi(K:PySem.W.Frag):List V->Hp->VK->Prop:=λxs H Q=>∃p ys,xs=[.ref p]/\(SqL K H p ys\/SqT K H p ys)/\∀l,H l=none->Q (.ref l) (upd H l (.lst ys))
section
variable{P:Program}{w:World}{K:PySem.W.Frag}{mg:Str->Option Value}{base:Heap}{f f1 f2 f3 f4 f5:Addr}{fd fd1 fd2 fd3 fd4 fd5:FuncData}
theorem zDu:FnScope ["_law_names_here","_law_row_here"] ["_law_names_here","_law_row_here"] (qAc qWt):=fsk
theorem zBp(F:Fun K "_law_mask" "_law_mask" qWt f fd)(msu:mg "sum"=none):v8 1 f fd ["_law_names_here","_law_row_here"] qSf:=by
 refine F.okA zDu λcdv A outer s H vs Q E hr h=>?_
 obtain⟨pn,pr,aA,row,rfl,hn,hw,sub,ln,lw,q⟩:=h;refine⟨_,qAe (qAt (qAj (qC5 rfl) rfl msu qC7 (pa1 (qGf (N:=["_law_names_here","_law_row_here"]) (sc:=qAc qWt) (N':=["_law_name","_law_names_here"]) (sub:=[none,some 0]) rfl rfl (CmpOk.of (by decide +kernel)) rfl (qAp (pv 1))
   (λC s H fp=>⟨qAm (i:=0) (by show(["_law_name","_law_names_here"]:List Str).Nodup;decide) rfl vE,qAz,qAg qCd qAb (show PE _ _ (tBM K _ (qY7 K) _ _) from qEb hB1 hDy hDz qKn (pv 1) (pa1 (pv 0)))⟩))))),?_⟩
 refine⟨_,rfl,pr,rfl,⟨_,SqL.of hw⟩,?_⟩;refine qAq (xs:=row.map V.str) (λj ys H2=>H2=H/\ys=((row.take j).map λn=>2^ixF aA n).map iV) ⟨rfl,rfl⟩ (λj ys H2 _ h=>by rw[h.1];exact SqL.of hw) ?_ ?_
 ·rintro j v ys H2 hx ⟨rfl,rfl⟩;obtain⟨n,rfl,hn'⟩:=qR6 hx;have hj:=qAx hn';obtain⟨a1,a2,a3⟩:=qEa (sub n (hAc hn'));refine⟨sls,iteT (B:=False) ⟨_,rfl,.inl ⟨rfl,_,SqL.of hn⟩,_,rfl,pn,aA,n,ixF aA n,rfl,rfl,hn,a1,a2,by omega,_,_,rfl,rfl,⟨by omega,by omega,by decide⟩,?_⟩⟩;refine⟨by rw[hA1,hA1,hAm];exact qAf vG,nxt (qAx hx) ⟨rfl,?_⟩⟩;rw[qAh hn',hA4,hA4];show _++[V.int (1*2^(((ixF aA n:Nat):Int)).toNat)]=_;rw[qBt];rfl
 ·rintro ys H2 ⟨rfl,rfl⟩ l hl;rw[hA1,hA5 (hA9 _)];refine⟨l,(row.map λn=>2^ixF aA n).map (λn:Nat=>(n:Int)),rfl,SqL.of (by rw[upd_same,qCj]),?_⟩;rw[qDb];exact q _ (Ext.new hl _)
noncomputable abbrev frN:List Str:=["_law_big_here","_law_many","_law_found","_law_k"]
theorem qPf:FnScope frN ["_law_big_here","_law_many"] (qAc zAp):=fsk
theorem zBu(F:Fun K "_law_free" "_law_free" zAp f fd)(mr:mg "range"=none):v8 1 f fd ["_law_big_here","_law_many"] qYs:=by
 refine F.okA qPf λcdv A outer s H vs Q E hr h=>?_
 obtain⟨b,m,rfl,m12,q⟩:=h;refine⟨_,qAa (v4 2 qPf (qA4 qA3))
  (qAa (qBa PassesOwn.never rfl (qBd rfl mr (pa1 (qAg qBb (pv 0) qAb))) (v5 3 qPf)
   (qAa (qCp (qEb hB1 hBk hBl qBz (pv 2) (pa1 (qAg qBb (qAg qA5 (pv 0) qAb) (qAg qCd qAb (pv 1))))))
   (qAe (v4 0 qPf (qAg qFq (qAg qA5 (pv 0) qAb) (pv 1))))))
  (qAe (qAt (pv 2)))),?_⟩
 refine⟨hAt _,λfo fo0=>?_⟩;have h1:=hBj b (show(10:Int)≠0 by decide);have h2:=hBc b (show(0:Int)<10 by decide);refine⟨_,rfl,_,_,rfl,rfl,(by show(0:Int)<_;decide),b % 10,rfl,by omega,by omega,?_⟩;refine qB3 (lo:=0) (n:=(b % 10).toNat) (λi σ H'=>∃(b':Int) (x3:Option V) (ns:List Nat),σ=[some (.int b'),some (iV m),some (.ref fo),x3]/\Ext H H'/\LsN H' fo ns/\ns.length<=i/\∀x∈ns,x<2^m) ⟨b,none,[],rfl,Ext.new fo0 _,upd_same,hA9 _,λx hx=>(by cases hx)⟩ ?_ ?_
 ·rintro i σ H' hi ⟨b',x3,ns,rfl,e,hf,ln,lt⟩;obtain⟨x,hx⟩:=zEa (b' / 10) m;have xl:x<2^m:=by
   have:=hBc (b' / 10) (qTi m);rw[hx,qBt]at this;exact Int.ofNat_lt.mp this
  refine⟨_,rfl,.inl ⟨rfl,_,SqL.of hf⟩,_,rfl,_,_,rfl,rfl,⟨by decide,by decide⟩,_,rfl,_,_,rfl,rfl,⟨by omega,by omega,by decide⟩,_,_,rfl,rfl,qTi m,fo,_,_,rfl,rfl,hf,by rw[hA1];exact qAf vG,?_⟩;refine⟨_,rfl,_,_,rfl,rfl,⟨by decide,by decide⟩,_,rfl,_,_,rfl,rfl,(by show(0:Int)<=_;omega),?_⟩;refine⟨_,_,ns++[x],rfl,e.over fo0 _,?_,by rw[hAf];exact hD0 ln,λy hy=>(hAb.mp hy).elim (lt y) λz=>by rw[hA3.mp z];exact xl⟩;unfold LsN;rw[upd_same,hA4];show some (HO.lst (_++[V.int (b' / 10 % (1*2^((m:Int)).toNat))]))=_;rw[hx];rfl
 ·rintro σ H' ⟨b',x3,ns,rfl,e,hf,ln,lt⟩;exact⟨_,rfl,q fo ns _ e fo0 hf vG lt⟩
end
theorem zGd(g:Gm m S)(h:RR (S.map (rv m))):(S.map lo).Nodup:=by
 have nd:=qXr h;rw[hB6]at nd;refine(hBp.mpr ?_);refine hBx (λ{a b} ha hb hne e=>hne ?_) (hBp.mp nd);show(rv m a).log2=(rv m b).log2;rw[qNs (g a ha).1 (g a ha).2,qNs (g b hb).1 (g b hb).2,e]
theorem zA6{L:List Nat}{m:Nat}(nd:L.Nodup)(h:∀l∈L,l<m):(L.map λl=>2^l).sum<2^m:=hB8 _ λi hi=>by
 rw[qE7 L nd,hEg λz=>by have:=h i z;omega]
theorem qNx(lt:∀x∈xs,x<2^m):((redL xs).map lo).Nodup/\Gm m (redL xs):=by
 obtain⟨g,e⟩:=qDk (m:=m) xs lt;exact⟨zGd g (by rw[e];exact qB1 _),g⟩
theorem zFc{S:List Nat}{m i:Nat}(nd:(S.map lo).Nodup)(g:Gm m S)(hi:i<m)(ni:i∉S.map lo):2^i+((S.filter λz=>z.testBit i).map λz=>2^lo z).sum<2^m:=by
 have e:2^i+((S.filter λz=>z.testBit i).map λz=>2^lo z).sum=((i :: (S.filter λz=>z.testBit i).map lo).map λl=>2^l).sum:=by
  rw[hBm,hCy,hB6];rfl
 rw[e];have sub:((S.filter λz=>z.testBit i).map lo).Sublist (S.map lo):=(hCa).map lo;refine zA6 (hBb.mpr ⟨λz=>ni (sub.subset z),nd.sublist sub⟩) λl hl=>?_
 rcases hAj.mp hl with rfl|hl
 ·exact hi
 ·obtain⟨s,hs,rfl⟩:=hAe.mp hl;have:=g s (hAd.mp hs).1;exact zCf this.1 this.2
def qYt:Sp:=λvs H Q _=>∃(p:Addr) (ms:List Nat) (m:Nat),vs=[.ref p,iV m]/\LsN H p ms/\ms.length<=24/\m<=12/\∀(r:Addr) (ns:List Nat) (H':Hp),Ext H H'->H r=none->LsN H' r ns->ns.length<=12->((∀x∈ms,x<2^m)->∀x∈ns,x<2^m)->Q (.ref r) H'
def qYm:Sp:=λvs H Q _=>∃k:Int,vs=[.int k]/\0<=k/\k<4/\∀(T b:Addr) (m:Nat) (ns:List Nat) (H':Hp),Ext H H'->H' T=some (.tup [iV m,.ref b])->LsN H' b ns->ns.length<=12->0<m->m<=12->(∀x∈ns,x<2^m)->Q (.ref T) H'
def qYo:Sp:=λvs H Q _=>∃(p:Addr) (ms:List Nat) (m M:Nat) (b:Int),vs=[.ref p,iV m,.int b,iV M]/\LsN H p ms/\ms.length<=12/\0<m/\M<=12/\m<=M/\(∀x∈ms,x<2^m)/\∀(r:Addr) (ns:List Nat) (H':Hp),Ext H H'->LsN H' r ns->ns.length<=24->(∀x∈ns,x<2^M)->Q (.ref r) H'
section
variable{P:Program}{w:World}{K:PySem.W.Frag}{mg:Str->Option Value}{base:Heap}{f f1 f2 f3 f4 f5:Addr}{fd fd1 fd2 fd3 fd4 fd5:FuncData}
noncomputable abbrev coN:List Str:=["_law_numbers","_law_many","_law_rows","_law_fronts","_law_found","_law_place"]
theorem qLm:FnScope coN ["_law_numbers","_law_many"] (qAc qSt):=fsk
theorem zBw(F:Fun K "_law_crossing" "_law_crossing" qSt f fd)(G:v9 1 f1 fd1 ["_law_numbers"] qHp "_law_reduced")(msu:mg "sum"=none)(mr:mg "range"=none):v8 2 f fd ["_law_numbers","_law_many"] qYt:=by
 refine F.okA qLm λcdv A outer s H vs Q E hr h=>?_
 obtain⟨p,ms,m,rfl,hp,lm,m12,q⟩:=h;refine⟨_,qAa (v4 2 qLm (qAw G hr rfl .nil qAv (pa1 (pv 0))))
  (qAa (v4 3 qLm (qAj (qC5 rfl) rfl msu qC7 (pa1 (qA8 (N:=coN) (sc:=qAc qSt) (N':=["_law_row_here"]) (sub:=[none]) (qAp (pv 2)) (λC s H fp=>⟨qAz,qAg qBr (pv 0) (qN1 qIy (pv 0))⟩)))))
  (qAa (v4 4 qLm (qA4 qA3))
  (qAa (qBa PassesOwn.never rfl (qBd rfl mr (pa1 (pv 1))) (v7 5 qLm)
   (qAe (qBo (qAn qB8 (qAg qBr (qAg qFq (pv 3) (pv 5)) qAb) qAb (qAu _))
    (qAe (qCp (qEb hB1 hBk hBl qBz (pv 4) (qAd
     (qAg qA9 (qAg qCd qAb (pv 5)) (qAj (qC5 rfl) rfl msu qC7 (pa1 (qA8 (N:=coN) (sc:=qAc qSt) (N':=["_law_row_here","_law_place"]) (sub:=[none,some 5]) (qAp (pv 2)) (λC s H fp=>⟨qBk (qAn qB8 (qAg qBr (qAg qFq (pv 0) (pv 1)) qAb) qAb (qAu _)),qAg qBr (pv 0) (qN1 qIy (pv 0))⟩))))) qA3))))
    qA1)))
  (qAe (qAt (pv 4)))))),?_⟩
 obtain⟨m0,lt0⟩:=qRq ms;refine⟨_,rfl,p,ms,m0,rfl,hp,by omega,lt0,λro H1 e1 ro0 hro=>?_⟩;obtain⟨gm,_⟩:=qDk (m:=m0) ms lt0;have lR:=qEj ms;refine⟨_,rfl,ro,rfl,⟨_,SqL.of hro⟩,?_⟩;refine qBm (λ_=>true) (λz=>2^lo z) hro vG (λz hz C B c b=>⟨sls,?_⟩) ?_
 ·refine iteT (B:=B H1) ⟨_,rfl,_,rfl,_,rfl,_,_,rfl,rfl,?_⟩;have:=c rfl;rw[show iV (2^lo z)=V.int (Builtin.bitAnd (z:Int) (-(z:Int))) by rw[qOa (gm z hz).2]]at this;exact this
 intro l1 hl1;have n1:=e1.trans (Ext.new hl1 (.lst ((((redL ms).filter λ_=>true).map λz=>2^lo z).map iV)));refine⟨l1,(((redL ms).filter λ_=>true).map λz=>2^lo z).map (λn:Nat=>(n:Int)),rfl,SqL.of (by rw[upd_same,qCj]),?_⟩;rw[qDb];have hro1:=(Ext.new hl1 (.lst ((((redL ms).filter λ_=>true).map λz=>2^lo z).map iV))) _ _ hro;refine⟨hAt _,λfo fo1=>?_⟩;have fo0:=n1.none fo1;have n2:=n1.trans (Ext.new fo1 (.lst []));have hro2:=(Ext.new fo1 (.lst [])) _ _ hro1;revert n2 hro2;have hfo2:upd (upd H1 l1 (.lst ((((redL ms).filter λ_=>true).map λz=>2^lo z).map iV))) fo (.lst []) fo=some (.lst []):=upd_same;revert hfo2;generalize upd (upd H1 l1 (.lst ((((redL ms).filter λ_=>true).map λz=>2^lo z).map iV))) fo (.lst [])=H2;intro hfo2 n2 hro2;have rofo:ro≠fo:=qAo hro1 fo1;have frb:(∀x∈ms,x<2^m)->∀p,((((redL ms).filter λ_=>true).map λz=>2^lo z).sum).testBit p=decide (p∈(redL ms).map lo):=λlt p=>by
  have e1:((redL ms).filter λ_=>true)=redL ms:=List.filter_eq_self.mpr λ_ _=>rfl
  rw[e1,show((redL ms).map λz=>2^lo z)=((redL ms).map lo).map (λl=>2^l) by rw[hB6];rfl,qE7 _ (qNx lt).1]
 revert frb;generalize (((redL ms).filter λ_=>true).map λz=>2^lo z).sum=fr;intro frb;refine⟨_,rfl,(m:Int),rfl,by omega,by omega,?_⟩;refine qB3 (lo:=0) (n:=((m:Int)).toNat) (λi σ H'=>∃(x5:Option V) (ns:List Nat),σ=[some (.ref p),some (iV m),some (.ref ro),some (iV fr),some (.ref fo),x5]/\Ext H H'/\LsN H' ro (redL ms)/\LsN H' fo ns/\ns.length<=i/\((∀x∈ms,x<2^m)->∀x∈ns,x<2^m)) ⟨none,[],rfl,n2,hro2,hfo2,hA9 _,λ_ x hx=>(by cases hx)⟩ ?_ ?_
 ·rintro i σ H' hi ⟨x5,ns,rfl,e,hr',hf,ln,tel⟩;have hi':i<m:=by omega
  have kf:decide (V.int (Builtin.bitAnd ((fr:Int) / 2^(0+(i:Int)).toNat) 1)=V.int 0)=true↔fr.testBit i=false:=by
   rw[hEl,V.int.injEq,show(0+(i:Int))=((i:Nat):Int) by omega,hB7,qEe];cases fr.testBit i <;> simp
  refine⟨_,rfl,_,rfl,_,_,rfl,rfl,(by show(0:Int)<=_;omega),_,_,rfl,rfl,rfl,_,rfl,?_⟩;refine qBw (λc=>?_) (λc=>?_)
  ·refine⟨_,rfl,.inl ⟨rfl,_,SqL.of hf⟩,_,rfl,_,_,rfl,rfl,⟨by omega,by omega,by decide⟩,?_⟩;refine⟨_,rfl,ro,rfl,⟨_,SqL.of hr'⟩,?_⟩;refine qBm (λz=>z.testBit i) (λz=>2^lo z) hr' vG (λz hz C B c2 b2=>⟨sls,?_⟩) ?_
   ·refine⟨_,rfl,_,rfl,_,_,rfl,rfl,(by show(0:Int)<=_;omega),_,_,rfl,rfl,rfl,_,rfl,?_⟩;have key:(decide (V.int (Builtin.bitAnd ((z:Int) / 2^(0+(i:Int)).toNat) 1)=V.int 1)=true)↔z.testBit i=true:=by
     rw[hEl,V.int.injEq,show(0+(i:Int))=((i:Nat):Int) by omega,hB7,qEe];by_cases b:z.testBit i=true
     ·simp[b]
     ·simp[b]
    refine qBw (λcc=>⟨_,rfl,_,rfl,_,rfl,_,_,rfl,rfl,?_⟩) (λcc=>b2 ?_)
    ·have:=c2 (key.mp cc);rw[show iV (2^lo z)=V.int (Builtin.bitAnd (z:Int) (-(z:Int))) by rw[qOa (gm z hz).2]]at this;exact this
    ·cases q2:z.testBit i with
     |false=>rfl
     |true=>exact absurd (key.mpr q2) cc
   ·intro l2 hl2;have n3:=Ext.new hl2 (.lst ((((redL ms).filter λz=>z.testBit i).map λz=>2^lo z).map iV));refine⟨l2,(((redL ms).filter λz=>z.testBit i).map λz=>2^lo z).map (λn:Nat=>(n:Int)),rfl,SqL.of (by rw[upd_same,qCj]),?_⟩;rw[qDb];refine⟨_,_,rfl,rfl,fo,_,_,rfl,rfl,n3 _ _ hf,by rw[hA1];exact qAf vG,?_⟩;have ev:(λi j:Int=>V.int (i+j)) (1*2^(0+(i:Int)).toNat) (((((redL ms).filter λz=>z.testBit i).map λz=>2^lo z).sum:Nat):Int)=iV (2^i+((((redL ms).filter λz=>z.testBit i).map λz=>2^lo z).sum)):=by
     show V.int (_+_)=V.int _;rw[show(0+(i:Int))=((i:Nat):Int) by omega,qBt,Int.natCast_add]
    rw[ev];refine⟨_,ns++[2^i+((((redL ms).filter λz=>z.testBit i).map λz=>2^lo z).sum)],rfl,(e.trans n3).over fo0 _,?_,?_,by rw[hAf];exact hD0 ln,λlt y hy=>(hAb.mp hy).elim (tel lt y) λz=>by
     rw[hA3.mp z];refine zFc (qNx lt).1 (qNx lt).2 hi' λu=>?_
     have h1:=kf.mp c;rw[frb lt,hEf u]at h1;cases h1⟩
    ·unfold LsN;rw[qAk rofo];exact n3 _ _ hr'
    ·unfold LsN;rw[upd_same,hA4];rfl
  ·exact⟨_,ns,rfl,e,hr',hf,by omega,tel⟩
 ·rintro σ H' ⟨x5,ns,rfl,e,hr',hf,ln,tel⟩;exact⟨_,rfl,q fo ns _ e fo0 hf vG tel⟩
noncomputable abbrev mrN:List Str:=["_law_base","_law_many","_law_big_here","_law_most","_law_way","_law_mate"]
theorem qGu:FnScope mrN ["_law_base","_law_many","_law_big_here","_law_most"] (qAc qWs):=fsk
noncomputable abbrev mrC:List Str:=["_law_step","_law_mate","_law_many"]
theorem zBo(F:Fun K "_law_with_more" "_law_with_more" qWs f fd)(ml:mg "len"=none):v8 1 f fd ["_law_base","_law_many","_law_big_here","_law_most"] qYo:=by
 refine F.okA qGu λcdv A outer s H vs Q E hr h=>?_
 obtain⟨p,ms,m,M,b,rfl,hp,lm,m0,M12,mM,lt,q⟩:=h;refine⟨_,qAa (qKb PassesOwn.never (qAn qFs (pv 1) (pv 3) (qAu _))
   (qAa (v4 4 qGu (qAg qBb (pv 2) qAb))
   (qAa (v6 5 qGu (qAg qBb (qAg qA5 (pv 2) qAb) (pv 1)))
   (qAa (v4 2 qGu (qAg qA5 (qAg qA5 (pv 2) qAb) (pv 1)))
   (qAa (qBo (PW.pt (qI9 (qAn qB8 (pv 4) qAb (qAu _)) (qGd (qAn qFs (qAj qAl rfl ml hAy (pa1 (pv 0))) qAb (qAu _)))))
     (qAe (v4 0 qGu (qAg qCi (pv 0) (qA4 (pa1 (qAg qCd qAb (pv 1)))))))
     (qAe (qBo (PW.pt (qI9 (qAn qB8 (pv 4) qAb (qAu _)) (qGd (qAn qFs (qAj qAl rfl ml hAy (pa1 (pv 0))) qAb (qAu _)))))
      (qAe (v4 0 qGu (qAg qCi (pv 0) (qA4 (pa1 (qAg zBb (qAg qCd qAb (pv 1)) (qAg qCd qAb (pv 5))))))))
      (qAe (qBo (qAn qB8 (pv 4) qAb (qAu _))
       (qAe (qW7 (i:=0) (N:=mrN) (sc:=qAc qWs) (N':=mrC) (sub:=[none,some 5,some 1]) rfl rfl (CmpOk.of (by decide +kernel)) rfl (qAp (pv 0))
        (λC s H fp=>⟨qAm (i:=0) (by show mrC.Nodup;decide) rfl vE,qAz,qAg zBb (pv 0) (qAg qCd (qAg qBr (qAg qFq (pv 0) (pv 1)) qAb) (pv 2))⟩) qGu.nd rfl vE))
       qA1)))))
   (qAe (qLu (i:=1) qGu.nd rfl (Or.inr rfl) qAb qQb)))))))
  (qAe (qAt (pv 0))),?_⟩
 refine⟨λk σ H'=>∃(p:Addr) (ms:List Nat) (m:Nat) (b:Int) (x4 x5:Option V),k=M-m/\σ=[some (.ref p),some (iV m),some (.int b),some (iV M),x4,x5]/\Ext H H'/\LsN H' p ms/\ms.length<=12/\0<m/\m<=M/\∀x∈ms,x<2^m,⟨_,p,ms,m,b,none,none,rfl,rfl,Ext.refl _,hp,lm,m0,mM,lt⟩,?_⟩;clear hp lm m0 mM lt;rintro k σ H' ⟨p,ms,m,b,x4,x5,rfl,rfl,e,hp,lm,m0,mM,lt⟩;refine⟨_,rfl,_,rfl,_,_,rfl,rfl,_,rfl,?_⟩;refine qBw (λc=>?_) (λc=>?_)
 ·have c':m<M:=by
   have:(m:Int)<(M:Int):=hEi c;omega
  refine⟨λσ' H'=>∃k',k'<M-m/\∃(p:Addr) (ms:List Nat) (m:Nat) (b:Int) (x4 x5:Option V),k'=M-m/\σ'=[some (.ref p),some (iV m),some (.int b),some (iV M),x4,x5]/\Ext H H'/\LsN H' p ms/\ms.length<=12/\0<m/\m<=M/\∀x∈ms,x<2^m,λ_ _ h=>h,?_⟩;have mm0:(0:Int)<(m:Int):=by omega
  obtain⟨mt,hmt,mtl⟩:∃mt:Nat,b / 4 % (m:Int)=(mt:Int)/\mt<m:=by
   have h1:=hBj (b / 4) (show(m:Int)≠0 by omega);have h2:=hBc (b / 4) mm0;exact⟨(b / 4 % (m:Int)).toNat,by omega,by omega⟩
  refine⟨_,rfl,_,_,rfl,rfl,(by show(0:Int)<_;decide),?_⟩;refine⟨_,rfl,_,_,rfl,rfl,⟨by decide,by decide⟩,_,rfl,_,_,rfl,rfl,mm0,?_⟩;refine⟨_,rfl,_,_,rfl,rfl,⟨by decide,by decide⟩,_,rfl,_,_,rfl,rfl,⟨mm0,by omega⟩,?_⟩;have mte:(λi j:Int=>V.int (i % j)) (b / 4) (m:Int)=iV mt:=by show V.int _=V.int _;rw[hmt]
  rw[mte];have fin:∀(p':Addr) (ns:List Nat) (b':Int) (x4' x5':Option V) (H2:Hp),Ext H H2->LsN H2 p' ns->ns.length<=12->(∀x∈ns,x<2^(m+1))->∃k',k'<M-m/\∃(p:Addr) (ms:List Nat) (m2:Nat) (b:Int) (x4 x5:Option V),k'=M-m2/\[some (V.ref p'),some (V.int ((m:Int)+1)),some (.int b'),some (iV M),x4',x5']=[some (.ref p),some (iV m2),some (.int b),some (iV M),x4,x5]/\Ext H H2/\LsN H2 p ms/\ms.length<=12/\0<m2/\m2<=M/\∀x∈ms,x<2^m2:=λp' ns b' x4' x5' H2 h1 h2 h3 h4=>⟨M-(m+1),by omega,p',ns,m+1,b',x4',x5',rfl,rfl,h1,h2,h3,by omega,by omega,h4⟩
  have up:∀x∈ms,x<2^(m+1):=λx hx=>hAo (lt x hx) (hBd (by decide) vG)
  have pm:2^m<2^(m+1):=hCb (by decide) vG;have pmt:2^mt<2^(m+1):=hCb (by decide) vG;have nope:∀(k k':Int),k≠k'->decide (V.int (b % 4)=V.int k)=true->¬decide (V.int (b % 4)=V.int k')=true:=λk k' ne h1 h2=>by
   rw[hEl,V.int.injEq]at h1 h2;exact ne (h1.symm.trans h2)
  have bc:∀z:Nat,Builtin.bitAnd ((z:Int) / 2^((mt:Int)).toNat) 1=(((if z.testBit mt=true then 1 else 0:Nat):Nat):Int):=λz=>by
   rw[hB7,qEe];split <;> rfl
  refine⟨_,rfl,rfl,_,rfl,?_⟩;refine qBw (λc1=>?_) (λc1=>?_)
  ·refine⟨_,rfl,p,_,rfl,.inl (SqL.of hp),_,_,rfl,rfl,_,rfl,?_⟩;refine qBw (λc2=>?_) (λc2=>?_)
   ·have l8:ms.length<8:=by
     have:(((ms.map iV).length:Nat):Int)<8:=hEi c2;rw[hA1]at this;omega
    refine⟨_,rfl,_,rfl,_,_,rfl,rfl,⟨by omega,by omega,by decide⟩,(by show 1<=sizeLine;decide),λl hl=>?_⟩;have X1:=Ext.new hl (.lst [V.int (1*2^((m:Int)).toNat)]);refine⟨p,l,_,_,rfl,rfl,X1 _ _ hp,upd_same,?_,λl2 hl2=>?_⟩
    ·rw[hA1];show _+1<=sizeLine;exact hB9 (qAf vG)
    ·refine⟨_,rfl,_,_,rfl,rfl,fin l2 (ms++[2^m]) _ _ _ _ (e.trans (X1.trans (Ext.new hl2 _))) ?_ (by rw[hAf];show _+1<=12;omega) λy hy=>(hAb.mp hy).elim (up y) λz=>by rw[hA3.mp z];exact pm⟩;unfold LsN;rw[upd_same,hA4];show some (HO.lst (_++[V.int (1*2^((m:Int)).toNat)]))=_;rw[qBt];rfl
   ·refine⟨_,rfl,rfl,_,rfl,?_⟩;refine qBw (λc3=>absurd c3 (nope 0 1 (by decide) c1)) (λc3=>qG5 ?_);refine⟨_,rfl,rfl,_,rfl,?_⟩;refine qBw (λc4=>absurd c4 (nope 0 2 (by decide) c1)) (λc4=>?_);exact⟨_,rfl,_,_,rfl,rfl,fin p ms _ _ _ _ e hp lm up⟩
  ·refine qG5 ⟨_,rfl,rfl,_,rfl,?_⟩;have thr:∀(h:¬False),True:=λ_=>trivial
   refine qBw (λc3=>?_) (λc3=>?_)
   ·refine⟨_,rfl,p,_,rfl,.inl (SqL.of hp),_,_,rfl,rfl,_,rfl,?_⟩;refine qBw (λc2=>?_) (λc2=>?_)
    ·have l8:ms.length<8:=by
      have:(((ms.map iV).length:Nat):Int)<8:=hEi c2;rw[hA1]at this;omega
     refine⟨_,rfl,_,rfl,_,_,rfl,rfl,⟨by omega,by omega,by decide⟩,_,rfl,_,_,rfl,rfl,⟨by omega,by omega,by decide⟩,_,_,rfl,rfl,(by show 1<=sizeLine;decide),λl hl=>?_⟩;have X1:=Ext.new hl (.lst [V.int (Builtin.bitOr (1*2^((m:Int)).toNat) (1*2^((mt:Int)).toNat))]);refine⟨p,l,_,_,rfl,rfl,X1 _ _ hp,upd_same,?_,λl2 hl2=>?_⟩
     ·rw[hA1];show _+1<=sizeLine;exact hB9 (qAf vG)
     ·refine⟨_,rfl,_,_,rfl,rfl,fin l2 (ms++[2^m ||| 2^mt]) _ _ _ _ (e.trans (X1.trans (Ext.new hl2 _))) ?_ (by rw[hAf];show _+1<=12;omega) λy hy=>(hAb.mp hy).elim (up y) λz=>by rw[hA3.mp z];exact Nat.or_lt_two_pow pm pmt⟩;unfold LsN;rw[upd_same,hA4];show some (HO.lst (_++[V.int (Builtin.bitOr (1*2^((m:Int)).toNat) (1*2^((mt:Int)).toNat))]))=_;rw[qBt,qBt,qOl];rfl
    ·refine⟨_,rfl,rfl,_,rfl,?_⟩;refine qBw (λc4=>absurd c4 (nope 1 2 (by decide) c3)) (λc4=>?_);exact⟨_,rfl,_,_,rfl,rfl,fin p ms _ _ _ _ e hp lm up⟩
   ·refine qG5 ⟨_,rfl,rfl,_,rfl,?_⟩;refine qBw (λc4=>?_) (λc4=>?_)
    ·refine⟨_,rfl,p,rfl,⟨_,SqL.of hp⟩,?_⟩;refine qBm (λ_=>true) (λz=>z ||| (if z.testBit mt=true then 1 else 0) <<< m) hp vG (λz hz C B cc bb=>⟨sls,?_⟩) ?_
     ·refine iteT (B:=B H') ⟨_,rfl,_,rfl,_,rfl,_,_,rfl,rfl,(by show(0:Int)<=_;omega),_,_,rfl,rfl,_,rfl,_,_,rfl,rfl,⟨by omega,by omega,?_⟩,_,_,rfl,rfl,?_⟩
      ·rw[bc];split <;> decide
      ·have:=cc rfl;rw[show iV (z ||| (if z.testBit mt=true then 1 else 0) <<< m)=V.int (Builtin.bitOr (z:Int) (Builtin.bitAnd ((z:Int) / 2^((mt:Int)).toNat) 1*2^((m:Int)).toNat)) by rw[bc,qPb,qOl]]at this;exact this
     ·intro l hl;refine⟨_,rfl,_,_,rfl,rfl,fin l _ _ _ _ _ (e.trans (Ext.new hl _)) upd_same ?_ λy hy=>?_⟩
      ·rw[hA1];exact hAw (hAz _ _) lm
      ·obtain⟨z,hz,rfl⟩:=hAe.mp hy;refine Nat.or_lt_two_pow (up z (hAd.mp hz).1) ?_;split
       ·rw[Nat.shiftLeft_eq,Nat.one_mul];exact pm
       ·rw[Nat.zero_shiftLeft];exact Nat.two_pow_pos _
    ·exact⟨_,rfl,_,_,rfl,rfl,fin p ms _ _ _ _ e hp lm up⟩
 ·have c':¬(m:Int)<(M:Int):=λz=>c (hEf z)
  have e2:m=M:=by omega
  exact⟨_,rfl,q p ms _ e hp vG (e2▸lt)⟩
end
theorem qYb(z p:Nat):Builtin.bitAnd (z:Int) (1*2^((p:Int)).toNat-1)=((z&&&(2^p-1):Nat):Int):=by
 rw[qBt];have:0<2^p:=Nat.pow_pos (by decide);rw[show((2^p:Nat):Int)-1=((2^p-1:Nat):Int) by omega,qCl]
theorem qGq:∀ {as:List α} {bs:List β} {cs:List α} {ds:List β},Paired R as bs->Paired R cs ds->Paired R (as++cs) (bs++ds)
 |_,_,_,_,.nil,h=>h
 |_,_,_,_,.cons a r,h=>.cons a (qGq r h)
noncomputable def rwE(x:Nat)(n:Nat):List (Int×Int):=(List.range n).map λ(y:Nat)=>((0+(x:Int)),(0+(y:Int)))
def prs:Nat->List (Int×Int)
 |0=>[]
 |i+1=>prs i++rwE i 6
noncomputable def pr2(t:Int×Int):Bool:=decide (t.1<t.2) && decide (t.2<5)
noncomputable def pr3(t:Int×Int):Bool:=decide (t.1<3) && decide (3<=t.2)
theorem qNr(x n:Nat):(rwE x n).length=n:=by unfold rwE;rw[hA1,hB4]
theorem qKc:∀i,(prs i).length=6*i
 |0=>rfl
 |i+1=>by
  show(prs i++rwE i 6).length=_;rw[hAf,qKc i,qNr];omega
theorem zA4:0<((prs 6).filter pr2).length:=by decide +kernel
theorem zA3:0<((prs 6).filter pr3).length:=by decide +kernel
theorem qIz(pr:Int×Int->Bool)(hp:H1 p=some (.lst (as.map V.ref)))(pe:Paired (λa t=>H1 a=some (.tup (enV t))) as es)(ln:es.length<=36)
  (hs:∀a t,H1 a=some (.tup (enV t))->∀(C:V->Hp->Prop) (B:Hp->Prop),(pr t=true->C (.ref a) H1)->(pr t=false->B H1)->g (.ref a) σ0 H1 λσ2 H2=>Sle σ0 σ2/\tt σ2 H2 λb H3=>if b=true then te σ2 H3 C else B H3)
  (hd:∀bs,Paired (λa t=>H1 a=some (.tup (enV t))) bs (es.filter pr)->Q (bs.map V.ref) H1):qEp (Itl K p) σ0 g tt te Q H1:=by
 have la:as.length=es.length:=pe.length;refine qAq (xs:=as.map V.ref) (λj ys H2=>H2=H1/\∃bs:List Addr,ys=bs.map V.ref/\Paired (λa t=>H1 a=some (.tup (enV t))) bs ((es.take j).filter pr)) ⟨rfl,[],rfl,.nil⟩ (λj ys H2 _ h=>by rw[h.1];exact SqL.of hp) ?_ ?_
 ·rintro j x ys H2 hx ⟨rfl,bs,rfl,pb⟩;obtain⟨a,rfl,ha⟩:=qA7 hx;obtain⟨t,ht,h1⟩:=qAr pe ha;have hj:=qAx ht;have lb:bs.length=_:=pb.length;have sz:=hAz pr (es.take j);rw[hAm]at sz;refine hs a t h1 _ _ (λb=>⟨by rw[hA1];exact qAf vG,nxt (qAx hx) ⟨rfl,bs++[a],by rw[hA4];rfl,?_⟩⟩) (λb=>nxt (qAx hx) ⟨rfl,bs,rfl,?_⟩)
  ·rw[zE4 ht b];exact pb.snoc h1
  ·rw[zE5 ht b];exact pb
 ·rintro ys H2 ⟨rfl,bs,rfl,pb⟩;rw[hA1,la,hA5 (hA9 _)]at pb;exact hd bs pb
section
variable{P:Program}{w:World}{K:PySem.W.Frag}{mg:Str->Option Value}{base:Heap}{f f1 f2 f3 f4 f5:Addr}{fd fd1 fd2 fd3 fd4 fd5:FuncData}
noncomputable abbrev smN:List Str:=["_law_kind_here","_law_base","_law_pairs","_law_one","_law_lights","_law_point"]
theorem qFl:FnScope smN ["_law_kind_here"] (qAc qNp):=fsk
noncomputable abbrev smC:List Str:=["_law_k","_law_pair","_law_point"]
theorem zBk(F:Fun K "_law_small" "_law_small" qNp f fd)(G1:v9 2 f1 fd1 ["_law_numbers","_law_many"] qYt "_law_crossing")
  (G2:v9 1 f2 fd2 ["_law_numbers"] qHp "_law_reduced") (msu:mg "sum"=none) (mr:mg "range"=none) (me:mg "enumerate"=none) (ml:mg "len"=none):v8 3 f fd ["_law_kind_here"] qYm:=by
 refine F.okA qFl λcdv A outer s H vs Q E hr h=>?_
 obtain⟨k,rfl,k0,k4,q⟩:=h;have hr1:=hr.mono (j:=1) (by decide);refine⟨_,qAa (qBo (qAn qFs (pv 0) qAb (qAu _))
   (qAa (v4 1 qFl (qA4 (qAd qAb (qAd qAb (qAd qAb (pa1 qAb))))))
   (qAe (qAt (qA6 (qAd qAb (pa1 (qBe qB0 (qA4 (qAd (pv 1) (pa1 (qAw G1 hr rfl .nil qAv (qAd (pv 1) (pa1 qAb)))))) (pv 0) (λ_ _=>rfl))))))))
   qA1)
  (qAa (v4 2 qFl (qA4 qA3))
  (qAa (qBa PassesOwn.never rfl (qBd rfl mr (pa1 qAb)) (v7 3 qFl)
   (qAe (v4 2 qFl (qAg qCi (pv 2) (qA8 (N:=smN) (sc:=qAc qNp) (N':=["_law_other","_law_one"]) (sub:=[none,some 3]) (qBd rfl mr (pa1 qAb)) (λC s H fp=>⟨qAz,qA6 (qAd (pv 1) (pa1 (pv 0)))⟩))))))
  (qAa (qJa (λσ H2=>∃(pa:Addr) (x3:Option V) (es:List (Int×Int)),σ=[some (.int k),none,some (.ref pa),x3,none,none]/\Ext H H2/\qBn H2 pa es/\0<es.length/\es.length<=12) (qBo (qAn qB8 (pv 0) qAb (qAu _))
   (qAe (qDe (i:=2) (N:=smN) (sc:=qAc qNp) (N':=["_law_pair"]) (sub:=[none]) (qAp (pv 2)) (λC s H fp=>⟨qBk (qPs qFs qFs (qBe (show IxR _ (qNz K) from qBq) (pv 0) qAb (λ_ _=>rfl)) (qBe (show IxR _ (qNz K) from qBq) (pv 0) qAb (λ_ _=>rfl)) qAb),pv 0⟩) qFl.nd rfl vE))
   (qAe (qDe (i:=2) (N:=smN) (sc:=qAc qNp) (N':=["_law_pair"]) (sub:=[none]) (qAp (pv 2)) (λC s H fp=>⟨qBk (qPs qFs zF9 (qBe (show IxR _ (qNz K) from qBq) (pv 0) qAb (λ_ _=>rfl)) qAb (qBe (show IxR _ (qNz K) from qBq) (pv 0) qAb (λ_ _=>rfl))),pv 0⟩) qFl.nd rfl vE))))
  (qAa (v4 4 qFl (qA4 qA3))
  (qAa (qBa PassesOwn.never rfl (qBd rfl mr (pa1 qAb)) (v7 5 qFl)
   (qAe (qCp (qEb hB1 hBk hBl qBz (pv 4) (pa1 (qAj (qC5 rfl) rfl msu qC7 (pa1 (qGf (N:=smN) (sc:=qAc qNp) (N':=smC) (sub:=[none,none,some 5]) rfl rfl (CmpOk.of (by decide +kernel)) rfl (qFb rfl me (pa1 (pv 2)))
    (λC s H fp=>⟨(show PG _ _ (zCs K 2 _) from qB5 rfl (qAs (qAm (i:=0) (by show smC.Nodup;decide) rfl vE) (qAs (qAm (i:=1) (by show smC.Nodup;decide) rfl vE) qBl))),
     qBk (qAn (show OpR _ (compareOp .In) (rIn K false) from qDs) (pv 2) (pv 1) (by with_unfolding_all rfl)),qAg qCd qAb (pv 0)⟩)))))))))
  (qAe (qAt (qA6 (qAd (qAj qAl rfl ml hAy (pa1 (pv 2))) (pa1 (qAw G2 hr1 rfl .nil qAv (pa1 (pv 4))))))))))))),?_⟩
 refine⟨_,rfl,_,_,rfl,rfl,_,rfl,?_⟩;refine qBw (λc=>?_) (λc=>?_)
 ·have k2:k<2:=hEi c;refine⟨(by show 4<=sizeLine;decide),λl0 h0=>?_⟩;have X0:=Ext.new h0 (.lst ([7,25,42,75].map iV));have hl0:LsN (upd H l0 (.lst ([7,25,42,75].map iV))) l0 [7,25,42,75]:=upd_same;refine⟨_,rfl,_,rfl,l0,[7,25,42,75],7,rfl,hl0,by decide,by decide,λr ns H1 e1 r0 hr1' ln lt=>?_⟩;refine⟨(by show 2<=sizeLine;decide),λl1 hl1=>?_⟩;have X1:=Ext.new hl1 (.lst [V.ref l0,V.ref r]);obtain rfl|rfl:k=0\/k=1:=by omega
  ·refine⟨_,rfl,l1,_,_,_,rfl,rfl,SqL.of upd_same,(by exact qA0 (j:=0) rfl),(by show 2<=sizeLine;decide),λT hT=>?_⟩;have XT:=X1.trans (Ext.new hT (.tup [iV 7,V.ref l0]));exact q T l0 7 [7,25,42,75] _ (X0.trans (e1.trans XT)) upd_same (XT _ _ (e1 _ _ hl0)) (by decide) (by decide) (by decide) (by decide)
  ·refine⟨_,rfl,l1,_,_,_,rfl,rfl,SqL.of upd_same,(by exact qA0 (j:=1) rfl),(by show 2<=sizeLine;decide),λT hT=>?_⟩;have XT:=X1.trans (Ext.new hT (.tup [iV 7,V.ref r]));exact q T r 7 ns _ (X0.trans (e1.trans XT)) upd_same (XT _ _ hr1') ln (by decide) (by decide) (lt (by decide))
 refine⟨hAt _,λp0 hp0=>?_⟩;refine⟨6,rfl,by decide,by decide,qB3 (lo:=0) (n:=6) (λi σ H'=>∃(pa:Addr) (x3:Option V),σ=[some (.int k),none,some (.ref pa),x3,none,none]/\Ext H H'/\qBn H' pa (prs i)) ⟨p0,none,rfl,Ext.new hp0 _,[],upd_same,.nil⟩ ?_ ?_⟩
 ·rintro i σ H' hi ⟨pa,x3,rfl,e,⟨as,hpa,pae⟩⟩;have la:as.length=6*i:=by rw[pae.length,qKc]
  refine⟨_,rfl,6,rfl,by decide,by decide,?_⟩;refine qDy (lo:=0) (n:=6) (λj ys H2=>Ext H' H2/\∃bs:List Addr,ys=bs.map V.ref/\Paired (λa t=>H2 a=some (.tup (enV t))) bs (rwE i j)) ⟨Ext.refl _,[],rfl,.nil⟩ ?_ ?_
  ·rintro j ys H2 hj ⟨e2,bs,rfl,pb⟩;have lb:bs.length=j:=by rw[pb.length,qNr]
   refine⟨sls,iteT (B:=False) ⟨_,rfl,_,rfl,(by show 2<=sizeLine;decide),λT hT=>⟨by rw[hA1];exact qAf vG,nxt hj ⟨e2.trans (Ext.new hT _),bs++[T],by rw[hA4];rfl,?_⟩⟩⟩⟩;have er:rwE i (j+1)=rwE i j++[((0+(i:Int)),(0+(j:Int)))]:=by
    unfold rwE;rw[hCk,hA4];rfl
   rw[er];exact Paired.snoc (Paired.mapP pb λa t z=>(Ext.new hT _) _ _ z) upd_same
  ·rintro ys H2 ⟨e2,bs,rfl,pb⟩ l hl;have lb:bs.length=6:=by rw[pb.length,qNr]
   have Xl:=e2.trans (Ext.new hl (.lst (bs.map V.ref)));refine⟨pa,l,_,_,rfl,rfl,Xl _ _ hpa,upd_same,by rw[hA1,hA1];exact hB9 (qAf vG),λl3 hl3=>?_⟩;have X3:=Ext.new hl3 (.lst (as.map V.ref++bs.map V.ref));refine⟨l3,_,rfl,(e.trans Xl).trans X3,as++bs,by rw[upd_same,hA4],qGq (Paired.mapP pae λa t z=>(Xl.trans X3) _ _ z) (Paired.mapP pb λa t z=>((Ext.new hl _).trans X3) _ _ z)⟩
 rintro σ H' ⟨pa,x3,rfl,e,⟨as,hpa,pae⟩⟩;refine⟨?_,?_⟩
 ·refine⟨_,rfl,rfl,_,rfl,?_⟩;refine qBw (λck=>?_) (λck=>?_)
  ·refine⟨_,rfl,pa,rfl,⟨_,SqL.of hpa⟩,?_⟩;refine qIz pr2 hpa pae (by rw[qKc];decide) (λa t ha C B c b=>⟨sls,?_⟩) ?_
   ·refine⟨_,rfl,a,_,_,_,rfl,rfl,SqT.of ha,(by exact qA0 (j:=0) rfl),_,rfl,a,_,_,_,rfl,rfl,SqT.of ha,(by exact qA0 (j:=1) rfl),_,_,rfl,rfl,_,rfl,?_⟩;refine qBw (λc1=>?_) (λc1=>?_)
    ·refine⟨_,_,rfl,rfl,_,rfl,?_⟩;refine qBw (λc2=>⟨_,rfl,c ?_⟩) (λc2=>b ?_)
     ·show(decide _ && decide _)=true;rw[c1,c2];rfl
     ·show(decide _ && decide _)=false;rw[c1,hBw];simpa using c2
    ·refine⟨_,rfl,qG5 (b ?_)⟩;show(decide _ && decide _)=false;rw[show decide _=false by simpa using c1];rfl
   ·intro bs pb l hl;have Xl:=Ext.new hl (.lst (bs.map V.ref));exact⟨l,_,_,rfl,e.trans Xl,⟨bs,upd_same,Paired.mapP pb λa t z=>Xl _ _ z⟩,zA4,by decide +kernel⟩
  ·refine⟨_,rfl,pa,rfl,⟨_,SqL.of hpa⟩,?_⟩;refine qIz pr3 hpa pae (by rw[qKc];decide) (λa t ha C B c b=>⟨sls,?_⟩) ?_
   ·refine⟨_,rfl,a,_,_,_,rfl,rfl,SqT.of ha,(by exact qA0 (j:=0) rfl),_,_,rfl,rfl,_,rfl,?_⟩;refine qBw (λc1=>?_) (λc1=>?_)
    ·refine⟨_,rfl,a,_,_,_,rfl,rfl,SqT.of ha,(by exact qA0 (j:=1) rfl),_,_,rfl,rfl,_,rfl,?_⟩;refine qBw (λc2=>⟨_,rfl,c ?_⟩) (λc2=>b ?_)
     ·show(decide _ && decide _)=true;rw[c1,c2];rfl
     ·show(decide _ && decide _)=false;rw[c1,hBw];simpa using c2
    ·refine⟨_,rfl,qG5 (b ?_)⟩;show(decide _ && decide _)=false;rw[show decide _=false by simpa using c1];rfl
   ·intro bs pb l hl;have Xl:=Ext.new hl (.lst (bs.map V.ref));exact⟨l,_,_,rfl,e.trans Xl,⟨bs,upd_same,Paired.mapP pb λa t z=>Xl _ _ z⟩,zA3,by decide +kernel⟩
 ·rintro σ H2 ⟨pa,x3,es,rfl,e,en,pos,le36⟩;obtain⟨bs,hpa,pae⟩:=id en;have lb:bs.length=es.length:=pae.length;refine⟨hAt _,λli li0=>?_⟩;refine⟨6,rfl,by decide,by decide,qB3 (lo:=0) (n:=6) (λi σ H'=>∃(x5:Option V) (ns:List Nat),σ=[some (.int k),none,some (.ref pa),x3,some (.ref li),x5]/\Ext H2 H'/\LsN H' li ns/\ns.length<=i/\∀x∈ns,x<2^es.length) ⟨none,[],rfl,Ext.new li0 _,upd_same,hA9 _,λx hx=>(by cases hx)⟩ ?_ ?_⟩
  ·rintro i σ H' hi ⟨x5,ns,rfl,e2,hli,ln,lt⟩;refine⟨_,rfl,.inl ⟨rfl,_,SqL.of hli⟩,_,rfl,pa,_,rfl,SqL.of (e2 _ _ hpa),?_⟩;rw[hA1];refine qEd (λj ys H3=>Ext H' H3/\∃ms:List Nat,ys=ms.map iV/\ms.length<=j/\ms.sum<2^j) ⟨Ext.refl _,[],rfl,hA9 _,by decide⟩ (λj ys H3 _ p=>SqL.of (p.1 _ _ (e2 _ _ hpa))) ?_ ?_
   ·rintro j ys H3 T hj ⟨e3,ms,rfl,lm,sm⟩ hT;have gd:(bs.map V.ref).getD j .non = .ref bs[j]:=by rw[hAa,hAl,hA2 hj];rfl
    obtain⟨t,ht,h1⟩:=qAr pae (hA2 hj);have e4:=e3.trans (Ext.new hT (.tup [V.int (j:Nat),(bs.map V.ref).getD j .non]));refine⟨T,_,rfl,SqT.of upd_same,rfl,_,_,rfl,_,_,rfl,rfl,?_⟩;refine⟨Sle.set _ (sls) (λu z=>by cases z),?_⟩;refine⟨_,rfl,_,rfl,bs[j],_,gd,.inr (SqT.of ((e2.trans e4) _ _ h1)),rfl,rfl,_,rfl,?_⟩;refine qBw (λc3=>?_) (λc3=>?_)
    ·refine⟨_,rfl,_,_,rfl,rfl,⟨by omega,by omega,by decide⟩,by rw[hA1];exact qAf vG,nxt hj ⟨e4,ms++[2^j],?_,by rw[hAf];exact hD0 lm,by rw[hDh,List.sum_singleton,hD7];omega⟩⟩;rw[hA4];show _++[V.int (1*2^(((j:Nat):Int)).toNat)]=_;rw[qBt];rfl
    ·exact nxt hj ⟨e4,ms,rfl,Nat.le_succ_of_le lm,by rw[hD7];omega⟩
   ·rintro ys H3 ⟨e3,ms,rfl,lm,sm⟩ l hl;have e4:=e3.trans (Ext.new hl (.lst (ms.map iV)));refine⟨l,ms.map (λn:Nat=>(n:Int)),rfl,SqL.of (by rw[upd_same,qCj]),?_⟩;rw[qDb];refine⟨li,_,_,rfl,rfl,e4 _ _ hli,by rw[hA1];exact qAf vG,?_⟩;refine⟨_,ns++[ms.sum],rfl,(e2.trans e4).over li0 _,?_,by rw[hAf];exact hD0 ln,λy hy=>(hAb.mp hy).elim (lt y) λz=>by rw[hA3.mp z,<-lb];exact sm⟩;unfold LsN;rw[upd_same,hA4];rfl
  ·rintro σ H' ⟨x5,ns,rfl,e2,hli,ln,lt0⟩;refine⟨_,rfl,pa,_,rfl,.inl (SqL.of (e2 _ _ hpa)),_,rfl,li,ns,es.length,rfl,hli,by omega,lt0,λr H5 e5 r0 hr5=>⟨(by show 2<=sizeLine;decide),λT hT=>?_⟩⟩;have lR:=qEj ns;have XT:=Ext.new hT (.tup [V.int (((bs.map V.ref).length:Nat):Int),V.ref r]);refine q T r es.length (redL ns) _ ((e.trans e2).trans (e5.trans XT)) ?_ (XT _ _ hr5) vG pos le36 (λx hx=>Spn.lt lt0 (qEi x hx));rw[upd_same,hA1,lb]
end
def Lrr(k:List Nat):Prop:=∃m,Gm m k/\RR (k.map (rv m))
theorem qFn(xs:List Nat):Lrr (redL xs):=by
 obtain⟨m,h⟩:=qRq xs;obtain⟨g,e⟩:=qDk xs h;exact⟨m,g,by rw[e];exact qB1 _⟩
theorem Lrr.take(h:Lrr k)(n:Nat):Lrr (k.take n):=by
 obtain⟨m,g,r⟩:=h;refine⟨m,λs hs=>g s (hDe hs),⟨λs hs=>?_,?_⟩⟩
 ·obtain⟨t,ht,rfl⟩:=hAe.mp hs;exact r.nz _ (hAu (hDe ht))
 ·rw[List.map_take];exact r.ap.sublist (List.take_sublist _ _)
theorem qSz(hj:j<m):rv m (2^j)=2^(m-1-j):=hAh λi=>by
 rw[qB4,hAi,hAi];by_cases h:i<m
 ·rw[hEf h,hBw];exact decide_eq_decide.mpr vG
 ·rw[hEg h,Bool.false_and];exact(hEg vG).symm
theorem qS1(r:RR K)(h:Spn K (2^i)):∀T∈K,T=2^i\/T.testBit i=false:=by
 have nz:(2:Nat)^i≠0:=hCj (Nat.pow_pos (by decide));obtain⟨S,hS,e⟩:=qJr r h nz;rw[Nat.log2_two_pow]at e;have z:2^i^^^S=0:=by
  refine qO0 r (h.xor (.mem hS)) λT hT=>?_
  rw[hAn,hAi];by_cases q:T=S
  ·subst q;rw[e,hEf rfl];have:=r.self hT;rw[e]at this;rw[this];rfl
  ·have h1:=r.ne hS hT (λw=>q w.symm);rw[h1];by_cases w:i=T.log2
   ·have h2:=r.self hS;rw[e,w,h1]at h2;cases h2
   ·rw[hEg w];rfl
 have eS:S=2^i:=by
  have:=congrArg (λx=>2^i^^^x) z;simp only[<-hBe,hBv,hBy,hEd]at this;exact this
 intro T hT;by_cases q:T=S
 ·exact .inl (q.trans eS)
 ·refine .inr ?_;have:=r.ne hT hS q;rw[e]at this;exact this
theorem Lrr.single(h:Lrr k)(hs:Spn k (2^j)):∀t∈k,t=2^j\/t.testBit j=false:=by
 obtain⟨m,g,r⟩:=h;have lt:∀x∈k,x<2^m:=λx hx=>(g x hx).1
 have hj2:2^j<2^m:=hs.lt lt;have hj:j<m:=(Nat.pow_lt_pow_iff_right (by decide)).mp hj2;have h1:=(qCc lt hj2).mpr hs;rw[qSz hj]at h1;intro t ht;rcases qS1 r h1 (rv m t) (hAu ht) with z|z
 ·left
  have:=congrArg (rv m) z;rw[qJ4 (lt t ht),qSz vG]at this;rw[this];congr 1;omega
 ·right
  rw[qB4,hEf vG,hBw]at z;rw[<-z];congr 1;omega
theorem qOt:∀(n a b:Nat),a<=n->a&&&b=0->a+b=a ||| b
 |0,a,b,ha,_=>by
  have:a=0:=by omega
  subst this;simp
 |n+1,a,b,ha,h=>by
  by_cases z:a=0
  ·subst z;simp
  have h2:a / 2&&&b / 2=0:=by rw[<-Nat.and_div_two,h]
  have ih:=qOt n (a / 2) (b / 2) vG h2;have h0:(a&&&b).testBit 0=false:=by rw[h];exact hB0 0
  rw[hAr,hB5,hB5]at h0;have e0:(a ||| b).testBit 0=(decide (a % 2=1) || decide (b % 2=1)):=by rw[hCi,hB5,hB5]
  rw[hB5]at e0;have e1:(a ||| b) / 2=a / 2+b / 2:=by rw[Nat.or_div_two,ih]
  rw[show a+b=a ||| b↔a ||| b=a+b from eq_comm];generalize (a ||| b)=q at e0 e1 ⊢;have ma:a % 2=0\/a % 2=1:=by omega
  have mb:b % 2=0\/b % 2=1:=by omega
  rcases ma with ma|ma <;> rcases mb with mb|mb <;> rw[ma,mb]at h0 e0 <;> simp at h0 e0 <;> omega
theorem zC5(h:a&&&b=0)(i:Nat):(a+b).testBit i=(a.testBit i || b.testBit i):=by
 rw[qOt a a b (hA9 _) h,hCi]
abbrev Dis(hs:List Nat):Prop:=hs.Pairwise λa b=>a&&&b=0
theorem qBi:∀ {hs:List Nat},Dis hs->∀i,hs.sum.testBit i=true↔∃h∈hs,h.testBit i=true
 |[],_,i=>by
  rw[List.sum_nil,hB0];exact⟨λh=>(by cases h),λ⟨_,h,_⟩=>(by cases h)⟩
 |a :: l,d,i=>by
  obtain⟨d1,d2⟩:=hAs.mp d;have ih:=qBi d2;have z:a&&&l.sum=0:=hAh λj=>by
   rw[hAr,hB0];by_cases w:l.sum.testBit j=true
   ·obtain⟨h,hh,hb⟩:=(ih j).mp w;have:=congrArg (λx=>Nat.testBit x j) (d1 h hh);simp only[hAr,hB0,hb,Bool.and_true]at this;rw[this];rfl
   ·rw[hDd]at w;rw[w,hDs]
  rw[hCy,zC5 z,hE5,ih i];constructor
  ·rintro(h|⟨u,hu,h⟩)
   ·exact⟨a,hA8,h⟩
   ·exact⟨u,hA6 _ hu,h⟩
  ·rintro⟨u,hu,h⟩;rcases hAj.mp hu with rfl|hu
   ·exact .inl h
   ·exact .inr ⟨u,hu,h⟩
noncomputable def blS(hs:List Nat)(n:Nat):List Nat:=(hs.filter λh=>decide (h&&&n=0))++[(hs.filter λh=>!decide (h&&&n=0)).sum]
noncomputable def blF(base:List Nat)(m:Nat):List Nat:=(base.filter λz=>!decide (z=0)).foldl blS ((List.range m).map λk=>2^k)
structure BlI(m:Nat)(hs:List Nat):Prop where
 dis:Dis hs
 lt:∀h∈hs,∀i,h.testBit i=true->i<m
theorem qEo(h:∀i,a.testBit i=true->b.testBit i=true->False):a&&&b=0:=hAh λi=>by
 rw[hAr,hB0];cases ha:a.testBit i with
 |false=>rfl
 |true =>
  cases hb:b.testBit i with
  |false=>rfl
  |true=>exact(h i ha hb).elim
theorem qBp(h:a&&&b=0)(ha:a.testBit i=true)(hb:b.testBit i=true):False:=by
 have:=congrArg (λx=>Nat.testBit x i) h;simp only[hAr,ha,hb,hB0]at this;cases this
theorem qEn:∀ {hs:List Nat},Dis hs->∀ {a c:Nat},a∈hs->c∈hs->a≠c->a&&&c=0
 |h :: hs,d,a,c,ha,hc,ne=>by
  obtain⟨d1,d2⟩:=hAs.mp d;rcases hAj.mp ha with z1|z1
  ·rcases hAj.mp hc with z2|z2
   ·exact(ne (z1.trans z2.symm)).elim
   ·rw[z1];exact d1 c z2
  ·rcases hAj.mp hc with z2|z2
   ·rw[Nat.and_comm,z2];exact d1 a z1
   ·exact qEn d2 z1 z2 ne
theorem BlI.step(I:BlI m hs)(n:Nat):BlI m (blS hs n):=by
 have df:Dis (hs.filter λh=>!decide (h&&&n=0)):=I.dis.sublist hCa;have sb:=qBi df;refine⟨hBh.mpr ⟨I.dis.sublist hCa,hBz _ _,λa ha b hb=>?_⟩,λh hh i hi=>?_⟩
 ·rw[hA3]at hb;subst hb;obtain⟨a1,a2⟩:=hAd.mp ha;refine qEo λi h1 h2=>?_
  obtain⟨c,hc,hi⟩:=(sb i).mp h2;obtain⟨c1,c2⟩:=hAd.mp hc;have ne:a≠c:=λz=>by
   subst z;rw[a2]at c2;cases c2
  have:=qEn I.dis a1 c1 ne;exact qBp this h1 hi
 ·rcases hAb.mp hh with z|z
  ·exact I.lt h (hAd.mp z).1 i hi
  ·rw[hA3]at z;subst z;obtain⟨c,hc,hci⟩:=(sb i).mp hi;exact I.lt c (hAd.mp hc).1 i hci
theorem BlI.first(m:Nat):BlI m ((List.range m).map λk=>2^k):=by
 refine⟨?_,λh hh i hi=>?_⟩
 ·refine hBp.mpr ((hDn (n:=m)).imp λ{a b} ne=>qEo λi h1 h2=>?_);rw[hAi,hEl]at h1 h2;exact ne (h1.trans h2.symm)
 ·obtain⟨k,hk,rfl⟩:=hAe.mp hh;rw[hAi,hEl]at hi;rw[hAv]at hk;omega
theorem qOn:∀ {L hs:List Nat},BlI m hs->(∀h∈hs,h.testBit j=true->h=2^j)->(∀t∈L,t=2^j\/t.testBit j=false)->BlI m (L.foldl blS hs)/\∀h∈L.foldl blS hs,h.testBit j=true->h=2^j
 |[],hs,I,k,_=>⟨I,k⟩
 |t :: L,hs,I,k,hL=>by
  refine qOn (hs:=blS hs t) (L:=L) (I.step t) (λh hh hj=>?_) λu hu=>hL u (hA6 _ hu)
  have df:Dis (hs.filter λh=>!decide (h&&&t=0)):=I.dis.sublist hCa;rcases hAb.mp hh with z|z
  ·exact k h (hAd.mp z).1 hj
  ·rw[hA3]at z;rw[z]at hj ⊢;obtain⟨c,hc,hci⟩:=(qBi df j).mp hj;obtain⟨c1,c2⟩:=hAd.mp hc;have e:=k c c1 hci;subst e;rcases hL t hA8 with rfl|z2
   ·refine hAh λi=>?_
    rw[hAi];by_cases w:j=i
    ·subst w;rw[hj,hEf rfl]
    ·rw[hEg w];cases hb:(hs.filter λh=>!decide (h&&&2^j=0)).sum.testBit i with
     |false=>rfl
     |true =>
      exfalso;obtain⟨d,hd,hdi⟩:=(qBi df i).mp hb;obtain⟨d1,d2⟩:=hAd.mp hd;have dj:d.testBit j=true:=by
       cases q:d.testBit j with
       |true=>rfl
       |false =>
        have:d&&&2^j=0:=qEo λi h1 h2=>by
         rw[hAi,hEl]at h2;subst h2;rw[q]at h1;cases h1
        rw[hEf this]at d2;cases d2
      have:=k d d1 dj;rw[this,hAi,hEl]at hdi;exact w hdi
   ·exfalso;have:2^j&&&t=0:=qEo λi h1 h2=>by
     rw[hAi,hEl]at h1;subst h1;rw[z2]at h2;cases h2
    rw[hEf this]at c2;cases c2
theorem BlI.all:∀ {L hs:List Nat},BlI m hs->BlI m (L.foldl blS hs)
 |[],_,I=>I
 |t :: L,hs,I=>BlI.all (L:=L) (hs:=blS hs t) (I.step t)
theorem qZ2(hh:h∈blF base m):∀i,h.testBit i=true->i<m:=(BlI.all (BlI.first m)).lt h hh
theorem qJi(r:Lrr base)(hs:Spn base (2^j))(hh:h∈blF base m)(hj:h.testBit j=true):h=2^j:=by
 refine(qOn (BlI.first m) (λh hh hj=>?_) (λt ht=>r.single hs t (hAd.mp ht).1)).2 h hh hj;obtain⟨k,hk,rfl⟩:=hAe.mp hh;rw[hAi,hEl]at hj;rw[hj]
theorem qDf(j:Nat):2^j&&&(2^j-1)=0:=qEo λi h1 h2=>by
 rw[hAi,hEl]at h1;subst h1;rw[hC4]at h2;simp at h2
structure One(S:List Nat)(n:Nat):Prop where
 on:∀i,i<n->∃e,Spn S e/\e.testBit i=true
 no:∀i,¬Spn S (2^i)
theorem qVp{m j t:Nat}:∀ {L hs:List Nat},BlI m hs->(∀h∈hs,h.testBit j=true->∀i,t.testBit i=true->h.testBit i=true)->∀h∈L.foldl blS hs,h.testBit j=true->∀i,t.testBit i=true->h.testBit i=true
 |[],_,_,k=>k
 |u :: L,hs,I,k=>by
  refine qVp (L:=L) (hs:=blS hs u) (I.step u) λh hh hj i hi=>?_
  have df:Dis (hs.filter λh=>!decide (h&&&u=0)):=I.dis.sublist hCa;rcases hAb.mp hh with z|z
  ·exact k h (hAd.mp z).1 hj i hi
  ·rw[hA3]at z;rw[z]at hj ⊢;obtain⟨c,hc,hci⟩:=(qBi df j).mp hj;exact(qBi df i).mpr ⟨c,hc,k c (hAd.mp hc).1 hci i hi⟩
theorem zFh(tm:∀i,t.testBit i=true->i<m)(tj:t.testBit j=true):∀ {L hs:List Nat},BlI m hs->(∀i,i<m->∃h∈hs,h.testBit i=true)->t∈L->∀h∈L.foldl blS hs,h.testBit j=true->∀i,t.testBit i=true->h.testBit i=true
 |u :: L,hs,I,cv,ht=>by
  have df:Dis (hs.filter λh=>!decide (h&&&u=0)):=I.dis.sublist hCa;by_cases c:t=u
  ·subst c;refine qVp (L:=L) (hs:=blS hs t) (I.step t) λh hh hj i hi=>?_
   rcases hAb.mp hh with z|z
   ·exact(qBp (hEi (hAd.mp z).2) hj tj).elim
   ·rw[hA3.mp z];obtain⟨h',h1,h2⟩:=cv i (tm i hi);exact(qBi df i).mpr ⟨h',hAd.mpr ⟨h1,by
     cases q:decide (h'&&&t=0) with
     |false=>rfl
     |true=>exact(qBp (hEi q) h2 hi).elim⟩,h2⟩
  ·refine zFh tm tj (L:=L) (hs:=blS hs u) (I.step u) (λi hi=>?_) ((hAj.mp ht).resolve_left c);obtain⟨h',h1,h2⟩:=cv i hi;cases q:decide (h'&&&u=0) with
   |true=>exact⟨h',hAg _ (hAd.mpr ⟨h1,q⟩),h2⟩
   |false=>exact⟨_,hA7 _ (hA3.mpr rfl),(qBi df i).mpr ⟨h',hAd.mpr ⟨h1,by rw[q];rfl⟩,h2⟩⟩
theorem qZ1(lt:∀x∈base,x<2^m)(hh:h∈blF base m)(hj:h.testBit j=true)(ne:h≠2^j):∃t∈base,t.testBit j=true/\∀i,t.testBit i=true->h.testBit i=true:=by
 have bits:∀ {t},t∈base->∀i,t.testBit i=true->i<m:=λ{t} ht i hi=>by
  by_cases c:i<m
  ·exact c
  ·rw[qCo (lt t ht) vG]at hi;cases hi
 refine hC0 λno=>ne ?_
 refine(qOn (BlI.first m) (λh hh hj=>?_) (λt ht=>?_)).2 h hh hj
 ·obtain⟨k,hk,rfl⟩:=hAe.mp hh;rw[hAi,hEl]at hj;rw[hj]
 ·obtain⟨t1,t2⟩:=hAd.mp ht;cases q:t.testBit j with
  |false=>exact .inr rfl
  |true =>
   exact absurd ⟨t,t1,q,zFh (bits t1) q (BlI.first m) (λi hi=>⟨2^i,hAu (hAv.mpr hi),by rw[hAi,hEf rfl]⟩) ht h hh hj⟩ no
theorem zC0(r:Lrr base)(lt:∀x∈base,x<2^m)(m2:2<=m)(e:blF base m=[h]\/(blF base m).Perm [h]):One base m:=by
 have pe:(blF base m).Perm [h]:=e.elim (λz=>z▸hDg _) id;have hh:h∈blF base m:=pe.mem_iff.mpr (hA3.mpr rfl);have full:∀i,i<m->h.testBit i=true:=by
  have cv:∀ {L hs:List Nat},BlI m hs->(∀i,i<m->∃h∈hs,h.testBit i=true)->∀i,i<m->∃h∈L.foldl blS hs,h.testBit i=true:=by
   intro L
   induction L with
   |nil=>exact λ_ c=>c
   |cons u L ih =>
    intro hs I c;refine ih (hs:=blS hs u) (I.step u) λi hi=>?_
    have df:Dis (hs.filter λh=>!decide (h&&&u=0)):=I.dis.sublist hCa;obtain⟨h',h1,h2⟩:=c i hi;cases q:decide (h'&&&u=0) with
    |true=>exact⟨h',hAg _ (hAd.mpr ⟨h1,q⟩),h2⟩
    |false=>exact⟨_,hA7 _ (hA3.mpr rfl),(qBi df i).mpr ⟨h',hAd.mpr ⟨h1,by rw[q];rfl⟩,h2⟩⟩
  intro i hi;obtain⟨h',h1,h2⟩:=cv (BlI.first m) (λi hi=>⟨2^i,hAu (hAv.mpr hi),by rw[hAi,hEf rfl]⟩) i hi;rw[<-hA3.mp (pe.mem_iff.mp h1)];exact h2
 have two:∀j,h≠2^j:=λj z=>by
  have h0:=full 0 vG;have h1:=full 1 vG;rw[z,hAi,hEl]at h0 h1;omega
 refine⟨λi hi=>?_,λi hs=>?_⟩
 ·obtain⟨t,t1,t2,_⟩:=qZ1 lt hh (full i hi) (two i);exact⟨t,.mem t1,t2⟩
 ·have li:i<m:=by
   have:=Spn.lt lt hs;exact(Nat.pow_lt_pow_iff_right (by decide)).mp this
  exact two i (qJi r hs hh (full i li))
def qYl(K:PySem.W.Frag):Sp:=λvs H Q _=>∃(a:Addr) (ns:List Int),vs=[.ref a,.int 1]/\SqL K H a (ns.map V.int)/\∀(T b:Addr) (m:Nat) (ms:List Nat) (H':Hp),Ext H H'->H' T=some (.tup [iV m,.ref b])->LsN H' b ms->m<=12->ms.length<=8->Lrr ms->(∀x∈ms,x<2^m)->Q (.ref T) H'
section
variable{P:Program}{w:World}{K:PySem.W.Frag}{mg:Str->Option Value}{base:Heap}{f f1 f2 f3 f4 f5 f6 f7:Addr}{fd fd1 fd2 fd3 fd4 fd5 fd6 fd7:FuncData}
noncomputable abbrev stN:List Str:=["_law_script","_law_at","_law_big_here","_law_net_here","_law_many","_law_base","_law_most"]
theorem qCu:FnScope stN ["_law_script","_law_at"] (qAc qWp):=fsk
theorem zBj(F:Fun K "_law_steps_of" "_law_steps_of" qWp f fd)
  (G1:v9 2 f1 fd1 ["_law_script","_law_k"] (qRb K) "_law_big")
  (G2:v9 3 f2 fd2 ["_law_script","_law_at"] (zDm K) "_law_net")
  (G3:v9 1 f3 fd3 ["_law_net_here"] qNc "_law_even")
  (G4:v9 1 f4 fd4 ["_law_big_here","_law_many"] qYs "_law_free")
  (G5:v9 3 f5 fd5 ["_law_kind_here"] qYm "_law_small")
  (G6:v9 1 f6 fd6 ["_law_base","_law_many","_law_big_here","_law_most"] qYo "_law_with_more")
  (G7:v9 1 f7 fd7 ["_law_numbers"] qHp "_law_reduced")
  (ml:mg "len"=none) (mmi:mg "min"=none):v8 4 f fd ["_law_script","_law_at"] (qYl K):=by
 refine F.okA qCu λcdv A outer s H vs Q E hr h=>?_
 obtain⟨a,ns,rfl,hS,q⟩:=h;have hr1:=hr.mono (j:=1) (by decide);have hr2:=hr.mono (j:=2) (by decide)
 let PB:Nat->St->Hp->Prop:=λbd σ H'=>∃(B:Int) (r:Addr) (m:Nat) (b:Addr) (ms:List Nat) (x6:Option V),σ=[some (.ref a),some (.int 1),some (.int B),some (.ref r),some (iV m),some (.ref b),x6]/\Ext H H'/\LsN H' b ms/\m<=12/\ms.length<=bd/\∀x∈ms,x<2^m
 refine⟨_,qAa (v4 2 qCu (qAw G1 hr2 rfl .nil qAv (qAd (pv 0) (pa1 (qAg qA9 (pv 1) qAb)))))
  (qAa (v4 3 qCu (qAw G2 hr rfl .nil qAv (qAd (pv 0) (pa1 (pv 1)))))
  (qAa (qJa (PB 12) (qGw (qA6 (qAd (qAj qAl rfl ml hAy (pa1 (pv 3))) (pa1 (qAw G3 hr1 rfl .nil qAv (pa1 (pv 3)))))) (qB5 rfl (qAs (v7 4 qCu) (qAs (v5 5 qCu) qBl)))))
  (qAa (qJa (PB 24) (qBo (qAn qFs (qAg qBb (pv 2) qAb) qAb (qAu _))
   (qAe (v4 5 qCu (qAg qCi (pv 5) (qFp qNf (qAw G4 hr1 rfl .nil qAv (qAd (qAg qA5 (pv 2) qAb) (pa1 (pv 4)))) qH2 (qH1 (qAg qA9 qAb (qAg qBb (pv 2) qAb)))))))
   qA1))
  (qAa (qJa (PB 24) (qBo (qAn qB8 (qAg qBb (pv 2) qAb) qAb (qAu _))
   (qAa (v6 4 qCu (qAg qA9 qAb (qAg qBb (qAg qA5 (pv 2) qAb) qAb)))
   (qAe (v4 5 qCu (qAw G4 hr1 rfl .nil qAv (qAd (qAg qA5 (pv 2) qAb) (pa1 (pv 4)))))))
   qA1))
  (qAa (qJa (PB 24) (qBo (qAn zBc (qAg qBb (pv 2) qAb) qAb (qAu _))
   (qAa (qGw (qAw G5 hr rfl .nil qAv (pa1 (qAg qBb (qAg qA5 (pv 2) qAb) qAb))) (qB5 rfl (qAs (v7 4 qCu) (qAs (v5 5 qCu) qBl))))
   (qAa (v4 6 qCu (qAj (qF5 rfl) rfl mmi qF7 (qAd qAb (pa1 (qAg qA9 (pv 4) (qAg qBb (qAg qA5 (pv 2) qAb) qAb))))))
   (qAa (v4 5 qCu (qAw G6 hr1 rfl .nil qAv (qAd (pv 5) (qAd (pv 4) (qAd (qAg qA5 (pv 2) qAb) (pa1 (pv 6)))))))
   (qAe (v6 4 qCu (pv 6))))))
   qA1))
  (qAa (v4 5 qCu (qFp qNf (qAw G7 hr1 rfl .nil qAv (pa1 (pv 5))) qH2 (qH1 qAb)))
  (qAa (qKb PassesOwn.never (qAn zBc (qAg qCw (pv 4) (qAj qAl rfl ml hAy (pa1 (pv 5)))) qAb (qAu _))
   (qAa (qLu (i:=4) qCu.nd rfl (Or.inr rfl) qAb zEy)
   (qAe (v4 5 qCu (qAw G7 hr1 rfl .nil qAv (pa1 (qA8 (N:=stN) (sc:=qAc qWp) (N':=["_law_step","_law_many"]) (sub:=[none,some 4]) (qAp (pv 5)) (λC s H fp=>⟨qAz,qAg qBr (pv 0) (qAg qCw (qAg qCd qAb (pv 1)) qAb)⟩))))))))
  (qAe (qAt (qA6 (qAd (pv 4) (pa1 (pv 5))))))))))))),?_⟩
 refine⟨_,rfl,_,rfl,_,_,rfl,rfl,a,ns,_,rfl,hS,by decide,by decide,λB=>?_⟩;refine⟨_,rfl,_,rfl,a,ns,rfl,hS,λr net H1 e1 r0 nt ln tx rs=>?_⟩;refine⟨?_,?_⟩
 ·obtain⟨as,hn1,pr⟩:=id nt;have lA:as.length=net.length:=pr.length;refine⟨_,rfl,r,_,rfl,.inl (SqL.of hn1),_,rfl,r,net,rfl,nt,ln,λev F Kp ps' H2 e2 ev0 hev pok' ei kw=>?_⟩;have lF:F.length<=12:=by have:=ei.len;omega
  refine⟨(by show 2<=sizeLine;decide),λT hT=>⟨T,_,rfl,SqT.of upd_same,rfl,_,_,rfl,_,_,rfl,rfl,?_⟩⟩;have XT:=Ext.new hT (.tup [V.int (((as.map V.ref).length:Nat):Int),V.ref ev]);exact⟨B,r,(as.map V.ref).length,ev,F,none,rfl,e1.trans (e2.trans XT),XT _ _ hev,by rw[hA1];omega,by omega,λx hx=>by rw[hA1,lA];exact(ei.f1 x hx).1⟩
 rintro σ H2 ⟨B,r,m,b,ms,x6,rfl,e,hb,m12,lm,lt⟩;refine⟨?_,?_⟩
 ·refine⟨_,rfl,_,_,rfl,rfl,(by show(0:Int)<_;decide),_,_,rfl,rfl,_,rfl,?_⟩;refine qBw (λc=>?_) (λc=>?_)
  ·have c':B % 8<2:=hEi c;have b0:=hBj B (show(8:Int)≠0 by decide);obtain⟨t,ht⟩:∃t:Nat,1+B % 8=(t:Int):=⟨(1+B % 8).toNat,by omega⟩;refine⟨_,rfl,_,rfl,_,_,rfl,rfl,⟨by decide,by decide⟩,_,rfl,_,m,rfl,m12,λr2 ns2 H3 e3 r20 hr2' l2 lt2=>?_⟩;refine⟨_,rfl,_,_,rfl,rfl,(by show(0:Int)<_;decide),_,_,rfl,rfl,_,rfl,r2,_,rfl,SqL.of hr2',λl hl=>?_⟩;rw[show qX5 (ns2.map iV) none (some (1+B % 8))=(ns2.take t).map iV by rw[ht,qU4,List.map_take]];have Xl:=Ext.new hl (.lst ((ns2.take t).map iV));have ltk:(ns2.take t).length<=ns2.length:=by rw[hAm];omega
   refine⟨b,l,_,_,rfl,rfl,(e3.trans Xl) _ _ hb,upd_same,by rw[hA1,hA1];exact hB9 (qAf vG),λl3 hl3=>?_⟩;exact⟨B,r,m,l3,ms++ns2.take t,x6,rfl,((e.trans e3).trans Xl).trans (Ext.new hl3 _),by unfold LsN;rw[upd_same,hA4],m12,by rw[hAf];omega,λx hx=>(hAb.mp hx).elim (lt x) λz=>lt2 x (hDe z)⟩
  ·exact⟨B,r,m,b,ms,x6,rfl,e,hb,m12,by omega,lt⟩
 clear e hb m12 lm lt;rintro σ H2 ⟨B,r,m,b,ms,x6,rfl,e,hb,m12,lm,lt⟩;refine⟨?_,?_⟩
 ·refine⟨_,rfl,_,_,rfl,rfl,(by show(0:Int)<_;decide),rfl,_,rfl,?_⟩;refine qBw (λc=>?_) (λc=>?_)
  ·have b0:=hBj (B / 8) (show(12:Int)≠0 by decide);have b1:=hBc (B / 8) (show(0:Int)<12 by decide);obtain⟨m',hm'⟩:∃m':Nat,1+B / 8 % 12=(m':Int):=⟨(1+B / 8 % 12).toNat,by omega⟩;have ev:(λi j:Int=>V.int (i+j)) 1 (B / 8 % 12)=iV m':=congrArg V.int hm';refine⟨_,rfl,_,_,rfl,rfl,⟨by decide,by decide⟩,_,_,rfl,rfl,(by show(0:Int)<_;decide),_,_,rfl,rfl,?_⟩;rw[ev];exact⟨_,rfl,_,_,rfl,rfl,⟨by decide,by decide⟩,_,rfl,_,m',rfl,by omega,λr2 ns2 H3 e3 r20 hr2' l2 lt2=>⟨B,r,m',r2,ns2,x6,rfl,e.trans e3,hr2',by omega,by omega,lt2⟩⟩
  ·exact⟨B,r,m,b,ms,x6,rfl,e,hb,m12,lm,lt⟩
 clear e hb m12 lm lt;rintro σ H2 ⟨B,r,m,b,ms,x6,rfl,e,hb,m12,lm,lt⟩;refine⟨?_,?_⟩
 ·refine⟨_,rfl,_,_,rfl,rfl,(by show(0:Int)<_;decide),_,_,rfl,rfl,_,rfl,?_⟩;refine qBw (λc=>?_) (λc=>?_)
  ·have b0:=hBj (B / 8) (show(4:Int)≠0 by decide);have b1:=hBc (B / 8) (show(0:Int)<4 by decide);have d0:=hBj (B / 32) (show(4:Int)≠0 by decide);have d1:=hBc (B / 32) (show(0:Int)<4 by decide);refine⟨_,rfl,_,_,rfl,rfl,⟨by decide,by decide⟩,_,_,rfl,rfl,(by show(0:Int)<_;decide),B / 8 % 4,rfl,b0,b1,λT b2 m2 ns2 H3 e3 hT hb2 l2 mp m36 lt2=>?_⟩;refine⟨T,_,rfl,SqT.of hT,rfl,_,_,rfl,_,_,rfl,rfl,?_⟩;obtain⟨M,hM,M12,mM⟩:∃M:Nat,(if (m2:Int)+B / 32 % 4<12 then (m2:Int)+B / 32 % 4 else 12)=(M:Int)/\M<=12/\(m2<=12->m2<=M):=by
    split
    ·exact⟨((m2:Int)+B / 32 % 4).toNat,by omega,by omega,by omega⟩
    ·exact⟨12,rfl,by decide,λz=>z⟩
   refine⟨_,rfl,_,rfl,_,_,rfl,rfl,⟨by decide,by decide⟩,_,_,rfl,rfl,(by show(0:Int)<_;decide),_,_,rfl,rfl,12,(m2:Int)+B / 32 % 4,rfl,?_⟩;rw[hM];refine⟨_,rfl,_,rfl,_,rfl,_,_,rfl,rfl,⟨by decide,by decide⟩,_,rfl,b2,ns2,m2,M,_,rfl,hb2,l2,mp,M12,mM m36,lt2,λr3 ns3 H4 e4 hr3 l3 lt3=>?_⟩;exact⟨_,rfl,B,r,M,r3,ns3,_,rfl,e.trans (e3.trans e4),hr3,M12,l3,lt3⟩
  ·exact⟨B,r,m,b,ms,x6,rfl,e,hb,m12,lm,lt⟩
 clear e hb m12 lm lt;rintro σ H2 ⟨B,r,m,b,ms,x6,rfl,e,hb,m12,lm,lt0⟩;refine⟨_,rfl,b,ms,m,rfl,hb,by omega,lt0,λr2 H3 e3 r20 hr2'=>⟨_,rfl,r2,_,rfl,SqL.of hr2',λl hl=>?_⟩⟩;rw[show qX5 ((redL ms).map iV) none (some 8)=((redL ms).take 8).map iV by rw[show(8:Int)=((8:Nat):Int) from rfl,qU4,List.map_take]];have Xl:=Ext.new hl (.lst (((redL ms).take 8).map iV));refine⟨λk σ H'=>∃(m:Nat) (b:Addr) (ms:List Nat),k=m/\σ=[some (.ref a),some (.int 1),some (.int B),some (.ref r),some (iV m),some (.ref b),x6]/\Ext H H'/\LsN H' b ms/\m<=12/\ms.length<=8/\Lrr ms/\∀x∈ms,x<2^m,⟨_,m,l,_,rfl,rfl,(e.trans e3).trans Xl,upd_same,m12,(by rw[hAm];omega),(qFn _).take 8,λx hx=>Spn.lt lt0 (qEi x (hDe hx))⟩,?_⟩;clear e hb m12 lm lt0 hr2' hl Xl;rintro k σ H' ⟨m,b,ms,rfl,rfl,e,hb,m12,lm,lrr,lt⟩;refine⟨_,rfl,_,rfl,b,_,rfl,.inl (SqL.of hb),_,_,rfl,rfl,_,_,rfl,rfl,_,rfl,?_⟩;refine qBw (λc=>?_) (λc=>?_)
 ·have c':8<k:=by
   have:(8:Int)<(k:Int)-(((ms.map iV).length:Nat):Int):=hEi c;omega
  refine⟨λσ' H'=>∃k',k'<k/\∃(m:Nat) (b:Addr) (ms:List Nat),k'=m/\σ'=[some (.ref a),some (.int 1),some (.int B),some (.ref r),some (iV m),some (.ref b),x6]/\Ext H H'/\LsN H' b ms/\m<=12/\ms.length<=8/\Lrr ms/\∀x∈ms,x<2^m,λ_ _ h=>h,?_⟩;refine⟨_,rfl,_,_,rfl,rfl,?_⟩;have ev:V.int ((k:Int)-1)=iV (k-1):=congrArg V.int vG;show(λz H2=>_) (V.int ((k:Int)-1)) H';rw[ev];refine⟨_,rfl,b,rfl,⟨_,SqL.of hb⟩,?_⟩;refine qBm (λ_=>true) (λz=>z&&&(2^(k-1)-1)) hb vG (λz hz C B' cc bb=>⟨sls,?_⟩) ?_
  ·refine iteT (B:=B' H') ⟨_,rfl,_,rfl,_,_,rfl,rfl,⟨by omega,by omega,by decide⟩,_,_,rfl,rfl,_,_,rfl,rfl,?_⟩;have:=cc rfl;rw[show iV (z&&&(2^(k-1)-1))=V.int (Builtin.bitAnd (z:Int) (1*2^(((k-1:Nat):Int)).toNat-1)) by rw[qYb]]at this;exact this
  ·intro l2 hl2;have X2:=Ext.new hl2 (.lst (((ms.filter λ_=>true).map λz=>z&&&(2^(k-1)-1)).map iV));have l2l:((ms.filter λ_=>true).map λz=>z&&&(2^(k-1)-1)).length<=8:=by
    rw[hA1];exact hAw (hAz _ _) lm
   have lt1:∀x∈(ms.filter λ_=>true).map λz=>z&&&(2^(k-1)-1),x<2^(k-1):=λx hx=>by
    obtain⟨z,_,rfl⟩:=hAe.mp hx;exact Nat.and_lt_two_pow _ (by have:=Nat.two_pow_pos (k-1);omega)
   refine⟨l2,_,k-1,rfl,upd_same,by omega,lt1,λr3 H4 e4 r30 hr3=>?_⟩;exact⟨k-1,by omega,k-1,r3,_,rfl,rfl,e.trans (X2.trans e4),hr3,by omega,hAw (qEj _) l2l,qFn _,λx hx=>Spn.lt lt1 (qEi x hx)⟩
 ·refine⟨_,rfl,_,rfl,(by show 2<=sizeLine;decide),λT hT=>?_⟩;have XT:=Ext.new hT (.tup [iV k,V.ref b]);exact q T b k ms _ (e.trans XT) upd_same (XT _ _ hb) m12 lm lrr lt
end
end My
namespace L2
open PySem PySem.Spec PyProof.Rows PySem.SeqAt PySem.MeetsSeq
end L2
namespace L2
open PySem PySem.Spec PyProof.Rows
section
variable{X:Cx}{k:Nat}{f:Addr}{fd:FuncData}{ps:List Str}{sp:Sp}{E:XK}
structure Aw(X:Cx)(aB:List vH)(a:Addr):Prop where
 loc:a≠X.env.locals
 ab:X.s₀.heap.objs.size<=a
 cel:∀x c,X.env.cells.lookup x=some c->c≠a
 pin:∀p∈X.pn++aB,p.1≠a
 fs:a∉X.fs
theorem Inv.aw(I:Inv X aB σ H s)(h:s.heap.objs.size<=a):Aw X aB a:=by
 refine⟨hCj (hAo I.lt h),hAw I.sz h,λx c e=>?_,λp hp=>?_,I.nofs h⟩
 ·obtain⟨v,o,ho,_⟩:=I.cell x c e;exact hAx (hAo (Heap.lt_size ho) h)
 ·exact hAx (hAo (Heap.lt_size (I.pin p hp).1) h)
theorem Inv.adoptL(I:Inv X aB σ H s)(w:Aw X aB a)(hn:H a=none)(hv:qBx ys its)(hz:ys.length<=sizeLine)
  (e:s.heap.get? a=some { cls:=.type "list",data:=.seq its.toArray n }):Inv X aB σ (upd H a (.lst ys)) s:=by
 refine⟨I.ok,I.os,I.bare,⟨I.base.keep,I.base.slot,λb o q n' hx=>?_,I.base.there,λb xs q=>?_,λb o u q=>?_,λb ps q=>?_⟩,I.loc,I.cell,?_,λx c q=>?_,λp hp=>?_,λb u q=>?_,I.len⟩
 ·rw[qAk (hAx (hAo (Heap.lt_size q) w.ab))];exact I.base.free b o q n' hx
 ·have:=I.base.tups b xs q;rw[qAk (qAo this hn)];exact this
 ·have:=I.base.frzs b o u q;rw[qAk (qAo this hn)];exact this
 ·obtain⟨m,this⟩:=I.base.tbls b ps q;exact⟨m,by rw[qAk (qAo this hn)];exact this⟩
 ·rw[qAk (Ne.symm w.loc)];exact I.free
 ·rw[qAk (w.cel x c q)];exact I.freeC x c q
 ·obtain⟨h1,h2,h3⟩:=I.pin p hp;exact⟨h1,by rw[qAk (w.pin p hp)];exact h2,h3⟩
 ·by_cases hb:b=a
  ·subst hb;rw[upd_same]at q;cases q;exact⟨hz,its,n,hv,e⟩
  ·rw[qAk hb]at q;exact(I.hok b u q).stay (λc v _ r=>r) (λc r=>by rw[qAk (qAo r hn)];exact r) λc xs r=>by rw[qAk (qAo r hn)];exact r
theorem Inv.repinL(f:Array Value->Array Value)(I:Inv X aB σ H s)(w:Aw X aB a)(hn:H a=none)(e:s.heap.get? a=some (seqObj "list" its n)) :
  ∃n',Inv X aB σ H { s with heap:=s.heap.update a (Obj.mapSeq f) }/\(s.heap.update a (Obj.mapSeq f)).get? a=some (seqObj "list" (f its) n'):=by
 obtain⟨c,hc⟩:∃c,(s.heap.update a (Obj.mapSeq f)).get? a=some (seqObj "list" (f its) c):=⟨_,get?_update_seq e f⟩;refine⟨c,?_,hc⟩;exact I.turned (t':=s.toks) (it:=a) (λb o hb q=>(Heap.get?_update_other s.heap _ (Ne.symm hb)).trans q) hn w.loc (.inr w.ab) w.cel w.pin
theorem Inv.pinL(I:Inv X aB σ H s)(w:Aw X aB a)(hn:H a=none)(e:s.heap.get? a=some (seqObj "list" its n)) :
  Inv X ((a,seqObj "list" its n) :: aB) σ H s:=I.pins_of λp hp=>by
 rcases hAj.mp hp with rfl|hp
 ·exact⟨e,hn,w.loc,w.fs,λv q=>by cases q⟩
 ·exact I.pin p (hA7 _ hp)
theorem Inv.unpin(I:Inv X (q :: aB) σ H s):Inv X aB σ H s:=I.pins_of λp hp=>I.pin p (hA7 _ (hA6 _ hp))
theorem Aw.cons{aB:List vH}{a b:Addr}{o:Obj}(w:Aw X aB a)(h:b≠a):Aw X ((b,o) :: aB) a:=⟨w.loc,w.ab,w.cel,λp hp=>by
 rcases hAb.mp hp with q|q
 ·exact w.pin p (hAg _ q)
 ·rcases hAj.mp q with rfl|q
  ·exact h
  ·exact w.pin p (hA7 _ q),w.fs⟩
theorem zDp
  (I:Inv X ((kS,seqObj "list" keys.toArray en) :: (a,seqObj "list" #[] e1) :: aB) σ H s) (hk:kS≠a) (Hk:H kS=none) (Ha:H a=none) (wa:Aw X aB a) (wk:Aw X aB kS)
  (hz:IntsAre keys kz) (hv:IntsAre vs ns) (hg:kz=ns.map g) (h64:ns.length<64)
  (h:∀(s':Shared) (ns':List Int),ns'.Perm ns->ns'.Pairwise (λx y=>g x<=g y)->Inv X aB σ (upd H a (.lst (ns'.map V.int))) s'->P (.done (.ret .none)) s') :
  wpAny vD A (ksk_end a false vs.toArray e1 (.ref kS) keys.toArray) P E' s:=by
 have lv:=hv.length;have lk:=hz.length;have lg:kz.length=ns.length:=by rw[hg,hA1]
 have hsz:keys.toArray.size=vs.length:=by rw[hAk];omega
 have hzs:(keys.toArray.zip vs.toArray).size=vs.length:=by rw[Array.size_zip,hsz,hAk,Nat.min_self]
 have hz':IntsAre keys.toArray.toList kz:=by simpa using hz
 have ok:s.heap.get? kS=some (seqObj "list" keys.toArray en):=(I.pin (kS,_) (hA7 _ (.head _))).1;have fin:∀st:SortSt,(arrOf st).Perm (keys.toArray.zip vs.toArray)->SortedTo (arrOf st) (arrOf st).size->failedOf st=none->wpAny vD A (ksk_tail a false e1 (.ref kS) st) P E' s:=by
  intro st hp hs hf;have hsz2:(arrOf st).size=vs.length:=by rw[hp.size_eq,hzs]
  obtain⟨ps,h1,h2,h3⟩:=ksk_out (b:=false) hz' hp hs;obtain⟨n1,I1,_⟩:=Inv.repinL (λ_=>(#[]:Array Value)) I.unpin (wk.cons (Ne.symm hk)) Hk ok;have oa1:(s.heap.update kS (Obj.mapSeq λ_=>(#[]:Array Value))).get? a=some (seqObj "list" #[] e1):=(I1.pin (a,_) (hA7 _ (.head _))).1;obtain⟨n2,I2,oa2⟩:=Inv.repinL (s:={ s with heap:=s.heap.update kS (Obj.mapSeq λ_=>(#[]:Array Value)) }) (λ_=>(arrOf st).map (·.2)) I1.unpin wa Ha oa1;unfold ksk_tail;try dsimp only
  refine hEe (hEp ok rfl ?_ (by rw[hsz,hEn];omega) (hAt _));refine hEe (wpAny_letGo ?_);refine hEe (hF8 oa1 rfl ?_);refine hEe (hEp oa1 rfl ?_ (hAt _) (by simp only[hCq,hFf,Array.size_map];rw[hsz2,hEn];omega));rw[hf];simp only[hFe,hCq,hFf];have hrel:∀p,p∈kz.zip vs->p.1=g (numOf p.2)/\p.2∈vs:=by
   rw[hg,<-hv.nums,hB6,List.zip_map_left];intro p hp;obtain⟨⟨u,v⟩,hq,rfl⟩:=hAe.mp hp;have h1:u=v/\u∈vs:=mem_zip_self hq;refine⟨?_,?_⟩
   ·show g (numOf u)=g (numOf v);rw[h1.1]
   ·show v∈vs;rw[<-h1.1];exact h1.2
  have hI:IntsAre (ps.map Prod.snd) ((ps.map Prod.snd).map numOf):=intsAre_map _ λv hv'=>by
   obtain⟨p,hp',rfl⟩:=hAe.mp hv';exact hv.all _ (hrel p (h1.mem_iff.mp hp')).2
  have hP:((ps.map Prod.snd).map numOf).Perm ns:=by
   have h1':=(h1.map Prod.snd).map numOf;rw[List.map_snd_zip vG,hv.nums]at h1';exact h1'
  have hO:((ps.map Prod.snd).map numOf).Pairwise (λx y=>g x<=g y):=by
   rw[hBp,hBp];refine h3.imp_of_mem λ{p q} hp' hq' hr=>?_
   have hr':p.1<=q.1:=hr;rw[(hrel p (h1.mem_iff.mp hp')).1,(hrel q (h1.mem_iff.mp hq')).1]at hr';exact hr'
  rw[<-h2]at hI hP hO;simp only[hCq,hFf]at hI hP hO;refine hEh (h _ _ hP hO ?_);exact I2.adoptL (its:=((arrOf st).map (·.2)).toList) (n:=n2) wa Ha (qJe hI) (by rw[hA1,hP.length_eq,hEn];omega) (by rw[Array.toArray_toList];exact oa2)
 unfold ksk_end;try dsimp only
 simp only[hCq,hFf];by_cases h2:vs.toArray.size<2
 ·rw[hEk h2,hEk h2];refine hEe (hEh ?_);rw[StateT.run_pure];refine hEe (hEh ?_);try dsimp only
  refine fin (SortSt.mk' general' (keys.toArray.zip vs.toArray) #[] 7 none) (hE6 _) ?_ rfl;intro i j hij hj;have hj2:j<(keys.toArray.zip vs.toArray).size:=hj;rw[hzs]at hj2;rw[hAk]at h2;have:i=j:=by omega
  subst this;exact Int.le_refl _
 ·rw[hEj h2,hEj h2];rw[hAk]at h2;rw[ksk_kind hz' (by rw[hsz];omega)];refine hEe (hEh ?_);refine hEe (hEq (wpS_sortRuns (a₀:=keys.toArray.zip vs.toArray) (st:=SortSt.mk' oneType' (keys.toArray.zip vs.toArray) #[] 7 none)
   (Q:=λ_ st'=>(arrOf st').Perm (keys.toArray.zip vs.toArray)/\failedOf st'=none/\SortedTo (arrOf st') (keys.toArray.zip vs.toArray).size)
   (ksk_intKeys hz') ⟨hE6 _,rfl,rfl,rfl⟩ (by rw[hzs];omega) (by rw[hzs];omega) λst' a1 a2 a3=>⟨a1,a2,a3⟩) ?_ λ_ _ e=>e)
  rintro⟨⟨⟩,st'⟩ s' ⟨rfl,hp,hf,hs⟩;try dsimp only
  exact fin _ hp (by rw[hp.size_eq];exact hs) hf
end
theorem qS0{P:Program}{w:World}{K:PySem.W.Frag}{mg:Str->Option Value}{base:Heap}{A:Around}{outer:List Env}{s:Shared}{H:Hp}{Q:VK}{f c':Addr}{scope:Scope}{name qual:Str}{params:Arguments}{body:Expr}{x:Str}{pm ctv:Value}{v:V}{u:Value}{t:TE}{k:Nat}
  (hr:Room k A) (e0:Env0 P w K mg base A outer s H) (ho:s.heap.get? f=some (PySem.W.kla_obj name qual params body scope [] pm c' ctv)) (hcd:s.heap.CodeRec (.ref c') qual) (S:FnScope [x] [x] scope)
  (hb:bindArgs (PySem.W.kla_fn name qual params body scope [] pm (.ref c') ctv) ⟨[u],[]⟩=pure [(x,u)]) (r:qDa v u)
  (ht:PE (qQp CX0 P w K mg base [x] qual scope f (.ref c') A outer s H E0) body t) (hq:t (start [x] [v]) H Q) :
  codeAny (model P w) A (.call (.ref f) ⟨[u],[]⟩) (CR CX0 outer P w H s Q E0) s:=by
 have lim:s.heap.NoLimit:=e0.mod.nolimit.keeps λb o e=>(e0.bs b o e).1
 refine PySem.W.kla_callFunE hr.depth ho rfl S.co S.gen rfl hcd ?_;rw[hb];have hkind:∀y∈[(x,u)],scope.names.lookup y.1=some .local\/(scope.names.lookup y.1=some .cell/\((cellsFrom (s.heap.objs.size+1) scope.names []).lookup y.1).isSome=true):=λy hy=>by
  rw[hA3]at hy;subst hy;rcases S.par x hA8 with q|q
  ·exact .inl q
  ·exact .inr ⟨q,hE2 _ _ _ (.inl q)⟩
 refine hEh (wpAny_newFunctionEnv_cells S.kind hkind λenv he s1 y=>?_);subst he;refine⟨lim.keeps y.toInCall.keep,PySem.W.kla_codeExpr ?_⟩;have I:Inv (qQp CX0 P w K mg base [x] qual scope f (.ref c') A outer s H E0) [] (start [x] [v]) H s1:=qMb S hr.hd e0 rfl (.cons r .nil) y;refine hEq (ht [] s1 (start [x] [v]) H Q I hq) (λu' s' ⟨v',H',J,rv,q⟩=>⟨v',H',J.os,J.bare,J.base,J.hok,rv,q⟩) λe s' hs=>hs
section
variable{X:Cx}
theorem qLf{aB:List vH}{σ:St}{H1:Hp}{s1:Shared}{l f:Addr}{ns:List Int}{g:Int->Int}{Q:VK}(I1:Inv X aB σ H1 s1)(hq:SqL X.K H1 l (ns.map V.int))(h64:ns.length<64)
  (hcall:∀n∈ns,∀(t:Tok) (pins':List vH) (s':Shared),(∀p∈aB,p∈pins')->Inv X pins' σ H1 s'->wpAny vD X.A.in1.in1 (call (.ref f) [.int n t]) (EP X pins' σ (λv H=>v = .int (g n)/\H=H1)) (λ_ _=>False) s')
  (q:∀(r:Addr) (ns':List Int),H1 r=none->ns'.Perm ns->ns'.Pairwise (λx y=>g x<=g y)->Q (.ref r) (upd H1 r (.lst (ns'.map V.int)))) :
  wpAny vD X.A (call (.builtin "sorted") [.ref l] [(Str.ofString "key",.ref f)]) (EP X aB σ Q) X.xe s1:=by
 obtain⟨its,rv,pl,hz⟩:=I1.list hq;have hi:=qIh rv;have hl:=hi.length;refine call_function_entry_kw kind_sorted hFp hFq (ksk_s1 _ _) ?_;unfold Builtin.«sorted»;refine hEe (m:=checkCount "sorted" 1 1 _) (hEh ?_);refine hEe (collect_list pl.isList ?_ (by rw[hEn];omega));refine hEe (hEx ?_ (by rw[hEn];omega));have hsz:((s1.heap.push (seqObj "list" #[] 0)).update s1.heap.objs.size (Obj.mapSeq (·++its.toArray))).objs.size=s1.heap.objs.size+1:=by
  rw[Heap.size_update,hFk]
 have keep:∀b o,s1.heap.get? b=some o->((s1.heap.push (seqObj "list" #[] 0)).update s1.heap.objs.size (Obj.mapSeq (·++its.toArray))).get? b=some o:=λb o q=>by
  have hlt:b<s1.heap.objs.size:=Heap.lt_size q;rw[Heap.get?_update_ne _ _ _ _ (hAx hlt),Heap.get?_push_ne _ _ _ (hAx hlt)];exact q
 have hoL:(((s1.heap.push (seqObj "list" #[] 0)).update s1.heap.objs.size (Obj.mapSeq (·++its.toArray))).push (seqObj "list" its.toArray 0)).get? (s1.heap.objs.size+1)=some (seqObj "list" its.toArray 0):=by
  rw[<-hsz];exact Heap.get?_push_size _ rfl
 have I2:Inv X aB σ H1 { s1 with heap:=((s1.heap.push (seqObj "list" #[] 0)).update s1.heap.objs.size (Obj.mapSeq (·++its.toArray))).push (seqObj "list" its.toArray 0) } :=
  I1.kept (t':=s1.toks) λb o q=>Heap.get?_push_of_some _ (keep b o q)
 show wpAny _ _ _ _ _ { s1 with heap:=((s1.heap.push (seqObj "list" #[] 0)).update s1.heap.objs.size (Obj.mapSeq (·++its.toArray))).push (seqObj "list" its.toArray 0) };rw[hsz];have nA:H1 (s1.heap.objs.size+1)=none:=I1.hok.fresh (hBq _);have wA:Aw X aB (s1.heap.objs.size+1):=I1.aw (hBq _);generalize s1.heap.objs.size+1=a at hoL nA wA;generalize hS:({ s1 with heap:=((s1.heap.push (seqObj "list" #[] 0)).update s1.heap.objs.size (Obj.mapSeq (·++its.toArray))).push (seqObj "list" its.toArray 0) }:Shared)=s2 at I2;have ho2:s2.heap.get? a=some (seqObj "list" its.toArray 0):=by rw[<-hS];exact hoL
 clear hoL hS;refine hEe (hEs (wpAny_call_entry_kw slot_list_sort ⟨_,ho2,rfl⟩ entry_list_sort ?body (ksk_l1 _ _)));show wpAny vD X.A.in1.in1 (Builtin.«list.sort» ⟨[.ref a],[(Str.ofString "key",.ref f)]⟩) _ _ _;rw[ksk_t1];unfold ksk_tree;have hi0:its.length<64:=by omega
 refine hEe (hFh ho2 rfl ?_);refine hEe (hEp ho2 rfl ?_ (by rw[hAk,hEn];omega) (hAt _));obtain⟨e1,I3,ho3⟩:=I2.repinL (λ_=>#[]) wA nA ho2;refine hEe (hF8 ho3 rfl ?_);refine hEe (hFg ?_ (by show its.length<=_;rw[hEn];omega));refine hEe (hEx ?_ (hAt _));refine hEs ?_;have I4:Inv X aB σ H1 { s2 with heap:=(vA 0) }:=I3.kept (t':=s2.toks) λb o q=>Heap.get?_push_of_some _ q
 have nK:=I4.fresh;have wK:=I4.aw (hA9 _);have ho4:(vA 0).get? a=some (seqObj "list" #[] e1):=Heap.get?_push_of_some _ ho3;have nka:(vA 0).objs.size≠a:=hCj (Heap.lt_size ho4);have I5:Inv X aB σ H1 { s2 with heap:=(vA 0).push (seqObj "list" #[] 0) }:=I4.kept (t':=s2.toks) λb o q=>Heap.get?_push_of_some _ q
 have ho5:((vA 0).push (seqObj "list" #[] 0)).get? a=some (seqObj "list" #[] e1):=Heap.get?_push_of_some _ ho4;have hk5:((vA 0).push (seqObj "list" #[] 0)).get? (vA 0).objs.size=some (seqObj "list" #[] 0):=Heap.get?_push_size _ rfl;show wpAny _ _ (ksk_rest a (.ref f) false its.toArray e1 (.ref (vA 0).objs.size)) _ _ { s2 with heap:=(vA 0).push (seqObj "list" #[] 0) }
 change H1 (vA 0).objs.size=none at nK
 change Aw X aB (vA 0).objs.size at wK
 have I6:=(I5.pinL wA nA ho5).pinL (wK.cons (Ne.symm nka)) nK hk5;generalize (vA 0).objs.size=kS at nK wK nka I6 ⊢;generalize ({ s2 with heap:=(vA 0).push (seqObj "list" #[] 0) }:Shared)=s6 at I6 ⊢;unfold ksk_rest;refine hEe (hFs ?_)
 first
  |rw[List.forIn_toArray]
  |(rw[<-Array.forIn_toList];simp only[List.toList_toArray])
  |rw[<-Array.forIn_toList]
 refine hEe (ksk_fold (λi s'=>∃(kA:List Value) (e:Nat),Inv X ((kS,seqObj "list" kA.toArray e) :: (a,seqObj "list" #[] e1) :: aB) σ H1 s'/\IntsAre kA ((ns.map g).take i)) its 0 s6 ⟨[],0,I6,by simpa using IntsAre.nil⟩ ?step ?done)
 case step =>
  rintro j x s' hx ⟨kA,e,I',hk⟩;simp only[Nat.zero_add]at hk ⊢;have hj:j<its.length:=(hAp.mp hx).1;have hjn:j<ns.length:=by omega
  obtain⟨t,ht⟩:=hi.get j ns[j] (hA2 hjn);rw[hx]at ht;cases ht;have hz:kA.length<=its.length:=by
   have h1:=hk.length;rw[hAm,hA1]at h1;omega
  refine hEe (hFa (hEq (hcall ns[j] (hBn hjn) t _ s' (λp hp=>hA6 _ (hA6 _ hp)) I') (λv s'' he=>?_) λ_ _ (hF:False)=>hF.elim));obtain⟨w,H',I8,rw',rfl,e8⟩:=he;rw[e8]at I8;obtain⟨t2,rfl⟩:=rw';try dsimp only
  have ok2:s''.heap.get? kS=some (seqObj "list" kA.toArray e):=(I8.pin (kS,_) (hA7 _ (.head _))).1;obtain⟨n3,I3,ok3⟩:=I8.unpin.repinL (·.push (.int (g ns[j]) t2)) (wK.cons (Ne.symm nka)) nK ok2;have ek:(ns.map g).take (j+1)=(ns.map g).take j++[g ns[j]]:=by rw[List.take_add_one,hAl,hA2 hjn];simp
  refine hEe (hEp ok2 rfl ?_ (by rw[hAk,hEn];omega) (hAw (Nat.le_of_eq (Array.size_push ..)) (by rw[hAk,hEn];omega)));have ea:kA.toArray.push (Value.int (g ns[j]) t2)=(kA++[Value.int (g ns[j]) t2]).toArray:=by simp
  rw[ea]at ok3;exact hEh ⟨rfl,kA++[.int (g ns[j]) t2],n3,I3.pinL (wK.cons (Ne.symm nka)) nK ok3,by rw[ek];exact ksk_snoc hk⟩
 case done =>
  rintro s' ⟨kA,e,I',hk⟩;have hk':IntsAre kA (ns.map g):=by
   have e3:(ns.map g).take (0+its.length)=ns.map g:=hA5 (by rw[hA1];omega);rw[e3]at hk;exact hk
  have ok2:s'.heap.get? kS=some (seqObj "list" kA.toArray e):=(I'.pin (kS,_) (hA7 _ (.head _))).1;try dsimp only
  refine hEe (hFh ok2 rfl ?_);refine zDp (g:=g) I' nka nK nA wA wK hk' hi rfl h64 λs7 ns' hp ho I7=>⟨_,rfl,?_⟩
  exact hEh ⟨_,rfl,⟨.ref a,_,I7,rfl,q a ns' nA hp ho⟩⟩
end
def ExtB(P:Addr)(H H':Hp):Prop:=∀b o,b≠P->H b=some o->H' b=some o
section
variable{X:Cx}{aB:List vH}{σ:St}{H:Hp}{s:Shared}
theorem Inv.grown(I:Inv X aB σ H s)(hP:H P=some (.tbl ps))(hx:Heap.ExtBut P s.heap h')(hg:h'.get? P=some { cls:=.none,data:=.fields (ps++more) }) :
  Inv X aB σ (upd H P (.tbl (ps++more))) { s with heap:=h',toks:=tk }:=by
 have ne:∀b,H b=none->b≠P:=λb n z=>by rw[z,hP]at n;cases n
 refine I.step (g':=s.gens) (d':=s.drawn) (ch:=[]) (λ_ z=>nomatch z) (λb o _ _ _ e n=>hx b o (ne b n) e) (λb o _ _ _ e n=>⟨o.slots,hx b o (ne b n) e⟩) (λb o _ e n=>by rw[qAk (ne b n)];exact n) (λb o _ e=>?_)
  (λb xs q=>?_) (λb o u q=>?_) (λb qs q=>?_) (λm hm=>hm.extBut hx (ne _ I.free)) (λb u q=>?_) I.bare
 ·by_cases hb:b=P
  ·rw[hb];exact⟨_,hg⟩
  ·exact⟨o,hx b o hb e⟩
 ·have:b≠P:=λz=>by rw[z,hP]at q;cases q
  rw[qAk this];exact q
 ·have:b≠P:=λz=>by rw[z,hP]at q;cases q
  rw[qAk this];exact q
 ·by_cases hb:b=P
  ·subst hb;rw[hP]at q;cases q;exact⟨more,upd_same⟩
  ·exact⟨#[],by rw[qAk hb,q];simp⟩
 ·by_cases hb:b=P
  ·subst hb;rw[upd_same]at q;cases q;exact hg
  ·rw[qAk hb]at q;refine(I.hok b u q).stay (λc v hc r=>hx c v ?_ r) (λc r=>?_) λc xs r=>?_
   ·rcases hc with rfl|hc
    ·exact hb
    ·intro z;rw[z,hP]at hc;cases hc
   ·have:c≠P:=λz=>by rw[z,hP]at r;cases r
    rw[qAk this];exact r
   ·have:c≠P:=λz=>by rw[z,hP]at r;cases r
    rw[qAk this];exact r
end
structure LamAt(X:Cx)(c P:Addr):Prop where
 code:X.env.code = .ref c
 hd:PySem.W.CodeHd X.base c P
 bl:X.base.BuiltinsAt X.mg P
theorem qZj:∀ {l:List (Addr×β)} {a:Addr} {b:β},l.lookup a=some b->(a,b)∈l
 |[],_,_,h=>by cases h
 |(k,v) :: l,a,b,h=>by
  rw[hDc]at h;by_cases e:(a == k)=true
  ·rw[e]at h;cases h;rw[beq_iff_eq.mp e];exact hA8
  ·rw[hDd]at e;rw[e]at h;exact hA6 _ (qZj h)
theorem zEj{K:PySem.W.Frag}{h:Heap}{T:Addr}{ps:Array Value}(X:K.In h)(n:PySem.W.noTabs K=true)(e:h.get? T=some (PySem.W.tabObj ps)):K.lookup T=none:=by
 cases q:K.lookup T with
 |none=>rfl
 |some o =>
  have e2:=X T o q;rw[e]at e2;cases e2;have m:=qZj q;have:=hE0.mp n _ m;cases this
section
variable{P:Program}{w:World}{K:PySem.W.Frag}{mg:Str->Option Value}{base:Heap}
theorem Fun.okC{x qual:Str}{st:Stmt}{f:Addr}{fd:FuncData}{N ps:List Str}{k:Nat}{sp:Sp}(F:Fun K x qual st f fd)(S:FnScope N ps (qAc st))(len:∀vs H Q E,sp vs H Q E->vs.length=ps.length)
  (hbody:∀(A:Around) (outer:List Env) (s:Shared) (H:Hp) (vs:List V) (Q:VK) (E:XK),Room k (A.deeper (envOfC qual (qAc st) s.heap.objs.size f fd.code))->sp vs H Q E ->
   ∃t,PSs (qQp CX0 P w K mg base N qual (qAc st) f fd.code A outer s H E).nox (qCb st) t/\t { nx:=λ_ H'=>Q .non H',rt:=Q } (start N vs) H):v8 (k+1) f fd ps sp:=by
 obtain⟨oc,od,kV,doc,pm,an,cdv,ct,osl,rfl,lk,hcd⟩:=F.ex;refine zE3 lk hcd S len λA outer s H vs Q E hr hsp=>?_
 obtain⟨t,h,q⟩:=hbody A outer s H vs Q E hr hsp;exact⟨t,h.nox,q⟩
theorem qVa{x qual:Str}{st:Stmt}{f c T:Addr}{fd:FuncData}(F:Fun K x qual st f fd)(a:PySem.W.nsIn K mainGlobals x=some (some (.ref f)))(h:PySem.W.tabIn K x=some (c,T)):fd.code = .ref c:=by
 obtain⟨oc,od,kV,doc,pm,an,cdv,ct,osl,rfl,lk,hcd⟩:=F.ex;unfold PySem.W.tabIn at h;rw[a]at h;dsimp only at h;rw[lk]at h;dsimp only at h;show cdv=_;cases cdv with
 |ref c2 =>
  dsimp only at h;split at h
  ·split at h
   ·cases h;rfl
   ·cases h
  ·cases h
 |_=>cases h
end
theorem qHo:isSubtype (.type "range_iterator") (.type "reversed")=pure false:=by rw[isSubtype_type];kernel_rfl
noncomputable def qPn(n:Nat):Obj:={ cls:=.type "range_iterator",data:=.fields #[rawInt ((n:Int)-1),rawInt n,rawInt (-1)] }
def Itd(hi:Int)(n:Nat):It:=⟨λi _=>i<n,λi H x H'=>H'=H/\x = .int (hi-i),λi _=>n<=i⟩
theorem qM7{P:Program}{w:World}{K:PySem.W.Frag}{tg:Expr}(it:Addr)(hi:Int)(n:Nat):Turn P w K tg (Itd hi n) [it] it (λi h=>IsRangeIter h it (hi+(i:Nat)*(-1)) ((n:Int)-(i:Nat)) (-1)) where
 mem:=by simp
 obj:=λi h st b hb=>by
  have e:b=it:=by simpa using hb
  subst e;exact⟨_,st,λv z=>by
   have z':Data.fields _=Data.cell v:=z;cases z'⟩
 keep:=λi h h' st k=>k it vI _ st
 item:=by
  intro X hP hw hK hc i aB s σ H E I hf st hg;subst hP hw hK;obtain⟨f0,f1,f2,f3,f4,f5⟩:=hf it vI;have W:=Walks.range (prog:=X.prog) (w:=X.w) (I.ok.hd hc) it hi (-1) n;refine W.item i s _ _ hg st λv h' tk hv st' kk=>?_
  obtain⟨t,rfl⟩:=hv;have I1:Inv X aB σ H { s with heap:=h',toks:=tk }:=I.turned (λb o hb e=>kk b o (by simpa using hb) e) f0 f1 f3 f4 f5;refine⟨_,rfl,qXy (s:={ s with heap:=h',toks:=tk }) (n:="range_iterator") st' rfl rfl (by decide) ⟨.int (hi-i),H,I1,⟨t,?_⟩,⟨rfl,rfl⟩,st',λb hb=>(hf b hb).1⟩⟩;congr 1;omega
 done:=by
  intro X hP hw hK hc i aB s σ H E I hf st hg;subst hP hw hK;obtain⟨f0,f1,f2,f3,f4,f5⟩:=hf it vI;exact wpAny_pyNext_range_end (I.ok.hd hc) st (by have:n<=i:=hg;omega) λh' eb=>⟨rfl,I.turned (t':=s.toks) (λb o hb e=>eb b o hb e) f0 f1 f3 f4 f5⟩
 self:=λ_ _ _ _ _ st h=>wpAny_pyIter_rangeiter st h
section
variable{X:Cx}{aB:List vH}{σ:St}{H:Hp}{s:Shared}
theorem Inv.adoptX(I:Inv X aB σ H s)(w:Aw X aB a)(hn:H a=none)(hφ:qC0 X.prog X.w (upd H a (.ext φ)) s.heap a (.ext φ)):Inv X aB σ (upd H a (.ext φ)) s:=by
 refine⟨I.ok,I.os,I.bare,⟨I.base.keep,I.base.slot,λb o q n' hx=>?_,I.base.there,λb xs q=>?_,λb o u q=>?_,λb ps q=>?_⟩,I.loc,I.cell,?_,λx c q=>?_,λp hp=>?_,λb u q=>?_,I.len⟩
 ·rw[qAk (hAx (hAo (Heap.lt_size q) w.ab))];exact I.base.free b o q n' hx
 ·have:=I.base.tups b xs q;rw[qAk (qAo this hn)];exact this
 ·have:=I.base.frzs b o u q;rw[qAk (qAo this hn)];exact this
 ·obtain⟨m,this⟩:=I.base.tbls b ps q;exact⟨m,by rw[qAk (qAo this hn)];exact this⟩
 ·rw[qAk (Ne.symm w.loc)];exact I.free
 ·rw[qAk (w.cel x c q)];exact I.freeC x c q
 ·obtain⟨h1,h2,h3⟩:=I.pin p hp;exact⟨h1,by rw[qAk (w.pin p hp)];exact h2,h3⟩
 ·by_cases hb:b=a
  ·subst hb;rw[upd_same]at q;cases q;exact hφ
  ·rw[qAk hb]at q;exact(I.hok b u q).stay (λc v _ r=>r) (λc r=>by rw[qAk (qAo r hn)];exact r) λc xs r=>by rw[qAk (qAo r hn)];exact r
end
def qX6(c:Addr)(q:Str):HO:=.ext λh=>h.CodeRec (.ref c) q
theorem qQr(r:h.CodeRec (.ref c) q):qC0 P w H h c (qX6 c q):=by
 obtain⟨c2,oc,vs,t,e,ho,hd,hv⟩:=id r;cases e;refine⟨r,⟨oc,ho⟩,λh1 h2 r1 k=>?_⟩;obtain⟨c3,oc',vs',t',e',ho',hd',hv'⟩:=r1;cases e';exact⟨c,oc',vs',t',rfl,k _ ho',hd',hv'⟩
def TabW(H:Hp)(P:Addr)(lpos:Pos)(q:Str):Prop:=H P=some (.tbl #[])\/∃c',H P=some (.tbl #[rawInt lpos.line,rawInt lpos.col,.ref c'])/\H c'=some (qX6 c' q)
theorem qZ7(lpos:Pos)(v:Value):codeAmong lpos (#[rawInt lpos.line,rawInt lpos.col,v]:Array Value).toList=some v:=by
 show(if _ then _ else _)=_;simp
theorem TabW.ext(h:TabW H P lpos q)(e:∀b o,H b=some o->H' b=some o):TabW H' P lpos q:=by
 rcases h with h|⟨c,h1,h2⟩
 ·exact .inl (e _ _ h)
 ·exact .inr ⟨c,e _ _ h1,e _ _ h2⟩
section
variable{X:Cx}{k:Nat}
theorem zFk{K:PySem.W.Frag}{H H':Hp}{P l:Addr}{xs:List V}{ps:Array Value}(hP:H P=some (.tbl ps))(e:ExtB P H H')(hq:SqL K H l xs):SqL K H' l xs:=by
 rcases hq with (hq|⟨o,hq⟩)|hq
 ·exact .inl (.inl (e _ _ (λz=>by rw[z,hP]at hq;cases hq) hq))
 ·exact .inl (.inr ⟨o,e _ _ (λz=>by rw[z,hP]at hq;cases hq) hq⟩)
 ·exact .inr hq
end
end L2
namespace L2
open PySem PySem.Spec PyProof.Rows PySem.SeqAt
end L2
namespace L2
open PySem PySem.Spec PyProof.Rows
section
variable{X:Cx}
theorem qVg(hc:X.calm=true):qCm X (.builtin "max") (λxs H Q=>∃(p:Addr) (ns:List Int),xs=[.ref p]/\SqL X.K H p (ns.map V.int)/\ns≠[]/\∀M,M∈ns->(∀a,a∈ns->a<=M)->Q (.int M) H):=by
 intro aB s σ H xs us Q I r h;obtain⟨p,ns,rfl,hq,ne,q⟩:=h;obtain⟨u,rfl,rx⟩:=qCy r;cases rx;obtain⟨its,rv,pl,hz⟩:=I.list hq;obtain⟨ys,rfl,rfl⟩:=qT9 rv;have e:(ys.map (λp=>Value.int p.1 p.2)).toArray=intItems ys.toArray:=by unfold intItems;simp
 have pl':=pl.isList;rw[e]at pl';have hsz:0<ys.toArray.size:=by
  rw[hAk];cases ys with
  |nil=>exact absurd rfl ne
  |cons _ _=>exact Nat.succ_pos _
 refine max_intList (I.ok.hd hc) pl' hsz λv h' tk hv hk=>?_
 obtain⟨t,rfl⟩:=intItems_at hv;obtain⟨h1,h2⟩:=argBest_gt (numAt ys.toArray) (ys.toArray.size-1);refine⟨.int _,H,I.kept (t':=tk) hk,⟨t,rfl⟩,q _ ?_ λa ha=>?_⟩
 ·rw[numAt_eq];exact getD_mem (by rw[hA1,hC3];exact hDa h1 (Nat.sub_lt hsz Nat.one_pos))
 ·obtain⟨j,hj,rfl⟩:=mem_getD (by simpa using ha:a∈ys.toArray.toList.map (·.1));rw[hA1,hC3]at hj;rw[<-numAt_eq];exact h2 j (Nat.le_sub_one_of_lt hj)
def zAy(K:PySem.W.Frag):V->List V->Hp->VK->Prop:=λx vs H Q=>∃(l:Addr) (ns:List Int) (z:Int),x = .ref l/\vs=[.int z]/\H l=some (.lst (ns.map V.int))/\z∈ns/\ns.length<1000/\∀j:Nat,ns[j]?=some z->Q (.int (j:Nat)) H
theorem qX1{ns:List Int}{z:Int}(h:z∈ns):∃j:Nat,ns[j]?=some z/\∀k,k<j->ns[k]?≠some z:=by
 induction ns with
 |nil=>cases h
 |cons a l ih =>
  by_cases e:a=z
  ·exact⟨0,by rw[e];rfl,λk hk=>by omega⟩
  ·obtain⟨j,h1,h2⟩:=ih ((hAj.mp h).resolve_left λw=>e w.symm);refine⟨j+1,h1,λk hk=>?_⟩;cases k with
   |zero=>intro w;exact e (hAq w)
   |succ k=>exact h2 k vG
theorem qTv:MtR X "list.index" (zAy X.K):=by
 intro aB s σ H x vs v us Q I rx rv h;obtain⟨l,ss,z,rfl,rfl,hH,hmem,hsm,q⟩:=h;obtain⟨j,hj,hno⟩:=qX1 hmem;have q:=q j hj;cases rx;obtain⟨u,rfl,ru⟩:=rv.one;obtain⟨t,rfl⟩:=ru;obtain⟨zz,its,n,r,hl,e⟩:=I.lstM hH;have at_:∀k (hk:k<its.length),∃y t',ss[k]?=some y/\its[k]=Value.int y t':=λk hk=>by
  have hk':k<ss.length:=by rw[hA1]at hl;omega
  obtain⟨w,hw,rw'⟩:=r.get (i:=k) (x:=V.int ss[k]) (by rw[hAl,hA2 hk'];rfl);obtain⟨t',rfl⟩:=rw';rw[hA2 hk]at hw;exact⟨ss[k],t',hA2 hk',hAq hw⟩
 have jl:j<its.length:=by
  have:=(hAp.mp hj).1;rw[hA1]at hl;omega
 refine hFj F.slot_list_index ⟨_,e,rfl⟩ F.entry_list_index (F.args_list_index_2 _ _)
  (MeetsSeq.list_index l its.toArray n (.int z t) (λy=>match y with | .int y _=>y == z|_=>false) (λy hy=>?_) j (by rw[hAk];exact jl) (by have:=(hAp.mp hj).1;omega) ?_ (λm hm hmj=>?_)) ⟨e,⟨.int _,H,I.tok _,⟨_,rfl⟩,q⟩⟩
 ·have hy':y∈its:=by simpa using hy
  obtain⟨k,hk,rfl⟩:=List.getElem_of_mem hy';obtain⟨y,t',_,e2⟩:=at_ k hk;rw[e2];exact MeetsSeq.EqGives.int y z t' t
 ·obtain⟨y,t',h1,e2⟩:=at_ j jl;have:its.toArray[j]=Value.int y t':=by simpa using e2
  rw[this];rw[hj]at h1;cases h1;exact hF3 _
 ·have hm':m<its.length:=by simpa using hm
  obtain⟨y,t',h1,e2⟩:=at_ m hm';have:its.toArray[m]=Value.int y t':=by simpa using e2
  rw[this];show(y == z)=false;rw[beq_eq_false_iff_ne];intro w;exact hno m hmj (by rw[h1,w])
end
end L2
namespace L2
open PySem PySem.Spec PyProof.Rows PySem.W
def qR1(K:PySem.W.Frag)(P:Addr)(lpos:Pos)(q:Str)(t:TA):TE:=λσ H Q=>t σ H λvs H1=>∃(p:Addr) (ns:List Int),vs=[.ref p]/\SqL K H1 p (ns.map V.int)/\ns.length<64/\TabW H1 P lpos q /\
 ∀(r:Addr) (ns':List Int) (H2:Hp),H1 r=none->ExtB P H1 H2->H2 r=some (.lst (ns'.map V.int))->ns'.Perm ns->TabW H2 P lpos q->Q (.ref r) H2
section
variable{X:Cx}{k:Nat}
theorem qN2{e body:Expr}{params:Arguments}{scope:Scope}{t:TA}{te:TE}{g:Int->Int}{p pos kp lpos:Pos}{x:Str}{c P:Addr}(L:LamAt X c P)(hr:Room (k+2) X.A)(hg:Gl X "sorted")(hm:X.mg "sorted"=none)(ha:PA X [e] t)
  (S:FnScope [x] [x] scope) (hcl:closureFor scope X.env=pure []) (hdef:defaultsOf params X.env=([],[]))
  (hb:∀(nm ql:Str) (pm cd ct u:Value),bindArgs { name:=nm,qualname:=ql,params,body:=.expr body,scope,globals:=mainGlobals,closure:=[],defaults:=.none,kwdefaults:=.none,doc:=.none,pyModule:=pm,annotations:=none,code:=cd,closureTuple:=ct,builtins:=builtinsNs } ⟨[u],[]⟩=pure [(x,u)])
  (hbody:∀(A:Around) (s:Shared) (H:Hp) (f:Addr) (cd:Value) (qual:Str),PE (qQp CX0 X.prog X.w X.K X.mg X.base [x] qual scope f cd A X.stack s H E0) body te)
  (hte:∀(n:Int) (H:Hp) (Q:VK),Q (.int (g n)) H->te [some (.int n)] H Q)
  (he:backTo pos (starEach [e] X.env)=(false,eval e X.env) :: backTo pos (starEach [] X.env):=by rfl)
  (hplain:(backTo pos (starEach [e] X.env)).any (·.1)=false:=by rfl):PE X (.Call (.Name "sorted" p) [e] [⟨some "key",.Lambda params body scope lpos,kp⟩] pos) (qR1 X.K P lpos (X.env.qual++"<lambda>") t):=by
 intro aB s σ H Q I h;refine hEv (qE5 I hg hm (by decide +kernel:bootBuiltins "sorted"=some (.builtin "sorted")) ?_ (by decide) (by decide));refine PyProof.Rows.callWith_kw (thn (ha pos aB s σ H _ I h) λus s1 ⟨vs,H1,I1,r1,q1⟩=>?_) he hplain;obtain⟨l,ns,rfl,hq,h64,tw,q⟩:=q1;obtain⟨u,rfl,rx⟩:=qCy r1;cases rx;have hgs:s1.heap.Ns mainGlobals X.mg:=I1.ok.mod.glob.keeps I1.bk;obtain⟨bm,ob,b1,b2,b3,b4,b5,b6⟩:=L.bl;have rest:∀(c':Addr) (ctv:Value) (h':Heap) (tk:Nat) (H2:Hp),Inv X aB σ H2 { s1 with heap:=h'.push (PySem.W.kla_obj "<lambda>" (X.env.qual++"<lambda>") params body scope [] ((X.mg "__name__").getD .none) c' ctv),toks:=tk }->H2 c'=some (qX6 c' (X.env.qual++"<lambda>"))->H2 h'.objs.size=none->Aw X aB h'.objs.size->(∃ps,H1 P=some (.tbl ps))->ExtB P H1 H2->TabW H2 P lpos (X.env.qual++"<lambda>")->(∀r,H2 r=none->H1 r=none) ->
   wpAny vD X.A (call (.builtin "sorted") [.ref l] [(Str.ofString "key",.ref h'.objs.size)]) (EP X aB σ Q) X.xe { s1 with heap:=h'.push (PySem.W.kla_obj "<lambda>" (X.env.qual++"<lambda>") params body scope [] ((X.mg "__name__").getD .none) c' ctv),toks:=tk }:=by
  intro c' ctv h' tk H2 I2 hc' nF wF ⟨ps,hP⟩ eB tw2 back;have I3:Inv X ((h'.objs.size,PySem.W.kla_obj "<lambda>" (X.env.qual++"<lambda>") params body scope [] ((X.mg "__name__").getD .none) c' ctv) :: aB) σ H2
    { s1 with heap:=h'.push (PySem.W.kla_obj "<lambda>" (X.env.qual++"<lambda>") params body scope [] ((X.mg "__name__").getD .none) c' ctv),toks:=tk }:=I2.pins_of λp hp=>by
   rcases hAj.mp hp with rfl|hp
   ·exact⟨Heap.get?_push_size _ rfl,nF,wF.loc,wF.fs,λv z=>by cases z⟩
   ·exact I2.pin p (hA7 _ hp)
  refine hEq (qLf (g:=g) (Q:=Q) I3 (zFk hP eB hq) h64 (λn hn t pins' s' sub I'=>?_) (λr ns' nr pm _=>?_)) (λv s' ⟨y,H',J,ry,qq⟩=>⟨y,H',J.unpin,ry,qq⟩) λ_ _ z=>z
  ·have ho:=(I'.pin _ (hA7 _ (sub _ (.head _)))).1;have hcr:s'.heap.CodeRec (.ref c') (X.env.qual++"<lambda>"):=(I'.hok c' _ hc').1;refine wpAny_call (hF9 (qS0 (v:=.int n) (t:=te) (Q:=λv H=>v = .int (g n)/\H=H2) (Room.in1 (Room.in1 hr)) I'.env0.in1.in1 ho hcr S (hb _ _ _ _ _ _) ⟨t,rfl⟩ (hbody _ _ _ _ _ _) (hte n H2 _ ⟨rfl,rfl⟩)) λr s'' hq=>?_);cases r with
   |error e=>exact False.elim hq
   |ok fl =>
    cases fl with
    |ret u=>exact I'.after hq
    |next=>exact False.elim hq
    |brk=>exact False.elim hq
    |cont=>exact False.elim hq
  ·refine q r ns' _ (back r nr) (λb o hb e=>?_) upd_same pm (tw2.ext λb o e=>by rw[qAk (qAo e nr)];exact e);have:=eB b o hb e;rw[qAk (qAo this nr)];exact this
 rcases tw with hP|⟨c',hP,hc'⟩
 ·have hPh:s1.heap.get? P=some (PySem.W.tabObj #[]):=I1.hok P _ hP;have hgP:mainGlobals≠P:=λz=>by
   obtain⟨o,es,ep,e1,hd,_⟩:=hgs;rw[z,hPh]at e1;cases e1;cases hd
  refine hDp (PySem.W.kla_eval hdef (PySem.W.kla_makeFunction (mg:=X.mg) hcl I1.ok.glob hgs L.code (L.hd.keeps I1.bk) hPh trivial rfl hgP ⟨bm,ob,b1,b2,b3,b4,I1.bk _ _ b5,b6⟩ λc' ctv h' tk hx hge hlt hrec htb=>hDt ?_));have hsz:s1.heap.objs.size<=h'.objs.size:=hB9 (hDa hge hlt);have I2:=I1.grown (more:=#[rawInt lpos.line,rawInt lpos.col,.ref c']) (tk:=tk) (h':=h'.push (PySem.W.kla_obj "<lambda>" (X.env.qual++"<lambda>") params body scope [] ((X.mg "__name__").getD .none) c' ctv)) hP (λb o hb e=>Heap.get?_push_of_some _ (hx b o hb e)) (Heap.get?_push_of_some _ htb);have hPlt:P<s1.heap.objs.size:=Heap.lt_size hPh;have nC1:H1 c'=none:=I1.hok.fresh hge;have nC:upd H1 P (.tbl (#[]++#[rawInt lpos.line,rawInt lpos.col,.ref c'])) c'=none:=by
   rw[qAk (hCj (hAo hPlt hge))];exact nC1
  have wC:Aw X aB c':=I1.aw hge;have I3:=I2.adoptX wC nC (qQr (hrec.keeps λb o e=>Heap.get?_push_of_some _ e));have nF1:H1 h'.objs.size=none:=I1.hok.fresh hsz;refine rest c' ctv h' tk _ I3 upd_same ?_ (I1.aw hsz) ⟨_,hP⟩ (λb o hb e=>?_) (.inr ⟨c',?_,upd_same⟩) λr hr0=>?_
  ·rw[qAk (hCj hlt),qAk (hCj (hAo hPlt hsz))];exact nF1
  ·rw[qAk (qAo e nC1),qAk hb];exact e
  ·rw[qAk (hAx (hAo hPlt hge)),upd_same];simp
  ·by_cases h1:r=c'
   ·rw[h1];exact nC1
   ·rw[qAk h1]at hr0;by_cases h2:r=P
    ·rw[h2,upd_same]at hr0;cases hr0
    ·rw[qAk h2]at hr0;exact hr0
 ·have hPh:s1.heap.get? P=some (PySem.W.tabObj #[rawInt lpos.line,rawInt lpos.col,.ref c']):=I1.hok P _ hP;refine hDp (PySem.W.kla_eval hdef (PySem.W.kla_makeFunctionHit (mg:=X.mg) hcl I1.ok.glob hgs L.code (L.hd.keeps I1.bk) hPh ?tri (qZ7 lpos _) ⟨bm,ob,b1,b2,b3,b4,I1.bk _ _ b5,b6⟩ λctv h' tk hk hsz=>hDt ?_))
  case tri=>trivial
  have I2:Inv X aB σ H1 { s1 with heap:=h'.push (PySem.W.kla_obj "<lambda>" (X.env.qual++"<lambda>") params body scope [] ((X.mg "__name__").getD .none) c' ctv),toks:=tk }:=I1.kept (t':=tk) λb o e=>Heap.get?_push_of_some _ (hk b o e)
  exact rest c' ctv h' tk H1 I2 hc' (I1.hok.fresh hsz) (I1.aw hsz) ⟨_,hP⟩ (λb o _ e=>e) (.inr ⟨c',hP,hc'⟩) λr z=>z
end
end L2
namespace My
open PySem L2
noncomputable def sumF(N:List Nat):List Nat:=N.foldl (λS x=>S++S.map λz=>z^^^x) [0]
theorem qFh(N:List Nat)(x:Nat):sumF (N++[x])=sumF N++(sumF N).map λz=>z^^^x:=by unfold sumF;rw[hBt];rfl
theorem qCa:Spn (l++[x]) z↔Spn l z\/Spn l (z^^^x):=by
 constructor
 ·intro h
  induction h with
  |zero=>exact .inl .zero
  |add hm _ ih =>
   rename_i m y _;rcases hAb.mp hm with w|w
   ·rcases ih with i|i
    ·exact .inl (.add w i)
    ·refine .inr ?_;have:=Spn.add w i;rw[<-hBe]at this;exact this
   ·rw[hA3]at w;subst w;rcases ih with i|i
    ·refine .inr ?_;rw[hCl m y,qAy];exact i
    ·refine .inl ?_;rw[hCl m y];exact i
 ·have up:∀ {y},Spn l y->Spn (l++[x]) y:=λhy=>hy.mono λu hu=>.mem (hAg _ hu)
  rintro(h|h)
  ·exact up h
  ·have:=(up h).xor (Spn.mem (by simp:x∈l++[x]));rw[qAy]at this;exact this
theorem qB9(N:List Nat):∀z,z∈sumF N↔Spn N z:=by
 refine qG0 (P:=λN=>∀z,z∈sumF N↔Spn N z) (λz=>?_) (λl x ih z=>?_) N
 ·constructor
  ·intro h;have:z=0:=by simpa [sumF] using h
   rw[this];exact .zero
  ·intro h;have:z=0:=by
    cases h with
    |zero=>rfl
    |add hm _=>cases hm
   rw[this];simp[sumF]
 ·rw[qFh,hAb,qCa,ih,hAe];refine or_congr Iff.rfl ⟨λ⟨y,hy,e⟩=>?_,λh=>⟨z^^^x,(ih _).mpr h,qAy z x⟩⟩;rw[<-e,qAy];exact(ih y).mp hy
theorem qDz(N:List Nat):(sumF N).length=2^N.length:=by
 refine qG0 (P:=λN=>(sumF N).length=2^N.length) rfl (λl x ih=>?_) N;rw[qFh,hAf,hA1,ih,hAf];show _=2^(l.length+1);rw[hD7];omega
theorem zC3(z k:Nat):(decide (V.int (Builtin.bitAnd (z:Int) (Builtin.bitNot (k:Int)))=V.int 0))=decide (z&&&k=z):=by
 have nn:¬(0:Int)<=Builtin.bitNot (k:Int):=by unfold Builtin.bitNot;omega
 have e:Builtin.bitAnd (z:Int) (Builtin.bitNot (k:Int))=(z:Int)-((z&&&k:Nat):Int):=by
  unfold Builtin.bitAnd;rw[hEf (show(0:Int)<=(z:Int) by omega),hEg nn];have x:∀x:Int,Builtin.bitNot (Builtin.bitNot x)=x:=λx=>by unfold Builtin.bitNot;omega
  show(z:Int)-(((z:Int).toNat&&&(Builtin.bitNot (Builtin.bitNot (k:Int))).toNat:Nat):Int)=_;rw[x,hB7,hB7]
 rw[e];refine decide_eq_decide.mpr ?_;rw[V.int.injEq];have:=Nat.and_le_left (n:=z) (m:=k);omega
def qSd:Sp:=λvs H Q _=>∃(p:Addr) (N:List Nat),vs=[.ref p]/\LsN H p N/\N.length<=12/\∀r H',Ext H H'->H r=none->LsN H' r (sumF N)->Q (.ref r) H'
noncomputable def insF(N:List Nat)(k:Nat):List Nat:=redL ((sumF N).filter λz=>decide (z&&&k=z))
def qYq:Sp:=λvs H Q _=>∃(p:Addr) (N:List Nat) (k:Nat),vs=[.ref p,iV k]/\LsN H p N/\N.length<=12/\∀r H',Ext H H'->H r=none->LsN H' r (insF N k)->Q (.ref r) H'
noncomputable def lpB:Pos:=match (qCb qG1).getD 2 (.Pass ⟨0,0,0,0⟩) with
 |.Return (some (.Call _ _ [⟨_,.Lambda _ _ _ p,_⟩] _)) _=>p
 |_=>⟨0,0,0,0⟩
noncomputable abbrev qB:Str:=("_law_blocks" : Str)++".<locals>."++"<lambda>"
theorem Ext.toB(e:Ext H H'):ExtB P H H':=λb o _ h=>e b o h
theorem _root_.L2.ExtB.trans(a:ExtB P H H1)(b:ExtB P H1 H2):ExtB P H H2:=λc o n h=>b c o n (a c o n h)
theorem TabW.extE(h:TabW H P lpos q)(e:Ext H H'):TabW H' P lpos q:=h.ext e
theorem TabW.tb(h:TabW H P lpos q):∃ps,H P=some (.tbl ps):=by
 rcases h with h|⟨c,h,_⟩
 ·exact⟨_,h⟩
 ·exact⟨_,h⟩
def qSg(Pt:Addr):Sp:=λvs H Q _=>∃(p:Addr) (N:List Nat) (m:Nat),vs=[.ref p,iV m]/\LsN H p N/\N.length<=12/\m<=12/\TabW H Pt lpB qB/\∀(r:Addr) (hs:List Nat) (H':Hp),ExtB Pt H H'->H r=none->LsN H' r hs->hs.Perm (blF N m)->TabW H' Pt lpB qB->Q (.ref r) H'
def zF6:V->V->Hp->VK->Prop:=rI0 λi j=>.int (Builtin.bitAnd i j)
def zF3:V->Hp->VK->Prop:=rU λi=>.int (-i)
def zG0(n:Int):Int:=Builtin.bitAnd n (-n)
theorem zCe(n:Int)(H:Hp)(Q:VK)(q:Q (.int (zG0 n)) H):tOp zF6 (qR0 0) (tUn zF3 (qR0 0)) [some (.int n)] H Q:=⟨_,rfl,_,rfl,n,rfl,_,_,rfl,rfl,q⟩
theorem qXl(p:ns.Perm (ms.map λn:Nat=>(n:Int))):∃hs:List Nat,ns=hs.map (λn:Nat=>(n:Int))/\hs.Perm ms:=by
 refine⟨ns.map Int.toNat,?_,?_⟩
 ·rw[hB6];refine(hDq ns).symm.trans (hBg λx hx=>?_);obtain⟨n,_,rfl⟩:=hAe.mp (p.mem_iff.mp hx);rfl
 ·have:=p.map Int.toNat;rw[hB6]at this;refine this.trans (hE8 ?_);exact(hBg λx _=>(hB7 x)).trans (hDq ms)
theorem zGq(z n:Nat):(V.int (Builtin.bitAnd (z:Int) (n:Int))=V.int 0)↔z&&&n=0:=by
 rw[qCl];exact⟨λh=>by have:=V.int.inj h;omega,λh=>by rw[h];rfl⟩
theorem qZ4{z n:Nat}{c:Bool}(h:(!decide (V.int (Builtin.bitAnd (z:Int) (n:Int))=V.int 0))=c):(!decide (z&&&n=0))=c:=by
 rw[<-h,decide_eq_decide.mpr (zGq z n)]
theorem qZ5{z n:Nat}{c:Bool}(h:decide (V.int (Builtin.bitAnd (z:Int) (n:Int))=V.int 0)=c):decide (z&&&n=0)=c:=by
 rw[<-h,decide_eq_decide.mpr (zGq z n)]
theorem qVq(hs:List Nat)(n:Nat):(blS hs n).length<=hs.length+1:=by
 unfold blS;rw[hAf];exact Nat.add_le_add_right (hAz _ _) 1
section
variable{P:Program}{w:World}{K:PySem.W.Frag}{mg:Str->Option Value}{base:Heap}{f f1 f2 c Pt:Addr}{fd fd1 fd2:FuncData}
noncomputable abbrev lsN:List Str:=["_law_base","_law_found","_law_row_here"]
theorem qPe:FnScope lsN ["_law_base"] (qAc qWo):=fsk
theorem zBi(F:Fun K "_law_sums" "_law_sums" qWo f fd):v8 1 f fd ["_law_base"] qSd:=by
 refine F.okA qPe λcdv A outer s H vs Q E hr h=>?_
 obtain⟨p,N,rfl,hN,lN,q⟩:=h;refine⟨_,qAa (v4 1 qPe (qA4 (pa1 qAb))) (qAa (qBa PassesOwn.never rfl (qAp (pv 0)) (v7 2 qPe) (qAe (v4 1 qPe (qAg qCi (pv 1) (qA8 (N:=lsN) (sc:=qAc qWo) (N':=["_law_number","_law_row_here"]) (sub:=[none,some 2]) (qAp (pv 1)) (λC s H fp=>⟨qAz,(qAg qDr (pv 0) (pv 1))⟩)))))) (qAe (qAt (pv 1)))),?_⟩;refine⟨(by show 1<=sizeLine;decide),λs0 hs0=>?_⟩;have X3:=Ext.new hs0 (.lst [V.int 0]);refine⟨_,rfl,p,rfl,⟨_,SqL.of (X3 _ _ hN)⟩,?_⟩;refine qBg (xs:=N.map iV) (λi σ H'=>∃(ps:Addr) (x2:Option V),σ=[some (.ref p),some (.ref ps),x2]/\Ext H H'/\H ps=none/\LsN H' ps (sumF (N.take i))) ⟨s0,none,rfl,X3,hs0,upd_same⟩ (λi σ H' _ h=>by obtain⟨_,_,_,e,_⟩:=h;exact SqL.of (e _ _ hN)) ?_ ?_
 ·rintro i v σ H' hx ⟨ps,x2,rfl,e,ps0,hps⟩;obtain⟨y,rfl,hy⟩:=qB2 hx;have hi:=qAx hy;have lS:(sumF (N.take i)).length<=2048:=by
   rw[qDz,hAm];exact hAw (hBd (by decide) (show min i N.length<=11 by omega)) (by decide)
  refine⟨_,rfl,_,rfl,ps,rfl,⟨_,SqL.of hps⟩,?_⟩;refine qAq (xs:=(sumF (N.take i)).map iV) (λj ys H2=>H2=H'/\ys=(((sumF (N.take i)).take j).map λz=>z^^^y).map iV) ⟨rfl,rfl⟩ (λj ys H2 _ h=>by rw[h.1];exact SqL.of hps) ?_ ?_
  ·rintro j v ys H3 hx3 ⟨rfl,rfl⟩;obtain⟨z,rfl,hz⟩:=qB2 hx3;have hj:=qAx hz;refine⟨sls,iteT (B:=False) ⟨_,rfl,_,rfl,_,_,rfl,rfl,?_⟩⟩;refine⟨by rw[hA1,hA1,hAm];exact qDo vG,nxt (qAx hx3) ⟨rfl,?_⟩⟩;rw[qAh hz,hA4,hA4];show _++[V.int (Builtin.bitXor (z:Int) (y:Int))]=_;rw[qCk];rfl
  ·rintro ys H3 ⟨rfl,rfl⟩ l hl;rw[hA1,hA5 (hA9 _)];have Xl:=Ext.new hl (.lst (((sumF (N.take i)).map λz=>z^^^y).map iV));refine⟨ps,l,_,_,rfl,rfl,Xl _ _ hps,upd_same,by rw[hA1,hA1,hA1];exact hB9 (qDo vG),λl3 hl3=>?_⟩;have X4:=Ext.new hl3 (.lst ((sumF (N.take i)).map iV++((sumF (N.take i)).map λz=>z^^^y).map iV));refine⟨l3,_,rfl,(e.trans Xl).trans X4,(e.trans Xl).none hl3,?_⟩;unfold LsN;rw[upd_same,qAh hy,qFh,hA4]
 rintro σ H3 ⟨ps,x2,rfl,e3,ps0,hps⟩;rw[hA1,hA5 (hA9 _)]at hps;exact⟨_,rfl,q ps H3 e3 ps0 hps⟩
noncomputable abbrev liN:List Str:=["_law_base","_law_mask_here"]
theorem zDv:FnScope liN ["_law_base","_law_mask_here"] (qAc qWv):=fsk
theorem zBr(F:Fun K "_law_inside" "_law_inside" qWv f fd)(G1:v9 1 f1 fd1 ["_law_numbers"] qHp "_law_reduced")
  (G2:v9 1 f2 fd2 ["_law_base"] qSd "_law_sums"):v8 2 f fd ["_law_base","_law_mask_here"] qYq:=by
 refine F.okA zDv λcdv A outer s H vs Q E hr1 h=>?_
 obtain⟨p,N,k,rfl,hN,lN,q⟩:=h;refine⟨_,qAe (qAt (qAw G1 hr1 rfl .nil qAv (pa1 (qA8 (N:=liN) (sc:=qAc qWv) (N':=["_law_number","_law_mask_here"]) (sub:=[none,some 1]) (qAp (qAw G2 hr1 rfl .nil qAv (pa1 (pv 0)))) (λC s H fp=>⟨(qBk (qAn qB8 (qAg qBr (pv 0) (qN1 zDe (pv 1))) qAb (qAu _))),(pv 0)⟩))))),?_⟩;refine⟨_,rfl,p,N,rfl,hN,by omega,λs1 H1 e1 _ hs1=>?_⟩;have lS:(sumF N).length<=4096:=by
  rw[qDz];exact hAw (hBd (by decide) lN) (by decide)
 refine⟨s1,rfl,⟨_,SqL.of hs1⟩,?_⟩;refine qBm (λz=>decide (z&&&k=z)) (λz=>z) hs1 vG (λz hz C B cc bb=>⟨sls,?_⟩) ?_
 ·refine⟨_,rfl,_,rfl,_,rfl,_,_,rfl,rfl,rfl,_,rfl,?_⟩;rw[zC3];cases hp:decide (z&&&k=z) with
  |true=>exact⟨_,rfl,cc hp⟩
  |false=>exact bb hp
 ·intro l hl;rw[hDq ];have X2:=Ext.new hl (.lst (((sumF N).filter λz=>decide (z&&&k=z)).map iV));obtain⟨m1,lt1⟩:=qRq ((sumF N).filter λz=>decide (z&&&k=z));refine⟨l,_,m1,rfl,upd_same,hAw (hAz _ _) vG,lt1,λr H3 e3 r0 hr=>q r H3 (e1.trans (X2.trans e3)) ((e1.trans X2).none r0) hr⟩
noncomputable abbrev lbN:List Str:=["_law_base","_law_many","_law_heaps","_law_number","_law_mine"]
theorem qLn:FnScope lbN ["_law_base","_law_many"] (qAc qG1):=fsk
theorem zBx(F:Fun K "_law_blocks" "_law_blocks" qG1 f fd)(hcode:fd.code = .ref c)(hC:PySem.W.CodeHd base c Pt)(hB:base.BuiltinsAt mg Pt)(mr:mg "range"=none)(msu:mg "sum"=none)(mso:mg "sorted"=none):v8 3 f fd ["_law_base","_law_many"] (qSg Pt):=by
 refine F.okC qLn (λvs H Q E h=>?_) (λA outer s H vs Q E hr2 h=>?_)
 ·obtain⟨p,N,m,rfl,_⟩:=h;rfl
 obtain⟨p,N,m,rfl,hN,lN,m12,tw,q⟩:=h;have L:LamAt ((qQp CX0 P w K mg base lbN "_law_blocks" (qAc qG1) f fd.code A outer s H E).nox) c Pt:=⟨hcode,hC,hB⟩;refine⟨_,qAa (qDe (i:=2) (N:=lbN) (sc:=qAc qG1) (N':=["_law_k"]) (sub:=[none]) (qBd rfl mr (pa1 (pv 1))) (λC s H fp=>⟨qAz,(qAg qCd qAb (pv 0))⟩) qLn.nd rfl vE) (qAa (qBa PassesOwn.never rfl (qAp (qA8 (N:=lbN) (sc:=qAc qG1) (N':=["_law_row_here"]) (sub:=[none]) (qAp (pv 0)) (λC s H fp=>⟨(qBk (qAn qFr (pv 0) qAb (qAu _))),(pv 0)⟩))) (v7 3 qLn) (qAa (qDe (i:=4) (N:=lbN) (sc:=qAc qG1) (N':=["_law_heap","_law_number"]) (sub:=[none,some 3]) (qAp (pv 2)) (λC s H fp=>⟨(qBk (qAn qFr (qAg qBr (pv 0) (pv 1)) qAb (qAu _))),(pv 0)⟩) qLn.nd rfl vE) (qAe (v4 2 qLn (qAg qCi (qA8 (N:=lbN) (sc:=qAc qG1) (N':=["_law_heap","_law_number"]) (sub:=[none,some 3]) (qAp (pv 2)) (λC s H fp=>⟨(qBk (qAn qB8 (qAg qBr (pv 0) (pv 1)) qAb (qAu _))),(pv 0)⟩)) (qA4 (pa1 (qAj (qC5 rfl) rfl msu qC7 (pa1 (pv 4)))))))))) (qAe (qAt (qN2 (k:=0) (x:="_law_heap") (g:=zG0) (te:=tOp zF6 (qR0 0) (tUn zF3 (qR0 0))) L hr2 rfl mso (pa1 (pv 2)) ⟨rfl,rfl,rfl,by decide +kernel,rfl,by decide +kernel,by decide +kernel⟩ rfl rfl (λ_ _ _ _ _ _=>rfl) (λ_ _ _ _ _ _=>(show PE _ _ (tOp zF6 (qR0 0) (tUn zF3 (qR0 0))) from qAg qBr (pv 0) (qN1 qIy (pv 0)))) zCe)))),?_⟩;refine⟨_,rfl,(m:Int),rfl,by omega,by omega,?_⟩;refine qDy (lo:=0) (n:=m) (λi ys H2=>H2=H/\ys=((List.range i).map λk=>2^k).map iV) ⟨rfl,rfl⟩ ?_ ?_
 ·rintro i ys H2 hi ⟨rfl,rfl⟩;refine⟨sls,iteT (B:=False) ⟨_,rfl,_,_,rfl,rfl,⟨by omega,by omega,by decide⟩,?_⟩⟩;refine⟨by rw[hA1,hA1,hB4];exact qAf vG,nxt hi ⟨rfl,?_⟩⟩;rw[hCk,hA4,hA4];show _++[V.int (1*2^(0+(i:Int)).toNat)]=_;rw[show(0+(i:Int))=((i:Nat):Int) by omega,qBt];rfl
 rintro ys H2 ⟨rfl,rfl⟩ h0 hh0;have X0:=Ext.new hh0 (.lst (((List.range m).map λk=>2^k).map iV));refine⟨_,rfl,p,rfl,⟨_,SqL.of (X0 _ _ hN)⟩,?_⟩;refine qBm (λz=>!decide (z=0)) (λz=>z) (X0 _ _ hN) vG (λz hz C B cc bb=>⟨sls,?_⟩) ?_
 ·refine⟨_,rfl,rfl,_,rfl,?_⟩;cases hp:(!decide (z=0)) with
  |true =>
   have:(!decide (V.int (z:Int)=V.int 0))=true:=by simp at hp ⊢;exact hp
   rw[hEk this];exact⟨_,rfl,cc hp⟩
  |false =>
   have:¬(!decide (V.int (z:Int)=V.int 0))=true:=by simp at hp ⊢;exact hp
   rw[hEj this];exact bb hp
 intro l0 hl0;rw[hDq];have X1:=Ext.new hl0 (.lst ((N.filter λz=>!decide (z=0)).map iV));refine⟨l0,rfl,⟨_,SqL.of upd_same⟩,?_⟩;have hL:LsN (upd (upd H2 h0 (.lst (((List.range m).map λk=>2^k).map iV))) l0 (.lst ((N.filter λz=>!decide (z=0)).map iV))) l0 (N.filter λz=>!decide (z=0)):=upd_same;have lf:(N.filter λz=>!decide (z=0)).length<=12:=hAw (hAz _ _) lN;have hh:LsN (upd (upd H2 h0 (.lst (((List.range m).map λk=>2^k).map iV))) l0 (.lst ((N.filter λz=>!decide (z=0)).map iV))) h0 ((List.range m).map λk=>2^k):=X1 _ _ upd_same;have E1:=X0.trans X1;revert hL hh E1;generalize upd (upd H2 h0 (.lst (((List.range m).map λk=>2^k).map iV))) l0 (.lst ((N.filter λz=>!decide (z=0)).map iV))=H1;intro hL hh E1;refine qBg (xs:=(N.filter λz=>!decide (z=0)).map iV) (λi σ H'=>∃(ph:Addr) (x3 x4:Option V),σ=[some (.ref p),some (iV m),some (.ref ph),x3,x4]/\Ext H1 H'/\H2 ph=none/\LsN H' ph (((N.filter λz=>!decide (z=0)).take i).foldl blS ((List.range m).map λk=>2^k))/\(((N.filter λz=>!decide (z=0)).take i).foldl blS ((List.range m).map λk=>2^k)).length<=12+i) ⟨h0,none,none,rfl,Ext.refl _,hh0,hh,by rw[List.take_zero];show((List.range m).map _).length<=_;rw[hA1,hB4];omega⟩ (λi σ H' _ h=>by obtain⟨_,_,_,_,e,_⟩:=h;exact SqL.of (e _ _ hL)) ?_ ?_
 ·rintro i v σ H' hx ⟨ph,x3,x4,rfl,e,ph0,hph,lh⟩;obtain⟨n,rfl,hn⟩:=qB2 hx;have hi:=qAx hn;have hsn:((N.filter λz=>!decide (z=0)).take (i+1)).foldl blS ((List.range m).map λk=>2^k)=blS (((N.filter λz=>!decide (z=0)).take i).foldl blS ((List.range m).map λk=>2^k)) n:=by
   rw[qAh hn,hBt];rfl
  rw[hsn];have ls:=qVq (((N.filter λz=>!decide (z=0)).take i).foldl blS ((List.range m).map λk=>2^k)) n;revert hph lh ls;generalize ((N.filter λz=>!decide (z=0)).take i).foldl blS ((List.range m).map λk=>2^k)=hs;intro hph lh ls;refine⟨_,rfl,ph,rfl,⟨_,SqL.of hph⟩,?_⟩;refine qBm (λh=>!decide (h&&&n=0)) (λz=>z) hph vG (λz hz C B cc bb=>⟨sls,?_⟩) ?_
  ·refine⟨_,rfl,_,rfl,_,_,rfl,rfl,rfl,_,rfl,?_⟩;exact qBw (λc=>⟨_,rfl,cc (qZ4 c)⟩) (λc=>bb (qZ4 (hDd _▸c)))
  intro l1 hl1;rw[hDq];have n1:=Ext.new hl1 (.lst ((hs.filter λh=>!decide (h&&&n=0)).map iV));refine⟨_,rfl,ph,rfl,⟨_,SqL.of (n1 _ _ hph)⟩,?_⟩;refine qBm (λh=>decide (h&&&n=0)) (λz=>z) (n1 _ _ hph) vG (λz hz C B cc bb=>⟨sls,?_⟩) ?_
  ·refine⟨_,rfl,_,rfl,_,_,rfl,rfl,rfl,_,rfl,?_⟩;exact qBw (λc=>⟨_,rfl,cc (qZ5 c)⟩) (λc=>bb (qZ5 (hDd _▸c)))
  intro l2 hl2;rw[hDq];have n2:=Ext.new hl2 (.lst ((hs.filter λh=>decide (h&&&n=0)).map iV));have sumE:((hs.filter λh=>!decide (h&&&n=0)).map λn:Nat=>(n:Int)).sum=(((hs.filter λh=>!decide (h&&&n=0)).sum:Nat):Int):=qDb _;refine⟨_,rfl,l1,(hs.filter λh=>!decide (h&&&n=0)).map (λn:Nat=>(n:Int)),rfl,SqL.of (by rw[n2 _ _ upd_same,qCj]),(by show 1<=sizeLine;decide),λl3 hl3=>?_⟩;have n3:=Ext.new hl3 (.lst [V.int ((hs.filter λh=>!decide (h&&&n=0)).map λn:Nat=>(n:Int)).sum]);refine⟨l2,l3,_,_,rfl,rfl,n3 _ _ upd_same,upd_same,by rw[hA1];have:=hAz (λh=>decide (h&&&n=0)) hs;exact hB9 (qAf (by show _+1<=_;omega)),λl4 hl4=>?_⟩;refine⟨l4,_,_,rfl,e.trans (n1.trans (n2.trans (n3.trans (Ext.new hl4 _)))),E1.none (e.none (n1.none (n2.none (n3.none hl4)))),?_,by omega⟩;unfold LsN blS;rw[upd_same,hA4,sumE];rfl
 rintro σ H3 ⟨ph,x3,x4,rfl,e3,ph0,hph,lh⟩;rw[hA1,hA5 (hA9 _)]at hph lh;have tw3:=My.TabW.extE tw (E1.trans e3);refine⟨_,rfl,ph,(blF N m).map (λn:Nat=>(n:Int)),rfl,SqL.of (by rw[<-qCj];exact hph),by rw[hA1];show(blF N m).length<64;have:(blF N m).length<=12+(N.filter λz=>!decide (z=0)).length:=lh;omega,tw3,λr ns' H4 r0 eB hr pm tw4=>?_⟩;obtain⟨hs,rfl,ph2⟩:=qXl pm;exact q r hs H4 (λb o n h=>eB b o n ((E1.trans e3) b o h)) ((E1.trans e3).none r0) (by unfold LsN;rw[hr,qCj]) ph2 tw4
end
theorem qP8{l:List Nat}(nd:l.Nodup){m:Nat}(h:∀x∈l,x<m):l.length<=m:=by
 have p:l.Perm ((List.range m).filter λx=>decide (x∈l)):=(hC7 nd (hDn.sublist hCa)).mpr λa=>by
  rw[hAd,hAv,hEl];exact⟨λha=>⟨h a ha,ha⟩,λha=>ha.2⟩
 rw[p.length_eq];exact hAw (hAz _ _) (by rw[hB4];exact hA9 _)
def Inn(z k:Nat):Prop:=∀i,z.testBit i=true->k.testBit i=true
theorem qZq(h:z&&&k=z):Inn z k:=λi hi=>by
 rw[<-h,hAr,hCm]at hi;exact hi.2
theorem qUa:∀y∈insF N k,Spn N y/\Inn y k:=by
 intro y hy;have h1:=qEi y hy;refine⟨Spn.mono (λx hx=>(qB9 N x).mp (hAd.mp hx).1) h1,?_⟩;intro i hi;cases hk:k.testBit i with
 |true=>rfl
 |false =>
  have:=qJs (j:=i) (λx hx=>by
   have h2:=qZq (hEi (hAd.mp hx).2);cases q:x.testBit i with
   |false=>rfl
   |true=>rw[h2 i q]at hk;cases hk) h1
  rw[this]at hi;cases hi
theorem qJ9(y:Nat):Spn (redL xs) y↔Spn xs y:=by
 refine⟨Spn.mono λx hx=>qEi x hx,Spn.mono λx hx=>?_⟩;obtain⟨m,lt⟩:=qRq xs;obtain⟨g,e⟩:=qDk _ lt;have h1:Spn ((redL xs).map (rv m)) (rv m x):=by rw[e,qBj];exact .mem (hAu hx)
 exact(qCc (λx hx=>(g x hx).1) (lt x hx)).mp h1
theorem One.of(o:One S n)(h:∀y,Spn S y↔Spn T y):One T n:=⟨λi hi=>by
 obtain⟨e,h1,h2⟩:=o.on i hi;exact⟨e,(h e).mp h1,h2⟩,λi hi=>o.no i ((h _).mpr hi)⟩
theorem qUq(nd:(nmS net).Nodup)(k1:qIv net p1)(k2:qIv net p2)(e1:EIv (vF net p1) net.length net.length K1 F1)(e2:EIv (vF net p2) net.length net.length K2 F2)(y:Nat):Spn F1 y↔Spn F2 y:=by
 rw[e1.done,e2.done];refine and_congr_right λhy=>?_
 have l1:=zG1 nd k1 k1 (qLq net.length y);have l2:=zG1 nd k1 k2 (qLq net.length y);rw[qJ4 hy]at l1 l2;exact l1.symm.trans l2
theorem zCn(h:y∈(sumF N).filter (λz=>decide (z&&&k=z))):Spn (insF N k) y:=by
 obtain⟨m,lt⟩:=qRq ((sumF N).filter (λz=>decide (z&&&k=z)));obtain⟨g,e⟩:=qDk _ lt;have h1:Spn ((redL ((sumF N).filter (λz=>decide (z&&&k=z)))).map (rv m)) (rv m y):=by
  rw[e,qBj];exact .mem (hAu h)
 exact(qCc (λx hx=>(g x hx).1) (lt y h)).mp h1
theorem qUb{N:List Nat}{k m:Nat}(h:∀i,k.testBit i=true->i<m):(insF N k).length<=m:=by
 have lt:∀x∈(sumF N).filter (λz=>decide (z&&&k=z)),x<2^m:=λx hx=>by
  have h2:=qZq (hEi (hAd.mp hx).2);refine hB8 _ λi hi=>?_
  cases q:x.testBit i with
  |false=>rfl
  |true=>have:=h i (h2 i q);omega
 obtain⟨g,e⟩:=qDk _ lt;have rr:=qB1 (((sumF N).filter (λz=>decide (z&&&k=z))).map (rv m));rw[<-e]at rr;have l1:=qXr rr;have:=qP8 l1 (m:=m) λx hx=>by
  obtain⟨s,hs,rfl⟩:=hAe.mp hx;obtain⟨u,hu,rfl⟩:=hAe.mp hs;exact(hDx (zAt (g u hu).1 (g u hu).2)).mpr (qLq _ _)
 rw[hA1,hA1]at this;exact this
theorem qHn(S:List Nat):RR S->(sumF S).Nodup:=by
 refine qG0 (P:=λS=>RR S->(sumF S).Nodup) (λ_=>by show [0].Nodup;simp) (λl x ih r=>?_) S;have rl:RR l:=⟨λs hs=>r.nz s (hAg _ hs),r.ap.sublist (List.sublist_append_left l [x])⟩;have hx:x∈l++[x]:=hA7 _ (hA3.mpr rfl);have hap:=hBh.mp r.ap;have bit:∀s∈l,s.testBit x.log2=false:=λs hs=>(hap.2.2 s hs x (hA3.mpr rfl)).2
 have sb:∀z∈sumF l,z.testBit x.log2=false:=λz hz=>qJs bit ((qB9 l z).mp hz)
 rw[qFh,hDu];refine⟨ih rl,?_,λa ha b hb e=>?_⟩
 ·refine hBp.mpr ((ih rl).imp λ{a b} ne e=>ne ?_);have:=congrArg (λz=>z^^^x) e;simp only[qAy]at this;exact this
 ·obtain⟨c,hc,rfl⟩:=hAe.mp hb;have h1:=sb a ha;rw[e,hAn,sb c hc,r.self hx]at h1;cases h1
theorem qWy(ha:RR a)(hb:RR b)(h:∀z∈a,Spn b z):a.length<=b.length:=by
 have na:=qHn a ha;have nb:=qHn b hb;have sub:∀z∈sumF a,z∈sumF b:=λz hz=>(qB9 b z).mpr (Spn.mono h ((qB9 a z).mp hz))
 have p:(sumF a).Perm ((sumF b).filter λz=>decide (z∈sumF a)):=(hC7 na (nb.sublist hCa)).mpr λz=>by
  rw[hAd,hEl];exact⟨λhz=>⟨sub z hz,hz⟩,λhz=>hz.2⟩
 have:=p.length_eq;have h2:=hAz (λz=>decide (z∈sumF a)) (sumF b);rw[<-this,qDz,qDz]at h2;exact(Nat.pow_le_pow_iff_right (by decide)).mp h2
theorem zEz(r:Lrr N)(k:Nat):(insF N k).length<=N.length:=by
 obtain⟨m,g,rr⟩:=r;have gl:∀x∈N,x<2^m:=λx hx=>(g x hx).1
 have lt:∀x∈(sumF N).filter (λz=>decide (z&&&k=z)),x<2^m:=λx hx=>Spn.lt gl ((qB9 N x).mp (hAd.mp hx).1)
 obtain⟨_,e⟩:=qDk _ lt;have r2:=qB1 (((sumF N).filter (λz=>decide (z&&&k=z))).map (rv m));rw[<-e]at r2;have:=qWy r2 rr λz hz=>by
  obtain⟨s,hs,rfl⟩:=hAe.mp hz;have h1:=(qUa (N:=N) (k:=k) s hs).1;exact(qCc gl (h1.lt gl)).mpr h1
 rw[hA1,hA1]at this;exact this
section
variable{aA:List Str}{k:Nat}
theorem qEh(rn:qEc aA)(x:Nat):qEc (rowL aA x):=by
 unfold rowL;have:∀L:List Nat,L.Pairwise (· < ·)->qEc (L.filterMap λi=>if x.testBit i=true then aA[i]? else none):=λL=>by
  intro hL;refine List.Pairwise.filterMap _ (λa a' hlt b hb b' hb'=>?_) hL;split at hb
  ·split at hb'
   ·exact qJ6 rn hlt hb hb'
   ·cases hb'
  ·cases hb
 exact this _ List.pairwise_lt_range
abbrev cmp(aA:List Str)(k:Nat)(y:Nat):Nat:=qD2 (rowL aA k) (rowL aA y)
theorem qIp(rn:qEc aA)(hy:Inn y k)(j:Nat):(cmp aA k y).testBit j=true↔∃i n,(rowL aA k)[j]?=some n/\aA[i]?=some n/\y.testBit i=true:=by
 have nd:=qD8 rn;have nd':=qD8 (qEh rn k);have sub:∀n∈rowL aA y,n∈rowL aA k:=λn hn=>by
  obtain⟨i,h1,h2,h3⟩:=qBf.mp hn;exact qBf.mpr ⟨i,h1,h2,hy i h3⟩
 unfold cmp;rw[qIb nd' (qNv nd y) sub,hEl];constructor
 ·rintro⟨n,hn,e⟩;obtain⟨i,h1,h2,h3⟩:=qBf.mp hn;refine⟨i,n,?_,h2,h3⟩;rw[<-e];exact(qEa (sub n hn)).1
 ·rintro⟨i,n,h1,h2,h3⟩;exact⟨n,qBf.mpr ⟨i,(hAp.mp h2).1,h2,h3⟩,qZo nd' h1⟩
theorem qIq(rn:qEc aA)(hy:Inn y k)(hj:(rowL aA k)[j]?=some n)(hi:aA[i]?=some n):(cmp aA k y).testBit j=y.testBit i:=by
 cases h:y.testBit i with
 |true=>exact(qIp rn hy j).mpr ⟨i,n,hj,hi,h⟩
 |false =>
  cases q:(cmp aA k y).testBit j with
  |false=>rfl
  |true =>
   obtain⟨i',n',h1,h2,h3⟩:=(qIp rn hy j).mp q;rw[hj]at h1;cases h1;have:=qIj (qD8 rn) hi h2;subst this;rw[h]at h3;cases h3
theorem qQu(rn:qEc aA)(hy:Inn y k)(hj:(rowL aA k)[j]?=none):(cmp aA k y).testBit j=false:=by
 cases q:(cmp aA k y).testBit j with
 |false=>rfl
 |true =>
  obtain⟨i',n',h1,_⟩:=(qIp rn hy j).mp q;rw[hj]at h1;cases h1
theorem qKw(hx:Inn x k)(hy:Inn y k):Inn (x^^^y) k:=λi hi=>by
 rw[hAn]at hi;cases h1:x.testBit i with
 |true=>exact hx i h1
 |false=>rw[h1,Bool.false_xor]at hi;exact hy i hi
theorem qVc(rn:qEc aA)(hx:Inn x k)(hy:Inn y k):cmp aA k (x^^^y)=cmp aA k x^^^cmp aA k y:=hAh λj=>by
 rw[hAn];cases hj:(rowL aA k)[j]? with
 |none=>rw[qQu rn (qKw hx hy) hj,qQu rn hx hj,qQu rn hy hj];rfl
 |some n =>
  obtain⟨i,_,hi,_⟩:=qBf.mp (hAc hj);rw[qIq rn (qKw hx hy) hj hi,qIq rn hx hj hi,qIq rn hy hj hi,hAn]
theorem qHi:Inn 0 k:=λi hi=>by rw[hB0]at hi;cases hi
theorem qQt(rn:qEc aA):cmp aA k 0=0:=hAh λj=>by
 rw[hB0];cases hj:(rowL aA k)[j]? with
 |none=>exact qQu rn qHi hj
 |some n =>
  obtain⟨i,_,hi,_⟩:=qBf.mp (hAc hj);rw[qIq rn qHi hj hi,hB0]
theorem zCy(rn:qEc aA)(hL:∀y∈L,Inn y k)(h:Spn (L.map (cmp aA k)) z):∃y,Spn L y/\Inn y k/\z=cmp aA k y:=by
 induction h with
 |zero=>exact⟨0,.zero,qHi,(qQt rn).symm⟩
 |add hm _ ih =>
  obtain⟨y,h1,h2,h3⟩:=ih;obtain⟨x,hx,rfl⟩:=hAe.mp hm;refine⟨x^^^y,.add hx h1,qKw (hL x hx) h2,?_⟩;rw[h3,qVc rn (hL x hx) h2]
theorem zFe(rn:qEc aA)(hL:∀y∈L,Inn y k)(h:Spn L z):Spn (L.map (cmp aA k)) (cmp aA k z):=by
 have:Spn (L.map (cmp aA k)) (cmp aA k z)/\Inn z k:=by
  induction h with
  |zero=>rw[qQt rn];exact⟨.zero,qHi⟩
  |add hm _ ih=>rw[qVc rn (hL _ hm) ih.2];exact⟨.add (hAu hm) ih.1,qKw (hL _ hm) ih.2⟩
 exact this.1
theorem zCz(rn:qEc aA)(lt:∀i,k.testBit i=true->i<aA.length)(hy:Inn y k)(e:cmp aA k y=2^j):∃i,y=2^i/\k.testBit i=true:=by
 have b:(cmp aA k y).testBit j=true:=by rw[e,hAi,hEf rfl]
 obtain⟨i,n,h1,h2,h3⟩:=(qIp rn hy j).mp b;refine⟨i,hAh λi'=>?_,hy i h3⟩;rw[hAi];by_cases w:i=i'
 ·subst w;rw[h3,hEf rfl]
 ·rw[hEg w];cases q:y.testBit i' with
  |false=>rfl
  |true =>
   exfalso;have hk:=hy i' q;have hl:=lt i' hk;have hn:=hA2 hl;have hm:aA[i']∈rowL aA k:=qBf.mpr ⟨i',hl,hn,hk⟩;obtain⟨j',hj'⟩:=hDf hm;have h4:=qIq rn hy hj' hn;rw[q,e,hAi,hEl]at h4;subst h4;rw[h1]at hj';have:=hAq hj';subst this;exact w (qIj (qD8 rn) h2 hn)
theorem zAv(rn:qEc aA)(hy:Inn y k):rowL aA y=rowL (rowL aA k) (cmp aA k y):=by
 refine qJ7 (qEh rn y) (qEh (qEh rn k) _) λn=>?_
 rw[qBf,qBf];constructor
 ·rintro⟨i,h1,h2,h3⟩;have hm:n∈rowL aA k:=qBf.mpr ⟨i,h1,h2,hy i h3⟩;obtain⟨j,hj⟩:=hDf hm;exact⟨j,(hAp.mp hj).1,hj,by rw[qIq rn hy hj h2];exact h3⟩
 ·rintro⟨j,h1,h2,h3⟩;obtain⟨i,n',g1,g2,g3⟩:=(qIp rn hy j).mp h3;rw[h2]at g1;cases g1;exact⟨i,(hAp.mp g2).1,g2,g3⟩
structure Blk(aA:List Str)(rows:List (List Str)):Prop where
 tok:TabOk aA rows
 no1:∀j,¬Spn (rows.map (qD2 aA)) (2^j)
 l8:rows.length<=8
 on:∀j,j<aA.length->∃e,Spn (rows.map (qD2 aA)) e/\e.testBit j=true
theorem zFg(rn:qEc aA)(ok:SOk aA)(ln:aA.length<=12)(r:Lrr N)(lN:N.length<=8)(ltN:∀x∈N,x<2^aA.length)(hk:k=0\/(k∈blF N aA.length/\k&&&(k-1)≠0))(pr:rows.Perm ((insF N k).map (rowL aA))):Blk (rowL aA k) rows:=by
 have lt:∀i,k.testBit i=true->i<aA.length:=by
  rcases hk with rfl|⟨hk,_⟩
  ·intro i hi;rw[hB0]at hi;cases hi
  ·exact qZ2 hk
 have inn:∀y∈insF N k,Inn y k:=λy hy=>(qUa y hy).2
 have ln':(rowL aA k).length<=aA.length:=by
  unfold rowL;refine hAw (hCf _ _) ?_;rw[hB4];exact hA9 _
 refine⟨⟨qEh rn k,λx hx=>?_,by omega,?_,λr' hr=>?_⟩,λj hj=>?_,by rw[pr.length_eq,hA1];exact hAw (zEz r k) lN,λj hj=>?_⟩
 ·obtain⟨i,_,h2,_⟩:=qBf.mp hx;exact ok x (hAc h2)
 ·rw[pr.length_eq,hA1];have:=qUb (N:=N) lt;omega
 ·obtain⟨y,hy,rfl⟩:=hAe.mp (pr.mem_iff.mp hr);exact⟨_,zAv rn (inn y hy)⟩
 ·have h1:Spn ((insF N k).map (cmp aA k)) (2^j):=by
   refine Spn.mono (λx hx=>?_) hj;obtain⟨r',hr,rfl⟩:=hAe.mp hx;obtain⟨y,hy,rfl⟩:=hAe.mp (pr.mem_iff.mp hr);exact .mem (hAu (f:=cmp aA k) hy)
  obtain⟨y,s1,s2,s3⟩:=zCy rn inn h1;obtain⟨i,rfl,hki⟩:=zCz rn lt s2 s3.symm;have s4:Spn N (2^i):=Spn.mono (λx hx=>(qUa x hx).1) s1;rcases hk with rfl|⟨hk,hne⟩
  ·rw[hB0]at hki;cases hki
  ·have:=qJi r s4 hk hki;rw[this]at hne;exact hne (qDf i)
 ·rcases hk with rfl|⟨hk,hne⟩
  ·rw[show rowL aA 0=[] from List.eq_nil_iff_forall_not_mem.mpr λx hx=>by
    obtain⟨i,_,_,h⟩:=qBf.mp hx;rw[hB0]at h;cases h]at hj
   exact absurd hj (hCe j)
  ·have hx:=hA2 hj;obtain⟨i,h1,h2,h3⟩:=qBf.mp (hBn hj);obtain⟨t,t1,t2,t3⟩:=qZ1 ltN hk h3 (λz=>hne (by rw[z];exact qDf i));have ti:Inn t k:=t3;have tf:t&&&k=t:=hAh λi=>by
    rw[hAr];cases q:t.testBit i with
    |false=>rfl
    |true=>rw[t3 i q];rfl
   have s1:Spn (insF N k) t:=zCn (hAd.mpr ⟨(qB9 N t).mpr (.mem t1),hEf tf⟩);have s2:Spn ((insF N k).map (cmp aA k)) (cmp aA k t):=zFe rn inn s1;refine⟨_,Spn.mono (λx hx=>?_) s2,(qIq rn ti hx h2).trans t2⟩;obtain⟨y,hy,rfl⟩:=hAe.mp hx;refine .mem (hAe.mpr ⟨rowL aA y,pr.mem_iff.mpr (hAu hy),rfl⟩)
end
end My
namespace L2
open PySem PySem.Spec PyProof.Rows
def zFv(t:TS):TS:=λD σ H=>∃Pm:St->Hp->Prop,t { D with nx:=Pm } σ H/\∀σ' H',Pm σ' H'->D.nx σ' H'
theorem qTb{X:Cx}{st:Stmt}{t:TS}(h:PS X st t):PS X st (zFv t):=by
 intro aB s σ H D I hw;obtain⟨Pm,h1,h2⟩:=hw;refine thn (h aB s σ H { D with nx:=Pm } I h1) λfl s' q=>?_
 cases fl with
 |next=>obtain⟨σ',H',I',q⟩:=q;exact⟨σ',H',I',h2 σ' H' q⟩
 |brk=>exact q
 |cont=>exact q
 |ret _=>exact q
end L2
namespace My
open PySem L2
def qYu(K:PySem.W.Frag)(Pt:Addr):Sp:=λvs H Q _=>∃(a:Addr) (ns:List Int),vs=[.ref a,.int 1]/\SqL K H a (ns.map V.int)/\TabW H Pt lpB qB/\∀(T:Addr) (aA:List Str) (rows:List (List Str)) (H':Hp),ExtB Pt H H'->qF9 H' T aA rows->Blk aA rows->Tx aA->TabW H' Pt lpB qB->Q (.ref T) H'
theorem lsB(hP:H Pt=some (.tbl ps))(e:ExtB Pt H H')(h:H p=some (.lst xs)):H' p=some (.lst xs):=e _ _ (λz=>by rw[z,hP]at h;cases h) h
theorem qQg:∀(L hs:List Nat),(L.foldl blS hs).length<=hs.length+L.length
 |[],hs=>hA9 _
 |t :: L,hs=>by
  have h1:=qQg L (blS hs t);have h2:=qVq hs t;show(L.foldl blS (blS hs t)).length<=hs.length+(L.length+1);omega
theorem zC1(N:List Nat)(m:Nat):(blF N m).length<=m+N.length:=by
 have h1:=qQg (N.filter λz=>!decide (z=0)) ((List.range m).map λk=>2^k);have h2:=hAz (λz=>!decide (z=0)) N;rw[hA1,hB4]at h1;unfold blF;omega
theorem zHl(h:Nat):(V.int (Builtin.bitAnd (h:Int) ((h:Int)-1))=V.int 0)↔h&&&(h-1)=0:=by
 cases h with
 |zero=>exact⟨λ_=>rfl,λ_=>by decide +kernel⟩
 |succ k =>
  rw[show(((k+1:Nat):Int)-1)=((k+1-1:Nat):Int) by omega];exact zGq (k+1) (k+1-1)
theorem qY9{h:Nat}{c:Bool}(e:(!decide (V.int (Builtin.bitAnd (h:Int) ((h:Int)-1))=V.int 0))=c):(!decide (h&&&(h-1)=0))=c:=by
 rw[<-e,decide_eq_decide.mpr (zHl h)]
theorem qHf:∀xs:List Nat,PyData.canLayAll0 (xs.map λn:Nat=>PyData.int (n:Int))=true/\PyData.depthAll (xs.map λn:Nat=>PyData.int (n:Int))=0
 |[]=>⟨rfl,rfl⟩
 |x :: r=>by
  obtain⟨h1,h2⟩:=qHf r;refine⟨?_,?_⟩
  ·show(true && PyData.canLayAll0 (r.map λn:Nat=>PyData.int (n:Int)))=true;rw[h1];rfl
  ·show max 0 (PyData.depthAll (r.map λn:Nat=>PyData.int (n:Int)))=0;rw[h2];rfl
theorem qE9(xs:List Nat):SeqAt.shaped (.list (xs.map λn:Nat=>PyData.int (n:Int)))=true:=by
 obtain⟨h3,h4⟩:=qHf xs;show(PyData.canLayAll0 (xs.map λn:Nat=>PyData.int (n:Int)) && decide (PyData.depthAll (xs.map λn:Nat=>PyData.int (n:Int))+1<=64))=true;rw[h3,h4];rfl
theorem qIn:∀xs:List Nat,DRs K H (xs.map iV) (xs.map λn:Nat=>PyData.int (n:Int))
 |[]=>.nil
 |_ :: r=>.cons (.int _) (qIn r)
theorem qVl:bootBuiltins "max"=some (.builtin "max"):=by decide +kernel
section
variable{P:Program}{w:World}{K:PySem.W.Frag}{mg:Str->Option Value}{base:Heap}{f f1 f2 f3 f4 f5 f6 Pt:Addr}{fd fd1 fd2 fd3 fd4 fd5 fd6:FuncData}
noncomputable abbrev bkN:List Str:=["_law_script","_law_at","_law_many","_law_base","_law_names_here","_law_heaps","_law_heap","_law_sizes","_law_rows"]
theorem qE1:FnScope bkN ["_law_script","_law_at"] (qAc qRd):=fsk
theorem zBy(F:Fun K "_law_block" "_law_block" qRd f fd)
  (G1:v9 4 f1 fd1 ["_law_script","_law_at"] (qYl K) "_law_steps_of")
  (G2:v9 1 f2 fd2 ["_law_big_here","_law_many"] qJu "_law_names")
  (G3:v9 2 f3 fd3 ["_law_script","_law_k"] (qRb K) "_law_big")
  (G4:v9 1 f4 fd4 ["_law_names_here","_law_number"] qSe "_law_row")
  (G5:v9 3 f5 fd5 ["_law_base","_law_many"] (qSg Pt) "_law_blocks")
  (G6:v9 2 f6 fd6 ["_law_base","_law_mask_here"] qYq "_law_inside")
  (ml:mg "len"=none) (mso:mg "sorted"=none) (mma:mg "max"=none):v8 5 f fd ["_law_script","_law_at"] (qYu K Pt):=by
 refine F.okA qE1 λcdv A outer s H vs Q E hr4 h=>?_
 obtain⟨a,ns,rfl,hS,tw,q⟩:=h;have hr1:=hr4.mono (j:=1) (by decide);have hr2:=hr4.mono (j:=2) (by decide);have hr3:=hr4.mono (j:=3) (by decide);refine⟨_,qAa (qGw (qAw G1 hr4 rfl .nil qAv (qAd (pv 0) (pa1 (pv 1)))) (qB5 rfl (qAs (v5 2 qE1) (qAs (v5 3 qE1) qBl)))) (qAa (v6 4 qE1 (qAj qDg rfl mso qBs (pa1 (qAw G2 hr1 rfl .nil qAv (qAd (qAw G3 hr2 rfl .nil qAv (qAd (pv 0) (pa1 (qAg qA9 (pv 1) qAb)))) (pa1 (pv 2))))))) (qAa (qDe (i:=5) (N:=bkN) (sc:=qAc qRd) (N':=["_law_heap"]) (sub:=[none]) (qAp (qAw G5 hr3 rfl .nil qAv (qAd (pv 3) (pa1 (pv 2))))) (λC s H fp=>⟨(qBk (qAn qFr (qAg qBr (pv 0) (qAg qCw (pv 0) qAb)) qAb (qAu _))),(pv 0)⟩) qE1.nd rfl vE) (qAa (v4 6 qE1 qAb) (qAa (qTb (qBo (qAn (qL0 (qPk hr4)) (pv 5) (qA4 qA3) (qAu _)) (qAa (v4 6 qE1 (qBe qB0 (pv 5) (qAg qBb (qAw G3 hr2 rfl .nil qAv (qAd (pv 0) (pa1 (qAg qA9 (pv 1) qAb)))) (qAj qAl rfl ml hAy (pa1 (pv 5)))) (λ_ _=>rfl))) (qAe (qBo (qAn zBc (qAg qBb (qAg qA5 (qAw G3 hr2 rfl .nil qAv (qAd (pv 0) (pa1 (qAg qA9 (pv 1) qAb)))) qAb) qAb) qAb (qAu _)) (qAa (qDe (i:=7) (N:=bkN) (sc:=qAc qRd) (N':=["_law_one","_law_names_here"]) (sub:=[none,some 4]) (qAp (pv 5)) (λC s H fp=>⟨qAz,(qAj (show qCm _ _ (λxs H Q=>∃p ys,xs=[V.ref p]/\(SqL K H p ys\/SqT K H p ys)/\Q (.int ys.length) H) from qAl) rfl ml hAy (pa1 (qAw G4 hr1 rfl .nil qAv (qAd (pv 1) (pa1 (pv 0))))))⟩) qE1.nd rfl vE) (qAe (v4 6 qE1 (qBe qB0 (pv 5) (qEb hB1 hDy hDz qTv (pv 7) (pa1 (qAj (qVg rfl) rfl mma qVl (pa1 (pv 7))))) (λ_ _=>rfl))))) qA1))) qA1)) (qAa (qDe (i:=8) (N:=bkN) (sc:=qAc qRd) (N':=["_law_number","_law_names_here"]) (sub:=[none,some 4]) (qAp (qAw G6 hr2 rfl .nil qAv (qAd (pv 3) (pa1 (pv 6))))) (λC s H fp=>⟨qAz,(qAw G4 hr1 rfl .nil qAv (qAd (pv 1) (pa1 (pv 0))))⟩) qE1.nd rfl vE) (qAe (qAt (qA6 (qAd (qAw G4 hr1 rfl .nil qAv (qAd (pv 4) (pa1 (pv 6)))) (pa1 (qAj (qF3 (zF2 hr4)) rfl mso qBs (pa1 (pv 8))))))))))))),?_⟩;refine⟨_,rfl,_,rfl,a,ns,rfl,hS,λT0 b m ms H1 e1 hT0 hb m12 lm lrr ltm=>?_⟩;refine⟨T0,_,rfl,SqT.of hT0,rfl,_,_,rfl,_,_,rfl,rfl,?_⟩;refine⟨_,rfl,_,rfl,_,_,rfl,rfl,a,ns,_,rfl,Ext.sqL e1 hS,by decide,by decide,λB1=>?_⟩;refine⟨_,rfl,B1,(m:Int),rfl,by omega,by omega,λnr ss H2 e2 nr0 hss lss tx ndc=>?_⟩;have nd0:ss.Nodup:=ndc vG;refine⟨nr,ss,rfl,SqL.of hss,by omega,λnm aA hnm pm srt=>?_⟩;have nd:aA.Nodup:=pm.symm.nodup nd0;have rn:qEc aA:=qS4 srt nd;have txn:Tx aA:=λx hx=>tx x (pm.mem_iff.mp hx)
 have ok:SOk aA:=λx hx=>(tx x (pm.mem_iff.mp hx)).1.sm.ok
 have lnm:aA.length=m:=by rw[pm.length_eq,lss];omega
 have X2:=Ext.new hnm (.lst (aA.map V.str));have E2:=e1.trans (e2.trans X2);have hb2:=(e2.trans X2) _ _ hb;have hn2:LsS (upd H2 nm (.lst (aA.map V.str))) nm aA:=upd_same;revert E2 hb2 hn2;generalize upd H2 nm (.lst (aA.map V.str))=Hb;intro E2 hb2 hn2;have tw2:=My.TabW.extE tw E2;obtain⟨ps2,hP2⟩:=My.TabW.tb tw2;refine⟨_,rfl,_,rfl,b,ms,m,rfl,hb2,by omega,m12,tw2,λhp hs H3 eB hp0 hhp pmh tw3=>?_⟩;have lhs:hs.length<=20:=by rw[pmh.length_eq];have:=zC1 ms m;omega
 have hS3:SqL K H3 a (ns.map V.int):=zFk hP2 eB (Ext.sqL E2 hS);have hb3:LsN H3 b ms:=lsB hP2 eB hb2;have hn3:LsS H3 nm aA:=lsB hP2 eB hn2;have EB3:ExtB Pt H H3:=λc o n h=>eB c o n (E2 c o h)
 clear eB hP2 hb2 hn2 E2 hss;refine⟨hp,rfl,⟨_,SqL.of hhp⟩,?_⟩;refine qBm (λh=>!decide (h&&&(h-1)=0)) (λz=>z) hhp vG (λz hz C B cc bb=>⟨sls,?_⟩) ?_
 ·refine⟨_,rfl,_,rfl,_,_,rfl,rfl,_,_,rfl,rfl,rfl,_,rfl,?_⟩;exact qBw (λc=>⟨_,rfl,cc (qY9 c)⟩) (λc=>bb (qY9 (hDd _▸c)))
 intro fh hfh;rw[hDq];have X4:=Ext.new hfh (.lst ((hs.filter λh=>!decide (h&&&(h-1)=0)).map iV));have lfs:(hs.filter λh=>!decide (h&&&(h-1)=0)).length<=20:=hAw (hAz _ _) lhs;have hfs:∀k∈hs.filter (λh=>!decide (h&&&(h-1)=0)),k∈blF ms m/\k&&&(k-1)≠0:=λk hk=>by
  obtain⟨k1,k2⟩:=hAd.mp hk;refine⟨pmh.mem_iff.mp k1,λz=>?_⟩;rw[z]at k2;revert k2
  decide
 have hF4:LsN (upd H3 fh (.lst ((hs.filter λh=>!decide (h&&&(h-1)=0)).map iV))) fh (hs.filter λh=>!decide (h&&&(h-1)=0)):=upd_same;have hS4:=Ext.sqL X4 hS3;have hb4:=X4 _ _ hb3;have hn4:=X4 _ _ hn3;have tw4:=My.TabW.extE tw3 X4;have EB4:ExtB Pt H (upd H3 fh (.lst ((hs.filter λh=>!decide (h&&&(h-1)=0)).map iV))):=λc o n h=>X4 c o (EB3 c o n h)
 revert lfs hfs hF4 hS4 hb4 hn4 EB4 tw4;generalize upd H3 fh (.lst ((hs.filter λh=>!decide (h&&&(h-1)=0)).map iV))=H4;generalize (hs.filter λh=>!decide (h&&&(h-1)=0))=fs;intro lfs hfs hF4 hS4 hb4 hn4 tw4 EB4;clear X4 hS3 hb3 hn3 EB3;refine⟨λσ' H'=>∃(k:Nat) (x7:Option V),σ'=[some (.ref a),some (.int 1),some (iV m),some (.ref b),some (.ref nm),some (.ref fh),some (iV k),x7,none]/\Ext H4 H'/\(k=0\/k∈fs),?_,?_⟩
 ·refine⟨_,rfl,hAt _,λl0 hl0=>?_⟩;have X0:=Ext.new hl0 (.lst []);refine⟨_,_,.lst (SqL.of (X0 _ _ hF4)) (qIn fs),.lst (SqL.of upd_same) .nil,qE9 fs,(by decide +kernel),_,rfl,?_⟩;refine qBw (λc=>?_) (λc=>⟨0,none,rfl,X0,.inl rfl⟩);have ne:fs≠[]:=λz=>by
   rw[z]at c;revert c
   decide +kernel
  have lp:0<fs.length:=List.length_pos_iff.mpr ne;have hF5:=X0 _ _ hF4;have hS5:=Ext.sqL X0 hS4;have hn5:=X0 _ _ hn4;revert hF5 hS5 hn5 X0;generalize upd H4 l0 (.lst [])=H5;intro X0 hF5 hS5 hn5;refine⟨_,rfl,_,rfl,_,rfl,_,_,rfl,rfl,a,ns,_,rfl,hS5,by decide,by decide,λB2=>?_⟩;refine⟨_,rfl,fh,_,rfl,.inl (SqL.of hF5),_,_,rfl,rfl,(by rw[hA1];show(0:Int)<_;omega),?_⟩;obtain⟨j2,hj2,ej2⟩:∃j:Nat,j<fs.length/\B2 % (((fs.map iV).length:Nat):Int)=(j:Int):=by
   have h1:=hBj B2 (show(((fs.map iV).length:Nat):Int)≠0 by rw[hA1];omega);have h2:=hBc B2 (show(0:Int)<(((fs.map iV).length:Nat):Int) by rw[hA1];omega);have h3:(fs.map iV).length=fs.length:=hA1 _;exact⟨(B2 % (((fs.map iV).length:Nat):Int)).toNat,by omega,by omega⟩
  have hg2:(fs.map iV)[j2]?=some (iV fs[j2]):=by rw[hAl,hA2 hj2];rfl
  refine⟨fh,_,_,_,rfl,rfl,SqL.of hF5,(by rw[ej2];exact qA0 hg2),?_⟩;refine⟨_,rfl,_,rfl,_,_,rfl,rfl,a,ns,_,rfl,hS5,by decide,by decide,λB3=>?_⟩;refine⟨_,_,rfl,rfl,⟨by decide,by decide⟩,_,_,rfl,rfl,(by show(0:Int)<_;decide),_,_,rfl,rfl,_,rfl,?_⟩;refine qBw (λc=>?_) (λc=>⟨_,none,rfl,X0,.inr (hBn hj2)⟩);refine⟨_,rfl,fh,rfl,⟨_,SqL.of hF5⟩,?_⟩;refine qAq (xs:=fs.map iV) (λj ys H6=>Ext H5 H6/\ys=(((fs.take j).map λh=>(rowL aA h).length).map λn:Nat=>(n:Int)).map V.int) ⟨Ext.refl _,rfl⟩ (λj ys H6 _ h=>SqL.of (h.1 _ _ hF5)) ?_ ?_
  ·rintro j v ys H6 hx ⟨e6,rfl⟩;obtain⟨x,rfl,hx'⟩:=qB2 hx;have hj:=qAx hx';refine⟨sls,iteT (B:=False) ⟨_,rfl,_,rfl,nm,aA,x,rfl,e6 _ _ hn5,by omega,λr3 H7 e7 r30 h3=>⟨r3,_,rfl,.inl (SqL.of h3),?_⟩⟩⟩;refine⟨by rw[hA1,hA1,hA1,hAm];exact qAf vG,nxt (qAx hx) ⟨e6.trans e7,?_⟩⟩;rw[qAh hx',hA4,hA4,hA4,hA1];rfl
  rintro ys H6 ⟨e6,rfl⟩ sz hsz;rw[hA1,hA5 (hA9 _)];obtain⟨zs,ezs⟩:∃zs:List Int,zs=((fs.map λh=>(rowL aA h).length).map λn:Nat=>(n:Int)):=⟨_,rfl⟩;have lzs:zs.length=fs.length:=by rw[ezs,hA1,hA1]
  rw[<-ezs];have X7:=Ext.new hsz (.lst (zs.map V.int));refine⟨_,rfl,_,rfl,(show tyV _ _ (.ref sz) _ from Or.inl ⟨rfl,_,SqL.of upd_same⟩),_,rfl,sz,zs,rfl,SqL.of upd_same,(λz=>by rw[z]at lzs;simp at lzs;omega),λM hM _=>?_⟩;refine⟨sz,zs,M,rfl,rfl,upd_same,hM,by omega,λj3 hj3=>?_⟩;have l3:j3<fs.length:=by rw[<-lzs];exact(hAp.mp hj3).1
  have hg3:(fs.map iV)[j3]?=some (iV fs[j3]):=by rw[hAl,hA2 l3];rfl
  refine⟨fh,_,_,_,rfl,rfl,SqL.of ((e6.trans X7) _ _ hF5),qA0 hg3,?_⟩;exact⟨_,_,rfl,X0.trans (e6.trans X7),.inr (hBn l3)⟩
 ·rintro σ' H5 ⟨k,x7,rfl,e5,hk⟩;have hb5:=e5 _ _ hb4;have hn5:=e5 _ _ hn4;have hk':k=0\/(k∈blF ms aA.length/\k&&&(k-1)≠0):=hk.imp id λz=>by rw[lnm];exact hfs k z
  have lk:∀i,k.testBit i=true->i<aA.length:=by
   rcases hk' with z|⟨z,_⟩
   ·intro i hi;rw[z,hB0]at hi;cases hi
   ·exact qZ2 z
  have ln:aA.length<=12:=by omega
  refine⟨_,rfl,_,rfl,b,ms,k,rfl,hb5,by omega,λr H6 e6 r0 hR=>?_⟩;have lR:=qUb (N:=ms) lk;refine⟨r,rfl,⟨_,SqL.of hR⟩,?_⟩;refine qAq (xs:=(insF ms k).map iV) (λj ys H2=>Ext H6 H2/\∃as,ys=as.map V.ref/\Paired (LsS H2) as (((insF ms k).take j).map (rowL aA))) ⟨Ext.refl _,[],rfl,.nil⟩ (λj ys H2 _ h=>SqL.of (h.1 _ _ hR)) ?_ ?_
  ·rintro j v ys H2 hx ⟨e2,as,rfl,pr⟩;obtain⟨x,rfl,hx'⟩:=qB2 hx;have hj:=qAx hx';have la:as.length=_:=pr.length;rw[hA1,hAm]at la;refine⟨sls,iteT (B:=False) ⟨_,rfl,_,rfl,nm,aA,x,rfl,(e6.trans e2) _ _ hn5,ln,λr3 H3 e3 r30 h3=>⟨?_,nxt (qAx hx) ⟨e2.trans e3,as++[r3],by rw[hA4];rfl,?_⟩⟩⟩⟩
   ·rw[hA1];exact qAf vG
   ·rw[qAh hx',hA4];exact Paired.snoc (Paired.mapP pr λa t z=>e3 _ _ z) h3
  ·rintro ys H7 ⟨e7,as,rfl,pr⟩ rb hrb;rw[hA1,hA5 (hA9 _)]at pr;have la:as.length=((insF ms k).map (rowL aA)).length:=pr.length;have la':as.length=(insF ms k).length:=by rw[la,hA1]
   have Xb:=Ext.new hrb (.lst (as.map V.ref));refine⟨_,rfl,_,rfl,nm,aA,k,rfl,((e6.trans e7).trans Xb) _ _ hn5,ln,λl1 H8 e8 l10 hl1=>?_⟩;have X1:=Xb.trans e8;refine⟨_,rfl,rb,as,(insF ms k).map (rowL aA),rfl,SqL.of (e8 _ _ upd_same),Paired.mapP pr λa t z=>SqL.of (X1 _ _ z),by omega,λr2 o hr2 g sp=>?_⟩;have X2:=X1.trans (Ext.new hr2 (.lst ((o.toList.map λi=>as.getD i 0).map V.ref)));have gm:∀i∈o.toList,i<as.length:=λi hi=>qMd g hi
   rw[la]at g sp;obtain⟨s1,s2⟩:=qGg g sp;refine⟨(by show 2<=sizeLine;decide),λT hT=>?_⟩;have XT:=X2.trans (Ext.new hT (.tup [V.ref l1,V.ref r2]));refine q T (rowL aA k) _ _ (λc o' n h=>((e5.trans (e6.trans e7)).trans XT) c o' (EB4 c o' n h)) ⟨l1,r2,upd_same,?_,⟨_,(Ext.new hT _) _ _ upd_same,Paired.mapP (qFd pr gm) λa t z=>XT _ _ z⟩⟩ (zFg rn ok ln lrr lm (by rw[lnm];exact ltm) hk' s2) (λx hx=>by obtain⟨i,_,h,_⟩:=qBf.mp hx;exact txn x (hAc h)) (My.TabW.extE tw4 ((e5.trans (e6.trans e7)).trans XT));exact(Ext.new hT _) _ _ ((Ext.new hr2 _) _ _ hl1)
end
def sgl(x:Nat):Bool:=decide (x&&&(x-1)=0)
noncomputable def crB(S:List Nat)(e g:Nat):Bool:=if sgl g=true then !decide (e&&&g=0) else !decide (red1 S (e&&&g)=0)
noncomputable def qC4(gs some:List Nat):Nat:=gs.foldl (λm g=>2*m+(if g∈some then 1 else 0)) 0
theorem qGh(aA row:List Nat)(n:Nat):qC4 (aA++[n]) row=2*qC4 aA row+(if n∈row then 1 else 0):=by unfold qC4;rw[hBt];rfl
noncomputable def rowI(aA:List Nat)(x:Nat):List Nat:=(List.range aA.length).filterMap λi=>if x.testBit (aA.length-1-i)=true then aA[i]? else none
theorem qGl(n:Nat):∀other:List Nat,inV (iV n) (other.map iV)=decide (n∈other)
 |[]=>by simp[inV]
 |x :: r=>by
  have ih:=qGl n r;unfold inV at ih ⊢;rw[hBm,hEb,ih];show(((x:Int) == (n:Int)) || decide (n∈r))=_;by_cases e:n=x
  ·subst e;simp
  ·have e':¬((x:Int)=(n:Int)):=λz=>e vG
   have e2:¬x=n:=λz=>e z.symm
   simp[e,e2];exact λz=>absurd z e'
theorem qDu:∀l:List Nat,(l.map iV).all qIm=true
 |[]=>rfl
 |x :: r=>by rw[hBm,List.all_cons,qDu r];rfl
def qJt:Sp:=λvs H Q _=>∃x:Nat,vs=[iV x]/\Q (.bl (sgl x)) H
def qO2:Sp:=λvs H Q _=>∃(p:Addr) (S:List Nat) (one rest met:Nat),vs=[.ref p,iV one,iV rest,iV met]/\LsN H p S/\Q (.bl (decide (met=S.length+1) && (!sgl one && !sgl rest))) H
def qYk:Sp:=λvs H Q _=>∃(p:Addr) (k:List Nat) (x y:Nat),vs=[.ref p,iV x,iV y]/\LsN H p k/\(∀s∈k,s≠0)/\Q (.bl (!decide (red1 k (x&&&y)=0))) H
def zDn:Sp:=λvs H Q _=>∃(p:Addr) (S:List Nat) (e g:Nat),vs=[.ref p,iV e,iV g]/\LsN H p S/\(∀s∈S,s≠0)/\Q (.bl (crB S e g)) H
def qSa:Sp:=λvs H Q _=>∃(pn pr:Addr) (aA row:List Nat),vs=[.ref pn,.ref pr]/\LsN H pn aA/\LsN H pr row/\Q (iV (qC4 aA row)) H
def qYi:Sp:=λvs H Q _=>∃(pn:Addr) (aA:List Nat) (x:Nat),vs=[.ref pn,iV x]/\LsN H pn aA/\aA.length<=12/\∀r H',Ext H H'->H r=none->LsN H' r (rowI aA x)->Q (.ref r) H'
theorem iv0(n:Nat):decide (iV n=V.int 0)=decide (n=0):=decide_eq_decide.mpr ⟨λh=>by have:=V.int.inj h;omega,λh=>by rw[h];rfl⟩
theorem zAg(x:Nat):decide (V.int (Builtin.bitAnd (x:Int) ((x:Int)-1))=V.int 0)=sgl x:=by
 cases x with
 |zero=>decide +kernel
 |succ n =>
  rw[show(((n+1:Nat)):Int)-1=((n:Nat):Int) by omega,qCl];exact iv0 _
section
variable{P:Program}{w:World}{K:PySem.W.Frag}{mg:Str->Option Value}{base:Heap}{f f1 f2 f3 f4:Addr}{fd fd1 fd2 fd3 fd4:FuncData}
theorem qWj:FnScope ["mask"] ["mask"] (qAc qNo):=fsk
theorem qTn(F:Fun K "is_single" "is_single" qNo f fd):v8 1 f fd ["mask"] qJt:=by
 refine F.okA qWj λcdv A outer s H vs Q E hr h=>?_
 obtain⟨x,rfl,q⟩:=h;refine⟨_,qAe (qAt (qDl qB8 (qAg qBr (pv 0) (qAg qCw (pv 0) qAb)) qAb (qAu _))),?_⟩;refine⟨_,rfl,_,rfl,_,_,rfl,rfl,_,_,rfl,rfl,rfl,?_⟩;rw[show decide (V.int (Builtin.bitAnd (x:Int) ((x:Int)-1))=V.int 0)=sgl x from zAg x];exact q
theorem qWi:FnScope ["steps","one","rest","met"] ["steps","one","rest","met"] (qAc qNn):=fsk
theorem qTm(F:Fun K "splits" "splits" qNn f fd)(G1:v9 1 f1 fd1 ["mask"] qJt "is_single")(ml:mg "len"=none):v8 2 f fd ["steps","one","rest","met"] qO2:=by
 refine F.okA qWi λcdv A outer s H vs Q E hr h=>?_
 obtain⟨p,S,one,rest,met,rfl,hS,q⟩:=h;refine⟨_,qAe (qAt (qPt (qDl qB8 (pv 3) (qAg qA9 (qAj qAl rfl ml hAy (pa1 (pv 0))) qAb) (qAu _)) (qPt (qZd (qAw G1 hr rfl .nil qAv (pa1 (pv 1)))) (qTg (qZd (qAw G1 hr rfl .nil qAv (pa1 (pv 2)))))))),?_⟩;have e:decide (iV met=V.int ((((S.map iV).length:Nat):Int)+1))=decide (met=S.length+1):=decide_eq_decide.mpr ⟨λh=>by have:=V.int.inj h;rw[hA1]at this;omega,λh=>by rw[h,hA1];rfl⟩;refine⟨_,rfl,_,rfl,p,_,rfl,.inl (SqL.of hS),_,_,rfl,rfl,rfl,_,rfl,?_⟩;rw[show decide (iV met=V.int ((((S.map iV).length:Nat):Int)+1))=decide (met=S.length+1) from e];refine qBw (λc=>?_) (λc=>?_)
 ·rw[c]at q;refine⟨_,rfl,one,rfl,sgl one,rfl,_,rfl,qBw (λd=>?_) (λd=>?_)⟩
  ·rw[d]at q;exact⟨_,rfl,rest,rfl,sgl rest,rfl,q⟩
  ·have d':(!sgl one)=false:=by cases h:(!sgl one) with|false=>rfl|true=>exact absurd h d
   rw[d']at q;exact q
 ·have c':decide (met=S.length+1)=false:=by cases h:decide (met=S.length+1) with|false=>rfl|true=>exact absurd h c
  rw[c']at q;exact q
theorem zDs:FnScope ["steps","even","some"] ["steps","even","some"] (qAc zAm):=fsk
theorem zBs(F:Fun K "lies_across" "lies_across" zAm f fd)(G1:v9 1 f1 fd1 ["mask","kept"] qO6 "lessened"):v8 2 f fd ["steps","even","some"] qYk:=by
 refine F.okA zDs λcdv A outer s H vs Q E hr1 h=>?_
 obtain⟨p,k,x,y,rfl,hk,nz,q⟩:=h;refine⟨_,qAe (qAt (qDl qFr (qAw G1 hr1 rfl .nil qAv (qAd (qAg qBr (pv 1) (pv 2)) (pa1 (pv 0)))) qAb (qAu _))),?_⟩;refine⟨_,rfl,_,rfl,_,_,rfl,rfl,_,rfl,x&&&y,p,k,(by show [V.int (Builtin.bitAnd (x:Int) (y:Int)),V.ref p]=_;rw[qCl]),hk,nz,rfl,?_⟩;have e:(!decide (iV (red1 k (x&&&y))=V.int 0))=!decide (red1 k (x&&&y)=0):=by
  rw[decide_eq_decide.mpr (show(V.int ((red1 k (x&&&y):Nat):Int)=V.int 0)↔red1 k (x&&&y)=0 from ⟨λh=>by have:=V.int.inj h;omega,λh=>by rw[h];rfl⟩)]
 rw[e];exact q
theorem zFy:FnScope ["steps","even","group"] ["steps","even","group"] (qAc zAr):=fsk
theorem zEg(F:Fun K "is_crossed" "is_crossed" zAr f fd)(G1:v9 1 f1 fd1 ["mask"] qJt "is_single")
  (G2:v9 2 f2 fd2 ["steps","even","some"] qYk "lies_across"):v8 3 f fd ["steps","even","group"] zDn:=by
 refine F.okA zFy λcdv A outer s H vs Q E hr h=>?_
 obtain⟨p,S,e,g,rfl,hS,nz,q⟩:=h;have hr1:=hr.mono (j:=1) (by decide);refine⟨_,qAa (qBo (qD9 (qAw G1 hr1 rfl .nil qAv (pa1 (pv 2)))) (qAe (qAt (qDl qFr (qAg qBr (pv 1) (pv 2)) qAb (qAu _)))) qA1) (qAe (qAt (qAw G2 hr rfl .nil qAv (qAd (pv 0) (qAd (pv 1) (pa1 (pv 2))))))),?_⟩;unfold crB at q;refine⟨_,rfl,g,rfl,sgl g,rfl,qBw (λc=>?_) (λc=>?_)⟩
 ·rw[hEk c]at q;refine⟨_,rfl,_,rfl,_,_,rfl,rfl,rfl,?_⟩;rw[show(!decide (V.int (Builtin.bitAnd (e:Int) (g:Int))=V.int 0))=!decide (e&&&g=0) by rw[qCl];exact congrArg (! ·) (iv0 _)];exact q
 ·rw[hEj c]at q;exact⟨_,rfl,_,rfl,_,rfl,p,S,e,g,rfl,hS,nz,q⟩
theorem qXf(F:Fun K "mask_of" "mask_of" qWn f fd):v8 1 f fd ["names","row"] qSa:=by
 refine F.okA qGt λcdv A outer s H vs Q E hr h=>?_
 obtain⟨pn,pr,aA,row,rfl,hn,hw,q⟩:=h;refine⟨_,qAa (v4 2 qGt qAb)
  (qAa (qBa PassesOwn.never rfl (qAp (pv 0)) (v5 3 qGt)
   (qAe (v4 2 qGt (qAg qA9 (qAg qE4 qAb (pv 2)) (qEv (qAn qDs (pv 3) (pv 1) (by with_unfolding_all rfl)) qAb qAb)))))
  (qAe (qAt (pv 2)))),?_⟩
 refine⟨_,rfl,pn,rfl,⟨_,SqL.of hn⟩,?_⟩;refine qBg (xs:=aA.map iV) (λi σ H'=>H'=H/\∃x3:Option V,σ=[some (.ref pn),some (.ref pr),some (iV (qC4 (aA.take i) row)),x3]) ⟨rfl,none,rfl⟩ (λi σ H' _ h=>by rw[h.1];exact SqL.of hn) ?_ ?_
 ·rintro i x σ H' hx ⟨rfl,x3,rfl⟩;obtain⟨y,rfl,hy⟩:=qB2 hx;refine⟨_,rfl,_,_,rfl,rfl,.inl ⟨by decide,by decide⟩,_,rfl,_,rfl,pr,_,rfl,.inl (SqL.of hw),rfl,qDu _,_,rfl,?_⟩;rw[hEj (by decide),qGl];refine qBw (λc=>?_) (λc=>?_)
  ·have c':y∈row:=by simpa using c
   refine⟨_,_,rfl,rfl,rfl,some (iV y),?_⟩;rw[show iV (qC4 (aA.take (i+1)) row)=V.int (2*((qC4 (aA.take i) row:Nat):Int)+1) by rw[qAh hy,qGh,hEk c'];rfl];rfl
  ·have c':¬y∈row:=by simpa using c
   refine⟨_,_,rfl,rfl,rfl,some (iV y),?_⟩;rw[show iV (qC4 (aA.take (i+1)) row)=V.int (2*((qC4 (aA.take i) row:Nat):Int)+0) by rw[qAh hy,qGh,hEj c'];rfl];rfl
 ·rintro σ H' ⟨rfl,x3,rfl⟩;rw[hA1,hA5 (hA9 _)];exact⟨_,rfl,q⟩
theorem zBe(F:Fun K "row_of" "row_of" qI6 f fd)(ml:mg "len"=none)(me:mg "enumerate"=none):v8 1 f fd ["names","mask"] qYi:=by
 refine F.okA qJ0 λcdv A outer s H vs Q E hr h=>?_
 obtain⟨pn,aA,x,rfl,hn,ln,q⟩:=h;refine⟨_,qAa (v6 2 qJ0 (qAg qCw (qAj qAl rfl ml hAy (pa1 (pv 0))) qAb))
  (qAe (qAt (qGf (N:=["names","mask","last"]) (sc:=qAc qI6) (N':=roN) (sub:=[none,none,some 1,some 2]) rfl rfl (CmpOk.of (by decide +kernel)) rfl (qFb rfl me (pa1 (pv 0)))
   (λC s H fp=>⟨(show PG _ _ (zCs K 2 _) from qB5 rfl (qAs (qAm (i:=0) (by show roN.Nodup;decide) rfl vE) (qAs (qAm (i:=1) (by show roN.Nodup;decide) rfl vE) qBl))),
    qBk (qAn qB8 (qAg qBr (qAg qFq (pv 2) (qAg qCw (pv 3) (pv 0))) qAb) qAb (qAu _)),pv 1⟩)))),?_⟩
 refine⟨_,rfl,pn,_,rfl,.inl (SqL.of hn),_,_,rfl,rfl,?_⟩;refine⟨_,rfl,pn,_,rfl,SqL.of hn,?_⟩;rw[hA1];refine qEd (λi ys H'=>Ext H H'/\ys=((List.range i).filterMap λi=>if x.testBit (aA.length-1-i)=true then aA[i]? else none).map iV) ⟨Ext.refl _,rfl⟩ (λi ys H' _ p=>SqL.of (p.1 _ _ hn)) ?_ ?_
 ·rintro i ys H' T hi ⟨e,rfl⟩ hT;have gd:(aA.map iV).getD i .non=iV aA[i]:=by rw[hAa,hAl,hA2 hi];rfl
  have e2:=e.trans (Ext.new hT (.tup [V.int (i:Nat),(aA.map iV).getD i .non]));refine⟨T,_,rfl,SqT.of upd_same,rfl,_,_,rfl,_,_,rfl,rfl,?_⟩;refine⟨Sle.set _ (sls) (λu z=>by cases z),?_⟩;have k:(((aA.length:Nat):Int)-1-(i:Nat))=((aA.length-1-i:Nat):Int):=by omega
  refine⟨_,rfl,_,rfl,_,rfl,_,_,rfl,rfl,_,_,rfl,rfl,(by show(0:Int)<=_;omega),_,_,rfl,rfl,rfl,_,rfl,?_⟩;have fm:((List.range (i+1)).filterMap λi=>if x.testBit (aA.length-1-i)=true then aA[i]? else none)=((List.range i).filterMap λi=>if x.testBit (aA.length-1-i)=true then aA[i]? else none)++(if x.testBit (aA.length-1-i)=true then [aA[i]] else []):=by
   rw[hCk,hD6];congr 1;by_cases b:x.testBit (aA.length-1-i)=true
   ·simp[b,hA2 hi]
   ·simp[b]
  have sz:=hCf (λi=>if x.testBit (aA.length-1-i)=true then aA[i]? else none) (List.range i);rw[hB4]at sz;have key:(decide (V.int (Builtin.bitAnd ((x:Int) / 2^(((aA.length:Nat):Int)-1-(i:Nat)).toNat) 1)=V.int 1)=true)↔x.testBit (aA.length-1-i)=true:=by
   rw[hEl,V.int.injEq,k,hB7,qEe];by_cases b:x.testBit (aA.length-1-i)=true
   ·simp[b]
   ·simp[b]
  refine qBw (λc=>?_) (λc=>?_)
  ·have b:=key.mp c;refine⟨_,rfl,by rw[hA1];exact qAf vG,nxt hi ⟨e2,?_⟩⟩;rw[fm,hEk b,hA4,gd];rfl
  ·have b:¬x.testBit (aA.length-1-i)=true:=λz=>c (key.mpr z)
   refine nxt hi ⟨e2,?_⟩;rw[fm,hEj b,hCc]
 ·rintro ys H' ⟨e,rfl⟩ r hr';exact q r _ (e.trans (Ext.new hr' _)) (e.none hr') upd_same
end
noncomputable def dsF(xs:List Nat):List Nat:=(red xs).mergeSort λa b=>decide (b<=a)
theorem qDv(l:List Nat):(l.mergeSort λa b=>decide (b<=a)).Pairwise λa b=>b<=a:=by
 refine List.Pairwise.imp (λ{a b} h=>hEi h) (List.pairwise_mergeSort (le:=λa b:Nat=>decide (b<=a)) (λa b c h1 h2=>?_) (λa b=>?_) _)
 ·exact hEf (hAw (hEi h2) (hEi h1))
 ·rcases Nat.le_total a b with h|h
  ·rw[hE5];exact .inr (hEf h)
  ·rw[hE5];exact .inl (hEf h)
theorem qK2{M l:List Nat}(p:M.Perm l)(d:M.Pairwise λa b=>b<=a):M=l.mergeSort λa b=>decide (b<=a):=qIo d (qDv l) (p.trans (hCu _ _).symm)
theorem qMh:x∈dsF xs↔x∈red xs:=(hCu _ _).mem_iff
theorem qZu(xs:List Nat):(dsF xs).length=(red xs).length:=(hCu _ _).length_eq
theorem zE9:∀s∈dsF xs,s≠0:=λs hs=>(qB1 xs).nz s (qMh.mp hs)
noncomputable def shF(S gs:List Nat):List Nat:=dsF (S.map λe=>qC4 gs (gs.filter (crB S e)))
def qM9:Sp:=λvs H Q _=>∃(p g:Addr) (S gs:List Nat),vs=[.ref p,.ref g]/\LsN H p S/\LsN H g gs/\(∀s∈S,s≠0)/\S.length<=12/\gs.length<=12/\∀r H',Ext H H'->H r=none->LsN H' r (shF S gs)->Q (.ref r) H'
noncomputable abbrev shN:List Str:=["steps","groups","crossed_ones"]
section
variable{P:Program}{w:World}{K:PySem.W.Frag}{mg:Str->Option Value}{base:Heap}{f f1 f2 f3 f4:Addr}{fd fd1 fd2 fd3 fd4:FuncData}
theorem qSn:FnScope shN ["steps","groups"] (qAc qI5):=fsk
theorem qXa(F:Fun K "share_masks" "share_masks" qI5 f fd)(G1:v9 3 f1 fd1 ["steps","even","group"] zDn "is_crossed")
  (G2:v9 1 f2 fd2 ["names","row"] qSa "mask_of")
  (G3:v9 2 f3 fd3 ["masks"] qO3 "reduced"):v8 4 f fd ["steps","groups"] qM9:=by
 refine F.okA qSn λcdv A outer s H vs Q E hr h=>?_
 obtain⟨p,g,S,gs,rfl,hp,hg,nz,lS,lg,q⟩:=h;have hr1:=hr.mono (j:=1) (by decide);have hr2:=hr.mono (j:=2) (by decide);refine⟨_,qAa (qW7 (i:=2) (N:=shN) (sc:=qAc qI5) (N':=["step","groups","steps"]) (sub:=[none,some 1,some 0]) rfl rfl (CmpOk.of (by decide +kernel)) rfl (qAp (pv 0))
   (λC s H fp=>⟨qAm (i:=0) (by show(["step","groups","steps"]:List Str).Nodup;decide) rfl (Or.inr rfl),qAz,
    qGf (N:=["step","groups","steps"]) (sc:=zD1 _ (qAc qI5)) (N':=["group","steps","step"]) (sub:=[none,some 2,some 0]) rfl rfl (CmpOk.of (by decide +kernel)) rfl (show PI _ _ _ (zCp K (qR0 1)) from qAp (pv 1))
     (λC s H fp=>⟨qAm (i:=0) (by show(["group","steps","step"]:List Str).Nodup;decide) rfl vE,qBk (qD9 (qAw G1 hr rfl .nil qAv (qAd (pv 1) (qAd (pv 2) (pa1 (pv 0)))))),pv 0⟩)⟩)
   qSn.nd rfl vE)
  (qAe (qAt (qAw G3 hr2 rfl .nil qAv (qAd
   (qA8 (N:=shN) (sc:=qAc qI5) (N':=["some","groups"]) (sub:=[none,some 1]) (qAp (pv 2)) (λC s H fp=>⟨qAz,qAw G2 hr1 rfl .nil qAv (qAd (pv 1) (pa1 (pv 0)))⟩)) qA3)))),?_⟩
 refine⟨_,rfl,p,rfl,⟨_,SqL.of hp⟩,?_⟩;refine qAq (xs:=S.map iV) (λj ys H2=>Ext H H2/\∃as:List Addr,ys=as.map V.ref/\Paired (λa x=>LsN H2 a (gs.filter (crB S x))) as (S.take j)) ⟨Ext.refl _,[],rfl,.nil⟩ (λj ys H2 _ h=>SqL.of (h.1 _ _ hp)) ?_ ?_
 ·rintro j v ys H2 hx ⟨e2,as,rfl,all⟩;obtain⟨x,rfl,hx'⟩:=qB2 hx;have hj:=qAx hx';have la:=all.length;rw[hAm]at la;refine⟨sls,iteT (B:=False) ?_⟩;refine⟨_,rfl,g,rfl,⟨_,SqL.of (e2 _ _ hg)⟩,?_⟩;refine qAq (xs:=gs.map iV) (λi ys3 H3=>H3=H2/\ys3=((gs.take i).filter (crB S x)).map iV) ⟨rfl,rfl⟩ (λi ys3 H3 _ h=>by rw[h.1];exact SqL.of (e2 _ _ hg)) ?_ ?_
  ·rintro i v3 ys3 H3 hy ⟨rfl,rfl⟩;obtain⟨y,rfl,hy'⟩:=qB2 hy;have hi:=qAx hy';have sz:=hAz (crB S x) (gs.take i);rw[hAm]at sz;refine⟨sls,_,rfl,_,rfl,_,rfl,p,S,x,y,rfl,e2 _ _ hp,nz,crB S x y,rfl,qBw (λc=>?_) (λc=>?_)⟩
   ·refine⟨_,rfl,by rw[hA1];exact qAf vG,nxt (qAx hy) ⟨rfl,?_⟩⟩;rw[qAh hy',hBr,hA4,hCo c];rfl
   ·refine nxt (qAx hy) ⟨rfl,?_⟩;rw[qAh hy',hBr,hCp c];show _=((gs.take i).filter (crB S x)++[]).map iV;rw[hCc]
  ·rintro ys3 H3 ⟨rfl,rfl⟩ l hl;rw[show gs.take (gs.map iV).length=gs by rw[hA1,hA5 (hA9 _)]];have n1:=Ext.new hl (.lst ((gs.filter (crB S x)).map iV));refine⟨by rw[hA1];exact qAf vG,nxt (qAx hx) ⟨e2.trans n1,as++[l],by rw[hA4];rfl,?_⟩⟩;rw[qAh hx'];exact Paired.snoc (Paired.mapP all λa x z=>n1 _ _ z) upd_same
 ·rintro ys H2 ⟨e2,as,rfl,all⟩ co hco;rw[hA1,hA5 (hA9 _)]at all;have la:=all.length;have n2:=Ext.new hco (.lst (as.map V.ref));have E2:=e2.trans n2;refine⟨_,rfl,co,rfl,⟨_,SqL.of upd_same⟩,?_⟩;refine qAq (xs:=as.map V.ref) (λj ys H3=>H3=upd H2 co (.lst (as.map V.ref))/\ys=((S.take j).map λe=>qC4 gs (gs.filter (crB S e))).map iV) ⟨rfl,rfl⟩ (λj ys H3 _ h=>by rw[h.1];exact SqL.of upd_same) ?_ ?_
  ·rintro j v ys H3 hx ⟨rfl,rfl⟩;obtain⟨a,rfl,ha⟩:=qA7 hx;obtain⟨x,hx',hax⟩:=qAr all ha;have hj:=qAx ha;refine⟨sls,iteT (B:=False) ⟨_,rfl,_,rfl,g,a,gs,_,rfl,E2 _ _ hg,n2 _ _ hax,?_,nxt (qAx hx) ⟨rfl,?_⟩⟩⟩
   ·rw[hA1,hA1,hAm];exact qAf vG
   ·rw[qAh hx',hA4,hA4];rfl
  ·rintro ys H3 ⟨rfl,rfl⟩ l hl;rw[hA1,la,hA5 (hA9 _)];have n3:=Ext.new hl (.lst ((S.map λe=>qC4 gs (gs.filter (crB S e))).map iV));refine⟨l,_,rfl,upd_same,by rw[hA1];omega,λr M H4 e4 r0 hM pM dM=>?_⟩;rw[qK2 pM dM]at hM;exact q r H4 (E2.trans (n3.trans e4)) ((E2.trans n3).none r0) hM
end
theorem _root_.PySem.Paired.app:∀ {as as':List α} {bs bs':List β},Paired R as bs->Paired R as' bs'->Paired R (as++as') (bs++bs')
 |_,_,_,_,.nil,h=>h
 |_,_,_,_,.cons a b,h=>.cons a (PySem.Paired.app b h)
theorem qHq(h:n<9000):n<sizeLine:=hAo h (by decide)
def gro(B:List Nat)(c:Nat):List Nat:=if red1 B c=0 then B else B++[red1 B c]
def fC(S:List Nat)(i k:Nat):Option Nat:=if (S.getD k 0).testBit i=true then some (2^k) else none
theorem zE7(S:List Nat)(i j:Nat):[j].filterMap (fC S i)=if (S.getD j 0).testBit i=true then [2^j] else []:=by
 by_cases b:(S.getD j 0).testBit i=true
 ·rw[hEk b,hBs,show fC S i j=some (2^j) from hEk b];rfl
 ·rw[hEj b,hBs,show fC S i j=none from hEj b];rfl
noncomputable def qHj(S:List Nat)(i:Nat):Nat:=((List.range S.length).filterMap (fC S i)).sum
noncomputable def bsF(S:List Nat):Nat->List (List Nat)
 |0=>[[]]
 |i+1=>bsF S i++(bsF S i).map λB=>gro B (qHj S i)
noncomputable def wF(m:Nat)(S:List Nat):List Nat:=(bsF S m).map List.length
theorem zE0(h:∀s∈B,s≠0):∀s∈gro B c,s≠0:=by
 unfold gro;split
 ·exact h
 ·rename_i n;intro s hs;rcases hAb.mp hs with z|z
  ·exact h s z
  ·rw[hA3]at z;rw[z];exact n
theorem zCr(B:List Nat)(c:Nat):(gro B c).length<=B.length+1:=by
 unfold gro;split
 ·omega
 ·rw[hAf];exact hA9 _
theorem qMr(S:List Nat):∀i,(∀B∈bsF S i,(∀s∈B,s≠0)/\B.length<=i)/\(bsF S i).length=2^i
 |0=>⟨λB hB=>by
   have:B∈[([]:List Nat)]:=hB;rw[hA3]at this;subst this;exact⟨λs hs=>(by cases hs),hA9 _⟩,rfl⟩
 |i+1=>by
  obtain⟨h1,h2⟩:=qMr S i;refine⟨λB hB=>?_,?_⟩
  ·have hB:B∈bsF S i++(bsF S i).map λB=>gro B (qHj S i):=hB
   rcases hAb.mp hB with z|z
   ·exact⟨(h1 B z).1,Nat.le_succ_of_le (h1 B z).2⟩
   ·obtain⟨B',hB',rfl⟩:=hAe.mp z;exact⟨zE0 (h1 B' hB').1,hAw (zCr _ _) (hD0 (h1 B' hB').2)⟩
  ·show(bsF S i++(bsF S i).map λB=>gro B (qHj S i)).length=_;rw[hAf,hA1,h2,hD7];omega
def qSh:Sp:=λvs H Q _=>∃(b:Addr) (B:List Nat) (c:Nat),vs=[.ref b,iV c]/\LsN H b B/\(∀s∈B,s≠0)/\B.length<=100/\∀r H',Ext H H'->LsN H' r (gro B c)->Q (.ref r) H'
def qO1:Sp:=λvs H Q _=>∃(p:Addr) (m:Nat) (S:List Nat),vs=[.ref p,iV m]/\m<=12/\S.length<=12/\LsN H p S/\∀r H',Ext H H'->H r=none->LsN H' r (wF m S)->Q (.ref r) H'
section
variable{P:Program}{w:World}{K:PySem.W.Frag}{mg:Str->Option Value}{base:Heap}{f f1 f2 f3 f4:Addr}{fd fd1 fd2 fd3 fd4:FuncData}
theorem qSp:FnScope ["base","column","fresh"] ["base","column"] (qAc qSv):=fsk
theorem qXj(F:Fun K "grown" "grown" qSv f fd)(G1:v9 1 f1 fd1 ["mask","kept"] qO6 "lessened"):v8 2 f fd ["base","column"] qSh:=by
 refine F.okA qSp λcdv A outer s H vs Q E hr h=>?_
 obtain⟨b,B,c,rfl,hB,nz,lB,q⟩:=h;refine⟨_,qAa (v4 2 qSp (qAw G1 hr rfl .nil qAv (qAd (pv 1) (pa1 (pv 0)))))
  (qAe (qAt (qEv (qAn qB8 (pv 2) qAb (qAu _)) (pv 0) (qAg qCi (pv 0) (qA4 (pa1 (pv 2))))))),?_⟩
 refine⟨_,rfl,_,rfl,c,b,B,rfl,hB,nz,?_⟩;refine⟨_,rfl,rfl,_,rfl,qBw (λd=>?_) (λd=>?_)⟩
 ·have d':red1 B c=0:=by
   have:((red1 B c:Nat):Int)=0:=by simpa using d
   omega
  refine⟨_,rfl,q b H (Ext.refl _) ?_⟩;unfold gro;rw[hEk d'];exact hB
 ·have d':¬red1 B c=0:=λz=>d (by rw[z];decide +kernel)
  refine⟨_,rfl,_,rfl,(by show 1<=sizeLine;decide),λl hl=>?_⟩;have n1:=Ext.new hl (.lst [iV (red1 B c)]);refine⟨b,l,_,_,rfl,rfl,n1 _ _ hB,upd_same,?_,λr hr'=>q r _ (n1.trans (Ext.new hr' _)) ?_⟩
  ·rw[hA1];exact hB9 (qAf (by show B.length+1<=1000;omega))
  ·unfold gro LsN;rw[hEj d',upd_same,hA4];rfl
noncomputable abbrev wiN:List Str:=["steps","many","bases","place","column"]
theorem qFj:FnScope wiN ["steps","many"] (qAc qGc):=fsk
theorem qTl(F:Fun K "widths" "widths" qGc f fd)(G1:v9 2 f1 fd1 ["base","column"] qSh "grown")(mr:mg "range"=none)(msu:mg "sum"=none)(me:mg "enumerate"=none)(ml:mg "len"=none):v8 3 f fd ["steps","many"] qO1:=by
 refine F.okA qFj λcdv A outer s H vs Q E hr h=>?_
 obtain⟨p,m,S,rfl,m12,lS,hS,q⟩:=h;refine⟨_,qAa (v4 2 qFj (qA4 (pa1 (qA4 qA3))))
  (qAa (qBa PassesOwn.never rfl (qBd rfl mr (pa1 (pv 1))) (v7 3 qFj)
   (qAa (v6 4 qFj (qAj (qC5 rfl) rfl msu qC7 (qAd
    (qGf (N:=wiN) (sc:=qAc qGc) (N':=["at","step","place"]) (sub:=[none,none,some 3]) rfl rfl (CmpOk.of (by decide +kernel)) rfl (qFb rfl me (pa1 (pv 0)))
     (λC s H fp=>⟨(show PG _ _ (zCs K 2 _) from qB5 rfl (qAs (qAm (i:=0) (by show(["at","step","place"]:List Str).Nodup;decide) rfl vE) (qAs (qAm (i:=1) (by show(["at","step","place"]:List Str).Nodup;decide) rfl vE) qBl))),
      qBk (qAn qB8 (qAg qBr (qAg qFq (pv 1) (pv 2)) qAb) qAb (qAu _)),qAg qCd qAb (pv 0)⟩)) qA3)))
   (qAe (v4 2 qFj (qAg qCi (pv 2)
    (qA8 (N:=wiN) (sc:=qAc qGc) (N':=["base","column"]) (sub:=[none,some 4]) (qAp (pv 2)) (λC s H fp=>⟨qAz,qAw G1 hr rfl .nil qAv (qAd (pv 0) (pa1 (pv 1)))⟩)))))))
  (qAe (qAt (qA8 (N:=wiN) (sc:=qAc qGc) (N':=["base"]) (sub:=[none]) (qAp (pv 2)) (λC s H fp=>⟨qAz,qAj (show qCm _ _ (λxs H Q=>∃p ys,xs=[V.ref p]/\(SqL K H p ys\/SqT K H p ys)/\Q (.int ys.length) H) from qAl) rfl ml hAy (pa1 (pv 0))⟩))))),?_⟩
 refine⟨hAt _,λl0 hl0=>⟨(by show 1<=sizeLine;decide),λb0 hb0=>?_⟩⟩;have X0:=(Ext.new hl0 (.lst [])).trans (Ext.new hb0 (.lst [V.ref l0]));refine⟨_,rfl,(m:Int),rfl,by omega,by omega,?_⟩;refine qB3 (lo:=0) (n:=((m:Nat):Int).toNat) (λi σ H'=>∃(bs:Addr) (as:List Addr) (x3 x4:Option V),σ=[some (.ref p),some (iV m),some (.ref bs),x3,x4]/\Ext H H'/\H bs=none/\H' bs=some (.lst (as.map V.ref))/\Paired (λa B=>LsN H' a B) as (bsF S i)) ⟨b0,[l0],_,_,rfl,X0,(Ext.new hl0 (.lst [])).none hb0,upd_same,.cons ((Ext.new hb0 _) _ _ upd_same) .nil⟩ ?_ ?_
 ·rintro i σ H' hi ⟨bs,as,x3,x4,rfl,e,bs0,hbs,pr⟩;have hi':i<m:=by rwa [hB7]at hi
  obtain⟨bok,bln⟩:=qMr S i;have la:as.length=2^i:=by rw[pr.length,bln]
  have pi4:2^i<=2^11:=hBd (by decide) vG;refine⟨_,rfl,p,_,rfl,SqL.of (e _ _ hS),?_⟩;rw[hA1];refine qEd (λj ys H2=>Ext H' H2/\ys=((List.range j).filterMap (fC S i)).map iV) ⟨Ext.refl _,rfl⟩ (λj ys H2 _ h=>SqL.of (h.1 _ _ (e _ _ hS))) ?_ ?_
  ·rintro j ys H2 T hj ⟨e2,rfl⟩ hT;have gd:(S.map iV).getD j .non=iV (S.getD j 0):=by rw[hAa,hAl,hAa,hA2 hj];rfl
   rw[gd];have e3:=e2.trans (Ext.new hT (.tup [V.int (j:Nat),iV (S.getD j 0)]));refine⟨T,_,rfl,SqT.of upd_same,rfl,_,_,rfl,_,_,rfl,rfl,?_⟩;refine⟨Sle.set _ (sls) (λu z=>by cases z),?_⟩;refine⟨_,rfl,_,rfl,_,_,rfl,rfl,(by show(0:Int)<=_;omega),_,_,rfl,rfl,rfl,_,rfl,?_⟩;have fm:((List.range (j+1)).filterMap (fC S i))=((List.range j).filterMap (fC S i))++(if (S.getD j 0).testBit i=true then [2^j] else []):=by
    rw[hCk,hD6];rw[zE7]
   have sz:=hCf (fC S i) (List.range j);rw[hB4]at sz;have key:(decide (V.int (Builtin.bitAnd (((S.getD j 0:Nat):Int) / 2^((0:Int)+(i:Nat)).toNat) 1)=V.int 1)=true)↔(S.getD j 0).testBit i=true:=by
    rw[hEl,V.int.injEq,Int.zero_add,hB7,qEe];by_cases b:(S.getD j 0).testBit i=true
    ·simp[b]
    ·simp[b]
   refine qBw (λc=>?_) (λc=>?_)
   ·have b:=key.mp c;refine⟨_,rfl,_,_,rfl,rfl,⟨by omega,by omega,by omega⟩,by rw[hA1];exact qAf vG,nxt hj ⟨e3,?_⟩⟩;rw[fm,hEk b,hA4];show _=_++[iV (2^j)];rw[show iV (2^j)=V.int (1*2^((j:Nat):Int).toNat) from congrArg V.int (qBt j).symm]
   ·have b:¬(S.getD j 0).testBit i=true:=λz=>c (key.mpr z)
    refine nxt hj ⟨e3,?_⟩;rw[fm,hEj b,hCc]
  ·rintro ys H2 ⟨e2,rfl⟩ l hl;have n2:=e2.trans (Ext.new hl (.lst (((List.range S.length).filterMap (fC S i)).map iV)));refine⟨l,((List.range S.length).filterMap (fC S i)).map (λn:Nat=>(n:Int)),rfl,by rw[<-qCj];exact SqL.of upd_same,?_⟩;rw[qDb];rw[show((List.range S.length).filterMap (fC S i)).sum=qHj S i from rfl];have E2:=e.trans n2;refine⟨_,rfl,_,rfl,bs,rfl,⟨_,SqL.of (n2 _ _ hbs)⟩,?_⟩;have pr2:=Paired.mapP pr λa B z=>n2 _ _ z
   revert E2 n2 pr2;generalize upd H2 l (.lst (((List.range S.length).filterMap (fC S i)).map iV))=H3;intro n2 E2 pr2;refine qAq (xs:=as.map V.ref) (λj ys H4=>Ext H3 H4/\∃cs:List Addr,ys=cs.map V.ref/\Paired (λa B=>LsN H4 a B) cs (((bsF S i).take j).map λB=>gro B (qHj S i))) ⟨Ext.refl _,[],rfl,.nil⟩ (λj ys H4 _ h=>SqL.of (h.1 _ _ (n2 _ _ hbs))) ?_ ?_
   ·rintro j v ys H4 hx ⟨e4,cs',rfl,pc⟩;obtain⟨a,rfl,ha⟩:=qA7 hx;obtain⟨B,hB,hBa⟩:=qAr pr2 ha;have hj:=qAx ha;have bm:=bok B (hAc hB);have lc:=pc.length;rw[hA1,hAm]at lc;refine⟨sls,iteT (B:=False) ⟨_,rfl,_,rfl,a,B,qHj S i,rfl,e4 _ _ hBa,bm.1,by omega,λr H5 e5 h5=>⟨?_,nxt (qAx hx) ⟨e4.trans e5,cs'++[r],by rw[hA4];rfl,?_⟩⟩⟩⟩
    ·rw[hA1];exact qHq vG
    ·rw[qAh hB,hA4];exact Paired.snoc (Paired.mapP pc λa B z=>e5 _ _ z) h5
   ·rintro ys H4 ⟨e4,cs',rfl,pc⟩ l2 hl2;rw[hA1,show(bsF S i).take as.length=bsF S i from hA5 (by rw[bln,la];exact hA9 _)]at pc;have n5:=Ext.new hl2 (.lst (cs'.map V.ref));have lc:=pc.length;rw[hA1,bln]at lc;have E5:=n2.trans (e4.trans n5);refine⟨bs,l2,_,_,rfl,rfl,E5 _ _ hbs,upd_same,?_,λb' hb'=>?_⟩
    ·rw[hA1,hA1];exact hB9 (qHq vG)
    have n6:=Ext.new hb' (.lst (as.map V.ref++cs'.map V.ref));refine⟨b',as++cs',_,_,rfl,e.trans (E5.trans n6),(e.trans E5).none hb',by rw[upd_same,hA4],?_⟩;exact Paired.app (Paired.mapP pr λa B z=>(E5.trans n6) _ _ z) (Paired.mapP pc λa B z=>(n5.trans n6) _ _ z)
 ·rintro σ H' ⟨bs,as,x3,x4,rfl,e,bs0,hbs,pr⟩;rw[hB7]at pr;obtain⟨bok,bln⟩:=qMr S m;have la:as.length=2^m:=by rw[pr.length,bln]
  refine⟨_,rfl,bs,rfl,⟨_,SqL.of hbs⟩,?_⟩;refine qAq (xs:=as.map V.ref) (λj ys H2=>H2=H'/\ys=(((bsF S m).take j).map List.length).map iV) ⟨rfl,rfl⟩ (λj ys H2 _ h=>by rw[h.1];exact SqL.of hbs) ?_ ?_
  ·rintro j v ys H2 hx ⟨rfl,rfl⟩;obtain⟨a,rfl,ha⟩:=qA7 hx;obtain⟨B,hB,hBa⟩:=qAr pr ha;have hj:=qAx hB;have p4:2^m<=2^12:=hBd (by decide) m12;refine⟨sls,iteT (B:=False) ⟨_,rfl,a,_,rfl,.inl (SqL.of hBa),?_,nxt (qAx hx) ⟨rfl,?_⟩⟩⟩
   ·rw[hA1,hA1,hAm];exact qHq vG
   ·rw[qAh hB,hA4,hA4,hA1];rfl
  ·rintro ys H2 ⟨rfl,rfl⟩ r hr';rw[hA1,la,show(bsF S m).take (2^m)=bsF S m from hA5 (by rw[bln];exact hA9 _)];exact q r _ (e.trans (Ext.new hr' _)) (e.none hr') upd_same
end
end My
namespace L2
open PySem PySem.Spec PyProof.Rows
def zFt:TE:=λ_ _ _=>False
theorem zD8:PE X e zFt:=by
 intro aB s σ H Q I h;exact h.elim
end L2
namespace My
open PySem L2
noncomputable def prB(S:List Nat)(m x:Nat):Bool:=decide ((wF m S).getD x 0+(wF m S).getD ((2^m-1)^^^x) 0=S.length+1) && (!sgl x && !sgl ((2^m-1)^^^x))
noncomputable def fpF(S:List Nat)(m:Nat):Nat:=((List.range (2^(m-1))).find? (prB S m)).getD 0
noncomputable def kiF(S:List Nat)(m:Nat):Str:=if S.length=1 then "ring" else if S.length+1=m then "bundle" else "whole"
theorem qUn:∀ {N:Nat},i<N->p i=true->(∀x,x<i->p x=false)->(List.range N).find? p=some i:=λ{N} hi hp ho=>by
 rw[List.find?_eq_some_iff_append];refine⟨hp,List.range i,(List.range' (i+1) (N-1-i)),?_,λa ha=>?_⟩
 ·rw[List.range_eq_range',List.range_eq_range',show N=i+(1+(N-1-i)) by omega,<-List.range'_append_1];congr 1;rw[Nat.zero_add,show 1+(N-1-i)=(N-1-i)+1 by omega,List.range'_succ];congr 2;omega
 ·rw[ho a (hAv.mp ha)];rfl
theorem qUo(ho:∀x,x<N->p x=false):(List.range N).find? p=none:=by
 rw[List.find?_eq_none];intro x hx z;rw[ho x (hAv.mp hx)]at z;cases z
def qSi:Sp:=λvs H Q _=>∃(p:Addr) (m:Nat) (S:List Nat),vs=[.ref p,iV m]/\1<=m/\m<=12/\S.length<=12/\LsN H p S/\∀H',Ext H H'->Q (iV (fpF S m)) H'
def qYx:Sp:=λvs H Q _=>∃(p:Addr) (m:Nat) (S:List Nat),vs=[.ref p,iV m]/\2<=m/\LsN H p S/\Q (.str (kiF S m)) H
section
variable{P:Program}{w:World}{K:PySem.W.Frag}{mg:Str->Option Value}{base:Heap}{f f1 f2 f3 f4:Addr}{fd fd1 fd2 fd3 fd4:FuncData}
noncomputable abbrev fpN:List Str:=["steps","many","whole","met","some"]
theorem qJ1:FnScope fpN ["steps","many"] (qAc qSw):=fsk
theorem qXk(F:Fun K "first_parting" "first_parting" qSw f fd)(G1:v9 3 f1 fd1 ["steps","many"] qO1 "widths")
  (G2:v9 2 f2 fd2 ["steps","one","rest","met"] qO2 "splits") (mr:mg "range"=none):v8 4 f fd ["steps","many"] qSi:=by
 refine F.okA qJ1 λcdv A outer s H vs Q E hr h=>?_
 obtain⟨p,m,S,rfl,m1,m12,lS,hS,q⟩:=h;have hr2:=hr.mono (j:=2) (by decide);refine⟨_,(qAa (v4 2 qJ1 (qAg qCw (qAg qCd qAb (pv 1)) qAb)) (qAa (v4 3 qJ1 (qAw G1 hr rfl .nil qAv (qAd (pv 0) (pa1 (pv 1))))) (qAa (qBa PassesOwn.never rfl (qBd rfl mr (pa1 (qAg qCd qAb (qAg qCw (pv 1) qAb)))) (v5 4 qJ1) (qAe (qBo (qD9 (qAw G2 hr2 rfl .nil qAv (qAd (pv 0) (qAd (pv 4) (qAd (qAg qDr (pv 2) (pv 4)) (pa1 (qAg qA9 (qBe qB0 (pv 3) (pv 4) (λ_ _=>rfl)) (qBe qB0 (pv 3) (qAg qDr (pv 2) (pv 4)) (λ_ _=>rfl))))))))) (qAe (qAt (pv 4))) qA1))) (qAe (qAt qAb))))),?_⟩;refine⟨_,rfl,_,_,rfl,rfl,⟨by omega,by omega,by decide⟩,_,_,rfl,rfl,?_⟩;refine⟨_,rfl,_,rfl,p,m,S,rfl,m12,lS,hS,λme H1 e1 me0 hme=>?_⟩;have hS1:LsN H1 p S:=e1 _ _ hS;have p1:=hCz (n:=m);have wh:(1:Int)*2^((m:Nat):Int).toNat-1=(((2^m-1:Nat)):Int):=by
  rw[qBt];omega
 refine⟨_,rfl,_,_,rfl,rfl,_,_,rfl,rfl,⟨by omega,by omega,by decide⟩,?_⟩;have rg:(1:Int)*2^(((m:Nat):Int)-1).toNat=(((2^(m-1):Nat)):Int):=by
  rw[show((m:Nat):Int)-1=((m-1:Nat):Int) by omega];exact qBt _
 have r2:2^(m-1)<=2^11:=hBd (by decide) vG;have lw:(wF m S).length=2^m:=by unfold wF;rw[hA1];exact(qMr S m).2
 refine⟨_,rfl,?_,?_,?_⟩
 ·show -(2^62)<=(1:Int)*2^(((m:Nat):Int)-1).toNat;rw[rg];exact Int.le_trans (by decide) (hD9 _)
 ·show(1:Int)*2^(((m:Nat):Int)-1).toNat<2^62;rw[rg];exact Int.lt_of_le_of_lt (Int.ofNat_le.mpr r2) (by decide)
 refine qB3 (lo:=0) (n:=((1:Int)*2^(((m:Nat):Int)-1).toNat).toNat) (λi σ H'=>H'=H1/\(∀x,x<i->prB S m x=false)/\∃x4:Option V,σ=[some (.ref p),some (iV m),some (.int ((1:Int)*2^((m:Nat):Int).toNat-1)),some (.ref me),x4]) ⟨rfl,λx h=>absurd h (hCe _),_,rfl⟩ ?_ ?_
 ·rintro i σ H' hi ⟨rfl,ho,x4,rfl⟩;rw[rg,hB7]at hi;rw[wh];have z0:(0:Int)+(i:Nat)=((i:Nat):Int):=Int.zero_add _;rw[z0];have im:i<2^m:=hAo hi (hBd (by decide) vG);have xm:(2^m-1)^^^i<2^m:=hCg vG im;have gw:∀ {k:Nat},k<2^m->((wF m S).map iV)[k]?=some (iV ((wF m S).getD k 0)):=λ{k} hk=>by
   rw[hAl,hAa,hA2 (by rw[lw];exact hk)];rfl
  have at1:atI ((wF m S).map iV) ((i:Nat):Int)=some (iV ((wF m S).getD i 0)):=qA0 (gw im);have at2:atI ((wF m S).map iV) (Builtin.bitXor (((2^m-1:Nat)):Int) ((i:Nat):Int))=some (iV ((wF m S).getD ((2^m-1)^^^i) 0)):=by
   rw[qCk];exact qA0 (gw xm)
  refine⟨_,rfl,_,rfl,_,rfl,_,rfl,_,_,rfl,rfl,_,rfl,_,rfl,me,_,_,_,rfl,rfl,SqL.of hme,at1,_,rfl,_,rfl,_,rfl,_,_,rfl,rfl,me,_,_,_,rfl,rfl,SqL.of hme,at2,_,_,rfl,rfl,?_⟩;refine⟨p,S,i,(2^m-1)^^^i,(wF m S).getD i 0+(wF m S).getD ((2^m-1)^^^i) 0,?_,hS1,prB S m i,rfl,qBw (λc=>?_) (λc=>?_)⟩
  ·show [V.ref p,V.int (i:Nat),V.int (Builtin.bitXor (((2^m-1:Nat)):Int) ((i:Nat):Int)),V.int ((((wF m S).getD i 0:Nat):Int)+(((wF m S).getD ((2^m-1)^^^i) 0:Nat):Int))]=_;rw[qCk,<-Int.natCast_add]
  ·refine⟨_,rfl,?_⟩;have e:fpF S m=i:=by unfold fpF;rw[qUn hi c ho];rfl
   have:=q _ e1;rw[e]at this;exact this
  ·refine⟨rfl,λx hx=>?_,_,rfl⟩;by_cases e:x=i
   ·rw[e];cases h:prB S m i with|false=>rfl|true=>exact absurd h c
   ·exact ho x vG
 ·rintro σ H' ⟨rfl,ho,x4,rfl⟩;rw[rg,hB7]at ho;have e:fpF S m=0:=by unfold fpF;rw[qUo ho];rfl
  have:=q _ e1;rw[e]at this;exact this
theorem zDw:FnScope ["steps","many"] ["steps","many"] (qAc zAq):=fsk
theorem zB1(F:Fun K "kind_of" "kind_of" zAq f fd)(ml:mg "len"=none):v8 1 f fd ["steps","many"] qYx:=by
 refine F.okA zDw λcdv A outer s H vs Q E hr h=>?_
 obtain⟨p,m,S,rfl,m2,hS,q⟩:=h;refine⟨_,(qAa (qBo (qAn qB8 (pv 1) qAb (qAu _)) (qAe (qAt zD8)) qA1) (qAa (qBo (qAn qB8 (qAj qAl rfl ml hAy (pa1 (pv 0))) qAb (qAu _)) (qAe (qAt qCv)) qA1) (qAe (qAt (qEv (qAn qB8 (qAj qAl rfl ml hAy (pa1 (pv 0))) (qAg qCw (pv 1) qAb) (qAu _)) qCv qCv))))),?_⟩;have n1:decide (iV m=V.int 1)=false:=hEg λz=>by have:=V.int.inj z;omega
 refine⟨_,rfl,rfl,_,rfl,?_⟩;rw[show decide (iV m=V.int 1)=false from n1];refine qG5 ?_;refine⟨_,rfl,p,_,rfl,.inl (SqL.of hS),rfl,_,rfl,?_⟩;unfold kiF at q;rw[show decide (V.int (((S.map iV).length:Nat):Int)=V.int 1)=decide (S.length=1) from decide_eq_decide.mpr ⟨λh=>by have:=V.int.inj h;rw[hA1]at this;omega,λh=>by rw[hA1,h];rfl⟩];refine qBw (λc=>?_) (λc=>?_)
 ·rw[hEk (hEi c)]at q;exact q
 have c':¬S.length=1:=λz=>c (hEf z)
 rw[hEj c']at q;refine⟨_,rfl,p,_,rfl,.inl (SqL.of hS),_,rfl,_,_,rfl,rfl,rfl,_,rfl,?_⟩;rw[show decide (V.int (((S.map iV).length:Nat):Int)=V.int (((m:Nat):Int)-1))=decide (S.length+1=m) from decide_eq_decide.mpr ⟨λh=>by have:=V.int.inj h;rw[hA1]at this;omega,λh=>by rw[hA1];congr 1;omega⟩];refine qBw (λd=>?_) (λd=>?_)
 ·rw[hEk (hEi d)]at q;exact q
 ·rw[hEj (λz=>d (hEf z))]at q;exact q
end
structure Pt(w:Nat)(gs:List Nat):Prop where
 nz:∀g∈gs,g≠0
 di:Dis gs
 su:gs.sum=w
theorem Dis.perm(h:Dis a)(p:a.Perm b):Dis b:=(p.pairwise_iff (λ{x y} z=>by rw[Nat.and_comm];exact z)).mp h
theorem Pt.perm(h:Pt w a)(p:a.Perm b):Pt w b:=⟨λg hg=>h.nz g (p.mem_iff.mpr hg),h.di.perm p,by rw[<-p.sum_nat];exact h.su⟩
theorem zFb(nz:∀g∈gs,g≠0)(d:Dis gs):gs.Nodup:=hBx (λ{a b} ha hb z e=>by rw[<-e,Nat.and_self]at z;exact nz a ha z) d
theorem Pt.nd(h:Pt w gs):gs.Nodup:=zFb h.nz h.di
theorem qTu:∀ {l:List α},l.Nodup->∀ {i j:Nat} {a:α},l[i]?=some a->l[j]?=some a->i=j
 |x :: l,nd,0,0,a,_,_=>rfl
 |x :: l,nd,0,j+1,a,h1,h2=>by
  cases hAq h1;exact absurd (hAc (l:=l) (i:=j) h2) (hBb.mp nd).1
 |x :: l,nd,i+1,0,a,h1,h2=>by
  cases hAq h2;exact absurd (hAc (l:=l) (i:=i) h1) (hBb.mp nd).1
 |x :: l,nd,i+1,j+1,a,h1,h2=>congrArg (· + 1) (qTu (hBb.mp nd).2 (i:=i) (j:=j) h1 h2)
theorem qOx(h:sgl x=false):∃i j,i≠j/\x.testBit i=true/\x.testBit j=true:=by
 have x0:x≠0:=λz=>by rw[z]at h;exact absurd h (by decide)
 have hl:=hBo x0;by_cases c:∃j,j≠x.log2/\x.testBit j=true
 ·obtain⟨j,h1,h2⟩:=c;exact⟨x.log2,j,Ne.symm h1,hl,h2⟩
 ·have e:x=2^x.log2:=hAh λi=>by
   rw[hAi];by_cases z:x.log2=i
   ·rw[<-z,hl,hEf rfl]
   ·rw[hEg z];cases q:x.testBit i with
    |false=>rfl
    |true=>exact absurd ⟨i,Ne.symm z,q⟩ c
  have:sgl x=true:=by rw[e];exact hEf (qDf _)
  rw[this]at h;cases h
theorem qUj{α β:Type}{f g:α->Option β}(h:∀a,f a=none\/f a=g a):∀l:List α,(l.filterMap f).Sublist (l.filterMap g)
 |[]=>.slnil
 |a :: l=>by
  have ih:=qUj h l;rw[hBs,hBs];rcases h a with e|e
  ·rw[e];cases g a with
   |none=>exact ih
   |some b=>exact ih.cons b
  ·rw[e];cases g a with
   |none=>exact ih
   |some b=>exact ih.cons₂ b
theorem qUk:∀l:List α,(List.range l.length).filterMap (λi=>l[i]?)=l
 |[]=>rfl
 |a :: l=>by
  rw[hC9,hE3,hBs,List.filterMap_map];show a :: (List.range l.length).filterMap (λi=>(a :: l)[i+1]?)=_;congr 1;exact qUk l
theorem qJ5(gs:List Nat)(x:Nat):(rowI gs x).Sublist gs:=by
 have:=qUj (f:=λi=>if x.testBit (gs.length-1-i)=true then gs[i]? else none) (g:=λi=>gs[i]?) (λi=>by
  by_cases c:x.testBit (gs.length-1-i)=true
  ·exact .inr (hEk c)
  ·exact .inl (hEj c)) (List.range gs.length)
 rw[qUk]at this;exact this
theorem qHd:g∈rowI gs x↔∃i,i<gs.length/\gs[i]?=some g/\x.testBit (gs.length-1-i)=true:=by
 unfold rowI;rw[hD8];constructor
 ·rintro⟨i,hi,h⟩;by_cases c:x.testBit (gs.length-1-i)=true
  ·rw[hEk c]at h;exact⟨i,hAv.mp hi,h,c⟩
  ·rw[hEj c]at h;cases h
 ·rintro⟨i,hi,h,c⟩;exact⟨i,hAv.mpr hi,by rw[hEk c];exact h⟩
noncomputable def outF(gs inn:List Nat):List Nat:=gs.filter λg=>!decide (g∈inn)
theorem qC2{gs:List Nat}(nd:gs.Nodup)(x:Nat):gs.Perm (rowI gs x++outF gs (rowI gs x)):=by
 have ni:(rowI gs x).Nodup:=nd.sublist (qJ5 gs x);refine(hC7 nd ?_).mpr λg=>?_
 ·rw[hDu];refine⟨ni,nd.filter _,λa ha b hb e=>?_⟩;have:=(hAd.mp hb).2;rw[<-e,hEf ha]at this;cases this
 ·rw[hAb];constructor
  ·intro h;by_cases c:g∈rowI gs x
   ·exact .inl c
   ·exact .inr (hAd.mpr ⟨h,by rw[hEg c];rfl⟩)
  ·rintro(h|h)
   ·exact(qJ5 gs x).subset h
   ·exact(hAd.mp h).1
theorem qYf{l:List Nat}{a b:Nat}(ha:a∈l)(hb:b∈l)(ne:a≠b):2<=l.length:=by
 match l,ha,hb with
 |[c],ha,hb=>exact absurd ((hA3.mp ha).trans (hA3.mp hb).symm) ne
 |_ :: _ :: _,_,_=>simp
theorem qZ3{gs:List Nat}(nd:gs.Nodup){i j:Nat}(hi:i<gs.length)(hj:j<gs.length)(ne:i≠j):gs[gs.length-1-i]?=some (gs[gs.length-1-i]' vG)/\gs[gs.length-1-j]?=some (gs[gs.length-1-j]' vG)/\gs[gs.length-1-i]' vG≠gs[gs.length-1-j]' vG:=by
 refine⟨hA2 _,hA2 _,λe=>?_⟩;have:=qTu nd (i:=gs.length-1-i) (j:=gs.length-1-j) (hA2 _) (by rw[e];exact hA2 _);omega
theorem qMu(h:x<2^m)(hb:x.testBit i=true):i<m:=by
 by_cases c:i<m
 ·exact c
 ·rw[hDi (hAo h (hBd (by decide) vG))]at hb;cases hb
theorem qFi{gs:List Nat}(nd:gs.Nodup){x:Nat}(lt:x<2^gs.length)(h1:sgl x=false)(h2:sgl ((2^gs.length-1)^^^x)=false):2<=(rowI gs x).length/\2<=(outF gs (rowI gs x)).length/\(rowI gs x).length+(outF gs (rowI gs x)).length=gs.length:=by
 refine⟨?_,?_,?_⟩
 ·obtain⟨i,j,ne,hi,hj⟩:=qOx h1;have li:=qMu lt hi;have lj:=qMu lt hj;obtain⟨a,b,c⟩:=qZ3 nd li lj ne;exact qYf (qHd.mpr ⟨_,by omega,a,by rw[show gs.length-1-(gs.length-1-i)=i by omega];exact hi⟩) (qHd.mpr ⟨_,by omega,b,by rw[show gs.length-1-(gs.length-1-j)=j by omega];exact hj⟩) c
 ·obtain⟨i,j,ne,hi,hj⟩:=qOx h2;have lt2:(2^gs.length-1)^^^x<2^gs.length:=hCg (by have:=hCz (n:=gs.length);omega) lt;have li:=qMu lt2 hi;have lj:=qMu lt2 hj;obtain⟨a,b,c⟩:=qZ3 nd li lj ne;have no:∀ {k:Nat},k<gs.length->((2^gs.length-1)^^^x).testBit k=true->∀g,gs[gs.length-1-k]?=some g->g∈outF gs (rowI gs x):=λ{k} hk hb g hg=>by
   refine hAd.mpr ⟨hAc hg,?_⟩;have:g∉rowI gs x:=λz=>by
    obtain⟨u,hu,hg',hx⟩:=qHd.mp z;have eu:u=gs.length-1-k:=qTu nd hg' hg;rw[eu,show gs.length-1-(gs.length-1-k)=k by omega]at hx;rw[hAn,hx,hC4,hEf hk]at hb;cases hb
   rw[hEg this];rfl
  exact qYf (no li hi _ a) (no lj hj _ b) c
 ·have:=(qC2 nd x).length_eq;rw[hAf]at this;exact this.symm
noncomputable def beF(gs os:List Nat):List Nat:=(gs++[os.sum]).mergeSort λa b=>decide (b<=a)
theorem qD6(gs os:List Nat):(beF gs os).Perm (gs++[os.sum]):=hCu _ _
theorem qBv(gs os:List Nat):(beF gs os).length=gs.length+1:=by rw[(qD6 gs os).length_eq,hAf];rfl
theorem Pt.beside(h:Pt w (a++b))(nb:b≠[]):Pt w (beF a b):=by
 refine Pt.perm ?_ (qD6 a b).symm;obtain⟨d1,d2,d3⟩:=hBh.mp h.di;refine⟨λg hg=>?_,hBh.mpr ⟨d1,hBz _ _,λx hx y hy=>?_⟩,?_⟩
 ·rcases hAb.mp hg with z|z
  ·exact h.nz g (hAg _ z)
  ·rw[hA3.mp z];cases b with
   |nil=>exact absurd rfl nb
   |cons c r =>
    have:=h.nz c (hA7 _ hA8);rw[hCy];omega
 ·rw[hA3.mp hy];refine qEo λi h1 h2=>?_
  obtain⟨c,hc,hb⟩:=(qBi d2 i).mp h2;exact qBp (d3 x hx c hc) h1 hb
 ·have:=h.su;rw[hDh]at this;rw[hDh,List.sum_singleton];exact this
noncomputable def paF(S:List Nat):Nat->List Nat->List (Str×List Nat)
 |0,_=>[]
 |k+1,gs=>if fpF (shF S gs) gs.length=0 then [(kiF (shF S gs) gs.length,gs)] else
   paF S k (beF (rowI gs (fpF (shF S gs) gs.length)) (outF gs (rowI gs (fpF (shF S gs) gs.length))))++paF S k (beF (outF gs (rowI gs (fpF (shF S gs) gs.length))) (rowI gs (fpF (shF S gs) gs.length)))
theorem qQf(h:fpF S m≠0):fpF S m<2^m/\sgl (fpF S m)=false/\sgl ((2^m-1)^^^fpF S m)=false:=by
 unfold fpF at h ⊢;cases e:(List.range (2^(m-1))).find? (prB S m) with
 |none=>rw[e]at h;exact absurd rfl h
 |some x =>
  have h1:=List.find?_some e;have h2:=hAv.mp (List.mem_of_find?_eq_some e);unfold prB at h1;rw[hCm,hCm,Bool.not_eq_true',Bool.not_eq_true']at h1;exact⟨hAo h2 (hBd (by decide) vG),h1.2.1,h1.2.2⟩
def PtL(H:Hp)(L:Addr)(ps:List (Str×List Nat)):Prop:=∃as:List Addr,H L=some (.lst (as.map V.ref))/\Paired (λa e=>∃g,H a=some (.tup [.str e.1,.ref g])/\LsN H g e.2) as ps
theorem PtL.ext(h:PtL H L ps)(e:Ext H H'):PtL H' L ps:=by
 obtain⟨as,h1,h2⟩:=h;exact⟨as,e _ _ h1,Paired.mapP h2 λa x ⟨g,z1,z2⟩=>⟨g,e _ _ z1,e _ _ z2⟩⟩
theorem qKj(S:List Nat):∀(k:Nat) (gs:List Nat),(paF S k gs).length<=2^k
 |0,gs=>hAt _
 |k+1,gs=>by
  unfold paF;split
  ·show 1<=_;exact hCz
  ·rw[hAf,hD7];have h1:=qKj S k (beF (rowI gs (fpF (shF S gs) gs.length)) (outF gs (rowI gs (fpF (shF S gs) gs.length))));have h2:=qKj S k (beF (outF gs (rowI gs (fpF (shF S gs) gs.length))) (rowI gs (fpF (shF S gs) gs.length)));omega
theorem qSk(S gs:List Nat):(shF S gs).length<=S.length:=by
 unfold shF;rw[qZu];have:=qPo (S.map λe=>qC4 gs (gs.filter (crB S e)));rw[hA1]at this;exact this
theorem qPm{l:List Nat}{ns:List Int}(pm:ns.Perm (l.map λn:Nat=>(n:Int)))(od:ns.Pairwise λa b=>a >= b):ns.map V.int=(l.mergeSort λa b=>decide (b<=a)).map iV:=by
 obtain⟨M,rfl⟩:∃M:List Nat,ns=M.map (λn:Nat=>(n:Int)):=by
  refine⟨ns.map Int.toNat,?_⟩;rw[hB6];refine(List.map_id _).symm.trans (hBg λa ha=>?_);obtain⟨n,_,rfl⟩:=hAe.mp (pm.mem_iff.mp ha);simp
 have pm':M.Perm l:=by
  have:=pm.map Int.toNat;rw[hB6,hB6]at this;have idn:(Int.toNat∘λn:Nat=>(n:Int))=id:=by funext n;simp
  rw[idn,List.map_id,List.map_id]at this;exact this
 rw[<-qCj];rw[hBp]at od;exact congrArg _ (qK2 pm' (List.Pairwise.imp (λ{a b} h=>by omega) od))
def qO8:Sp:=λvs H Q _=>∃(g o:Addr) (gs os:List Nat),vs=[.ref g,.ref o]/\LsN H g gs/\LsN H o os/\gs.length<=12/\∀r H',Ext H H'->LsN H' r (beF gs os)->Q (.ref r) H'
def qO4(n:Nat):Sp:=λvs H Q _=>∃(p g:Addr) (S gs:List Nat) (w:Nat),vs=[.ref p,.ref g]/\LsN H p S/\LsN H g gs/\(∀s∈S,s≠0)/\S.length<=12/\Pt w gs/\3<=gs.length/\gs.length<=12/\gs.length<=n+2/\n<=10/\∀L H',Ext H H'->PtL H' L (paF S n gs)->Q (.ref L) H'
section
variable{P:Program}{w:World}{K:PySem.W.Frag}{mg:Str->Option Value}{base:Heap}{f f1 f2 f3 f4 f5:Addr}{fd fd1 fd2 fd3 fd4 fd5:FuncData}
theorem qWk:FnScope ["groups","others"] ["groups","others"] (qAc qNq):=fsk
theorem qTq(F:Fun K "beside" "beside" qNq f fd)(mso:mg "sorted"=none)(msu:mg "sum"=none):v8 1 f fd ["groups","others"] qO8:=by
 refine F.okA qWk λcdv A outer s H vs Q E hr h=>?_
 obtain⟨g,o,gs,os,rfl,hg,ho,lg,q⟩:=h;refine⟨_,(qAe (qAt (qGe rfl mso (pa1 (qAg qCi (pv 0) (qA4 (pa1 (qAj (qC5 rfl) rfl msu qC7 (pa1 (pv 1)))))))))),?_⟩;refine⟨_,rfl,_,rfl,o,os.map (λn:Nat=>(n:Int)),rfl,by rw[<-qCj];exact SqL.of ho,?_⟩;rw[qDb];refine⟨(by show 1<=sizeLine;decide),λl hl=>?_⟩;have n1:=Ext.new hl (.lst [iV os.sum]);refine⟨g,l,_,_,rfl,rfl,n1 _ _ hg,upd_same,?_,λr0 hr0=>?_⟩
 ·rw[hA1];exact hB9 (qAf (by show gs.length+1<=1000;omega))
 have n2:=n1.trans (Ext.new hr0 (.lst (gs.map iV++[iV os.sum])));refine⟨r0,(gs++[os.sum]).map (λn:Nat=>(n:Int)),rfl,?_,by rw[hA1,hAf];show gs.length+1<64;omega,λr ns hr' pm od=>?_⟩
 ·rw[<-qCj,hA4];exact SqL.of upd_same
 ·refine q r _ (n2.trans (Ext.new hr' _)) ?_;unfold LsN beF;rw[upd_same,qPm pm od]
noncomputable abbrev paN:List Str:=["steps","groups","own","some","inner","outer"]
theorem qEr:FnScope paN ["steps","groups"] (qAc qJ2):=fsk
theorem qL1(F:Fun K "parted" "parted" qJ2 f fd)(G1:v9 4 f1 fd1 ["steps","groups"] qM9 "share_masks")
  (G2:v9 4 f2 fd2 ["steps","many"] qSi "first_parting")
  (G3:v9 1 f3 fd3 ["steps","many"] qYx "kind_of")
  (G4:v9 1 f4 fd4 ["names","mask"] qYi "row_of")
  (G5:v9 1 f5 fd5 ["groups","others"] qO8 "beside")
  (bF:qOu K fd ["steps","groups"] []) (kF:PySem.W.keepIn K (.ref f)=true) (mF:mg "parted"=some (.ref f)) (ml:mg "len"=none):∀n:Nat,v8 (5+n) f fd ["steps","groups"] (qO4 n)
 |0=>by
  refine F.ok qEr (λvs H Q E h=>?_) (λcdv A outer s H vs Q E hr h=>?_)
  ·obtain⟨p,g,S,gs,w,rfl,_⟩:=h;rfl
  ·obtain⟨p,g,S,gs,w,rfl,_,_,_,_,_,l3,_,l2,_⟩:=h;omega
 |n+1=>by
  have ih:=qL1 F G1 G2 G3 G4 G5 bF kF mF ml n;refine F.ok (k:=5+n) qEr (λvs H Q E h=>?_) (λcdv A outer s H vs Q E hr h=>?_)
  ·obtain⟨p,g,S,gs,w,rfl,_⟩:=h;rfl
  obtain⟨p,g,S,gs,w,rfl,hp,hg,nz,lS,pt,l3,l12,ln,n10,q⟩:=h;have hr4:=hr.mono (j:=4) vG;have hr1:=hr.mono (j:=1) vG;refine⟨_,(qAa (v4 2 qEr (qAw G1 hr4 rfl .nil qAv (qAd (pv 0) (pa1 (pv 1))))) (qAa (v4 3 qEr (qAw G2 hr4 rfl .nil qAv (qAd (pv 2) (pa1 (qAj qAl rfl ml hAy (pa1 (pv 1))))))) (qAa (qBo (qAn qB8 (pv 3) qAb (qAu _)) (qAe (qAt (qA4 (pa1 (qA6 (qAd (qAw G3 hr1 rfl .nil qAv (qAd (pv 2) (pa1 (qAj qAl rfl ml hAy (pa1 (pv 1)))))) (pa1 (pv 1)))))))) qA1) (qAa (v6 4 qEr (qAw G4 hr1 rfl .nil qAv (qAd (pv 1) (pa1 (pv 3))))) (qAa (qDe (i:=5) (N:=paN) (sc:=qAc qJ2) (N':=["group","inner"]) (sub:=[none,some 4]) (qAp (pv 1)) (λC s H fp=>⟨qBk (qAn (show OpR _ (compareOp .NotIn) (rIn K true) from qCe) (pv 0) (pv 1) (by with_unfolding_all rfl)),pv 0⟩) qEr.nd rfl vE) (qAe (qAt (qAg qCi (qN4 ih hr rfl mF kF bF .nil qAv (qAd (pv 0) (pa1 (qAw G5 hr1 rfl .nil qAv (qAd (pv 4) (pa1 (pv 5))))))) (qN4 ih hr rfl mF kF bF .nil qAv (qAd (pv 0) (pa1 (qAw G5 hr1 rfl .nil qAv (qAd (pv 5) (pa1 (pv 4))))))))))))))),?_⟩;refine⟨_,rfl,_,rfl,p,g,S,gs,rfl,hp,hg,nz,lS,l12,λow H1 e1 ow0 how=>?_⟩;have lo:=qSk S gs;have lgi:(((gs.map iV).length:Nat):Int)=((gs.length:Nat):Int):=by rw[hA1]
  refine⟨_,rfl,_,rfl,g,_,rfl,.inl (SqL.of (e1 _ _ hg)),ow,gs.length,shF S gs,(by rw[lgi];rfl),by omega,l12,by omega,how,λH2 e2=>?_⟩;have E2:=e1.trans e2;have hg2:=E2 _ _ hg;refine⟨_,rfl,rfl,_,rfl,?_⟩;rw[show decide (iV (fpF (shF S gs) gs.length)=V.int 0)=decide (fpF (shF S gs) gs.length=0) from iv0 _];unfold paF at q;refine qBw (λc=>?_) (λc=>?_)
  ·rw[hEk (hEi c)]at q;refine⟨_,rfl,_,rfl,g,_,rfl,.inl (SqL.of hg2),ow,gs.length,shF S gs,(by rw[lgi];rfl),by omega,e2 _ _ how,?_⟩;refine⟨_,rfl,(by show 2<=sizeLine;decide),λT hT=>⟨(by show 1<=sizeLine;decide),λL hL=>?_⟩⟩;have X3:=Ext.new hT (.tup [V.str (kiF (shF S gs) gs.length),.ref g]);have X4:=Ext.new hL (.lst [V.ref T]);exact q L _ (E2.trans (X3.trans X4)) ⟨[T],upd_same,.cons ⟨g,X4 _ _ upd_same,(X3.trans X4) _ _ hg2⟩ .nil⟩
  have c':¬fpF (shF S gs) gs.length=0:=λz=>c (hEf z)
  rw[hEj c']at q;obtain⟨xl,s1,s2⟩:=qQf c';revert q xl s1 s2;generalize fpF (shF S gs) gs.length=x;intro q xl s1 s2;obtain⟨t1,t2,t3⟩:=qFi pt.nd xl s1 s2;have sp:=qC2 pt.nd x;refine⟨_,rfl,_,rfl,g,gs,x,rfl,hg2,l12,λi H3 e3 i0 hi=>?_⟩;have E3:=E2.trans e3;refine⟨_,rfl,g,rfl,⟨_,SqL.of (E3 _ _ hg)⟩,?_⟩;refine qBm (λz=>!decide (z∈rowI gs x)) (λz=>z) (E3 _ _ hg) vG (λz hz C B cc bb=>⟨sls,?_⟩) ?_
  ·refine⟨_,rfl,_,rfl,i,_,rfl,.inl (SqL.of hi),rfl,qDu _,_,rfl,?_⟩;rw[show(if true=true then !inV (iV z) ((rowI gs x).map iV) else inV (iV z) ((rowI gs x).map iV))=!decide (z∈rowI gs x) from congrArg (! ·) (qGl z _)];exact qBw (λc=>⟨_,rfl,cc c⟩) (λc=>bb (hDd _▸c))
  intro o ho;rw[hDq];have ho':upd H3 o (.lst ((outF gs (rowI gs x)).map iV)) o=some (.lst ((outF gs (rowI gs x)).map iV)):=upd_same;have X4:=Ext.new ho (.lst ((outF gs (rowI gs x)).map iV));have E4:=E3.trans X4;have hi4:=X4 _ _ hi;have hp4:=E4 _ _ hp;refine⟨_,rfl,_,rfl,_,rfl,i,o,rowI gs x,outF gs (rowI gs x),rfl,hi4,ho',by omega,λr1 H5 e5 hr1'=>?_⟩;have E5:=E4.trans e5;have pn:∀ {l:List Nat},2<=l.length->l≠[]:=λ{l} h z=>by rw[z]at h;exact absurd h (by decide)
  refine⟨p,r1,S,beF (rowI gs x) (outF gs (rowI gs x)),w,rfl,E5 _ _ hp,hr1',nz,lS,(pt.perm sp).beside (pn t2),by rw[qBv];omega,by rw[qBv];omega,by rw[qBv];omega,by omega,λL1 H6 e6 hL1=>?_⟩;have E6:=E5.trans e6;have X6:=e5.trans e6;refine⟨_,rfl,_,rfl,_,rfl,o,i,outF gs (rowI gs x),rowI gs x,rfl,X6 _ _ ho',X6 _ _ hi4,by omega,λr2 H7 e7 hr2'=>?_⟩;have E7:=E6.trans e7;refine⟨p,r2,S,beF (outF gs (rowI gs x)) (rowI gs x),w,rfl,E7 _ _ hp,hr2',nz,lS,(pt.perm (sp.trans hE9)).beside (pn t1),by rw[qBv];omega,by rw[qBv];omega,by rw[qBv];omega,by omega,λL2 H8 e8 hL2=>?_⟩;obtain⟨as1,ha1,pa1⟩:=hL1.ext (e7.trans e8);obtain⟨as2,ha2,pa2⟩:=id hL2;have la1:=pa1.length;have la2:=pa2.length;have lp1:=qKj S n (beF (rowI gs x) (outF gs (rowI gs x)));have lp2:=qKj S n (beF (outF gs (rowI gs x)) (rowI gs x));have p10:2^n<=2^10:=hBd (by decide) vG;refine⟨L1,L2,_,_,rfl,rfl,ha1,ha2,?_,λL hL=>?_⟩
  ·rw[hA1,hA1];exact hB9 (qHq vG)
  have X9:=Ext.new hL (.lst (as1.map V.ref++as2.map V.ref));refine q L _ (E7.trans (e8.trans X9)) ⟨as1++as2,by rw[upd_same,hA4],Paired.app (Paired.mapP pa1 λa x ⟨g,z1,z2⟩=>⟨g,X9 _ _ z1,X9 _ _ z2⟩) (Paired.mapP pa2 λa x ⟨g,z1,z2⟩=>⟨g,X9 _ _ z1,X9 _ _ z2⟩)⟩
end
theorem Pt.bit(h:Pt w gs)(i:Nat):w.testBit i=true↔∃g∈gs,g.testBit i=true:=by
 rw[<-h.su];exact qBi h.di i
theorem Pt.len(h:Pt w gs)(hw:w<2^n):gs.length<=n:=by
 have nd:(gs.map Nat.log2).Nodup:=by
  rw[List.Nodup,hBp];exact hBx (λ{a b} ha hb z e=>qBp z (hBo (h.nz a ha)) (by rw[e];exact hBo (h.nz b hb))) h.di
 have:=qP8 nd (m:=n) λx hx=>by
  obtain⟨g,hg,rfl⟩:=hAe.mp hx;exact qMu hw ((h.bit _).mpr ⟨g,hg,hBo (h.nz g hg)⟩)
 rw[hA1]at this;exact this
theorem qPv(h:g≠0):∃i,g.testBit i=true:=⟨_,hBo h⟩
theorem qV5{gs:List Nat}(nd:gs.Nodup)(l:3<=gs.length)(a b:Nat):∃c∈gs,c≠a/\c≠b:=by
 match gs,nd,l with
 |p :: q :: r :: t,nd,_ =>
  obtain⟨h1,h2⟩:=hBb.mp nd;obtain⟨h3,h4⟩:=hBb.mp h2;have pq:p≠q:=λz=>h1 (by rw[z];simp)
  have pr:p≠r:=λz=>h1 (by rw[z];simp)
  have qr:q≠r:=λz=>h3 (by rw[z];simp)
  by_cases hp:p≠a/\p≠b
  ·exact⟨p,by simp,hp⟩
  ·by_cases hq:q≠a/\q≠b
   ·exact⟨q,by simp,hq⟩
   ·exact⟨r,by simp,by omega,by omega⟩
theorem Pt.two{w:Nat}{gs:List Nat}(h:Pt w gs)(l:3<=gs.length){a b:Nat}(ha:a∈gs)(hb:b∈gs):a ||| b≠w:=λe=>by
 obtain⟨c,hc,n1,n2⟩:=qV5 h.nd l a b;obtain⟨i,hi⟩:=qPv (h.nz c hc);have:=(h.bit i).mpr ⟨c,hc,hi⟩;rw[<-e,hCi,hE5]at this;rcases this with z|z
 ·exact qBp (qEn h.di hc ha n1) hi z
 ·exact qBp (qEn h.di hc hb n2) hi z
theorem Pt.sub(h:Pt w gs)(hg:g∈gs)(hi:g.testBit i=true):w.testBit i=true:=(h.bit i).mpr ⟨g,hg,hi⟩
theorem qQs{w g i:Nat}(hs:∀i,g.testBit i=true->w.testBit i=true):(w^^^g).testBit i=true↔w.testBit i=true/\g.testBit i=false:=by
 rw[hAn];have:=hs i;cases h1:w.testBit i <;> cases h2:g.testBit i <;> simp_all
theorem xx(w g:Nat):w^^^(w^^^g)=g:=by rw[<-hBe,hBv,hBy]
def Spr(w:Nat)(a b:List Nat):Prop:=∃x∈a,∃y∈b,x ||| y=w
theorem Spr.symm(h:Spr w a b):Spr w b a:=by
 obtain⟨x,hx,y,hy,e⟩:=h;exact⟨y,hy,x,hx,by rw[Nat.or_comm];exact e⟩
structure Sh(w:Nat)(gs:List Nat):Prop where
 pt:Pt w gs
 l3:3<=gs.length
theorem Spr.no(h:Spr w a b)(ha:Sh w a)(hb:Sh w b)(h1:g∈a)(h2:g∈b):False:=by
 obtain⟨x,hx,y,hy,e⟩:=h;by_cases c:x=g
 ·subst c;exact hb.pt.two hb.l3 h2 hy e
 ·by_cases d:y=g
  ·subst d;exact ha.pt.two ha.l3 hx h1 e
  ·obtain⟨i,hi⟩:=qPv (ha.pt.nz g h1);have:=ha.pt.sub h1 hi;rw[<-e,hCi,hE5]at this;rcases this with z|z
   ·exact qBp (qEn ha.pt.di hx h1 c) z hi
   ·exact qBp (qEn hb.pt.di hy h2 d) z hi
theorem qVb{w:Nat}{a b:List Nat}(ha:Sh w a)(hb:Sh w b){g h:Nat}(hg:g∈a)(hg':w^^^g∈b)(hh:h∈a)(hh':w^^^h∈b):g=h:=by
 by_cases c:g=h
 ·exact c
 ·exfalso;obtain⟨k,hk,n1,n2⟩:=qV5 ha.pt.nd ha.l3 g h;obtain⟨i,hi⟩:=qPv (ha.pt.nz k hk);have wi:=ha.pt.sub hk hi;have f1:g.testBit i=false:=by
   cases q:g.testBit i with|false=>rfl|true=>exact(qBp (qEn ha.pt.di hk hg n1) hi q).elim
  have f2:h.testBit i=false:=by
   cases q:h.testBit i with|false=>rfl|true=>exact(qBp (qEn ha.pt.di hk hh n2) hi q).elim
  have e1:=(qQs λj=>ha.pt.sub hg).mpr ⟨wi,f1⟩;have e2:=(qQs λj=>ha.pt.sub hh).mpr ⟨wi,f2⟩;have ne:w^^^g≠w^^^h:=λz=>c (by rw[<-xx w g,z,xx])
  exact qBp (qEn hb.pt.di hg' hh' ne) e1 e2
noncomputable def keF(w:Nat)(a b:List Nat):List Nat:=a.filter λg=>!decide (w^^^g∈b)
noncomputable def meF(w:Nat)(a b:List Nat):List Nat:=(keF w a b++keF w b a).mergeSort λa b=>decide (b<=a)
theorem qD1(w:Nat)(a b:List Nat):(meF w a b).Perm (keF w a b++keF w b a):=hCu _ _
theorem qHg(ha:Sh w a)(hb:Sh w b)(hg:g∈a)(hg':w^^^g∈b):a.Perm (g :: keF w a b):=by
 refine(hC7 ha.pt.nd ?_).mpr λh=>?_
 ·rw[hBb];refine⟨λz=>?_,ha.pt.nd.filter _⟩;have:=(hAd.mp z).2;rw[hEf hg']at this;cases this
 ·rw[hAj];constructor
  ·intro z;by_cases c:w^^^h∈b
   ·exact .inl (qVb ha hb z c hg hg')
   ·exact .inr (hAd.mpr ⟨z,by rw[hEg c];rfl⟩)
  ·rintro(z|z)
   ·rw[z];exact hg
   ·exact(hAd.mp z).1
theorem zEm{w:Nat}{a b:List Nat}(ha:Sh w a)(hb:Sh w b){g:Nat}(hg:g∈a)(hg':w^^^g∈b):Sh w (meF w a b):=by
 have pa:=qHg ha hb hg hg';have pb:=qHg hb ha hg' (by rw[xx];exact hg);have d1:=ha.pt.di.perm pa;have d2:=hb.pt.di.perm pb;obtain⟨a1,a2⟩:=hAs.mp d1;obtain⟨b1,b2⟩:=hAs.mp d2;have s1:=pa.sum_nat;have s2:=pb.sum_nat;have l1:=pa.length_eq;have l2:=pb.length_eq;rw[hCy,ha.pt.su]at s1;rw[hCy,hb.pt.su]at s2;rw[hC9]at l1 l2;have gs:∀i,g.testBit i=true->w.testBit i=true:=λi=>ha.pt.sub hg
 have sg:g+(w^^^g)=w:=by
  rw[qOt _ _ _ (hA9 _) (qEo λi h1 h2=>by rw[((qQs gs).mp h2).2]at h1;cases h1)];refine hAh λi=>?_
  rw[hCi,hAn];have:=gs i;cases h1:w.testBit i <;> cases h2:g.testBit i
  ·rfl
  ·rw[this h2]at h1;cases h1
  ·rfl
  ·rfl
 have k3:=ha.l3;have k4:=hb.l3;refine⟨Pt.perm ⟨λh hh=>?_,hBh.mpr ⟨a2,b2,λx hx y hy=>?_⟩,?_⟩ (qD1 w a b).symm,?_⟩
 ·rcases hAb.mp hh with z|z
  ·exact ha.pt.nz h (hAd.mp z).1
  ·exact hb.pt.nz h (hAd.mp z).1
 ·refine qEo λi h1 h2=>?_
  have wi:=ha.pt.sub (hAd.mp hx).1 h1;have f1:g.testBit i=false:=by
   cases q:g.testBit i with|false=>rfl|true=>exact(qBp (a1 x hx) q h1).elim
  exact qBp (b1 y hy) ((qQs gs).mpr ⟨wi,f1⟩) h2
 ·rw[hDh];omega
 ·rw[(qD1 w a b).length_eq,hAf];omega
theorem zCb(ha:Sh w a)(hb:Sh w b)(ht:Sh w t)(h1:Spr w a t)(h2:Spr w b t):Spr w (meF w a b) t:=by
 obtain⟨x,hx,y,hy,e⟩:=h1;obtain⟨x',hx',y',hy',e'⟩:=h2;by_cases c:w^^^x∈b
 ·by_cases c':w^^^x'∈a
  ·exfalso;have ex:w^^^x'=x:=qVb ha hb c' (by rw[xx];exact hx') hx c;refine ht.pt.two ht.l3 hy hy' (hAh λi=>?_);have wy:∀ {z j:Nat},z∈t->z.testBit j=true->w.testBit j=true:=λ{z j}=>ht.pt.sub
   rw[hCi];cases hw:w.testBit i with
   |false =>
    cases q1:y.testBit i with
    |true=>rw[wy hy q1]at hw;cases hw
    |false =>
     cases q2:y'.testBit i with
     |true=>rw[wy hy' q2]at hw;cases hw
     |false=>rfl
   |true =>
    have b1:=congrArg (λz=>Nat.testBit z i) e;have b2:=congrArg (λz=>Nat.testBit z i) e';simp only[hCi,hw]at b1 b2;cases q1:x.testBit i with
    |false=>rw[q1,Bool.false_or]at b1;rw[b1];rfl
    |true =>
     have q2:x'.testBit i=false:=by
      rw[<-ex,hAn,hw]at q1;cases q:x'.testBit i with|false=>rfl|true=>rw[q]at q1;cases q1
     rw[q2,Bool.false_or]at b2;rw[b2];cases y.testBit i <;> rfl
  ·exact⟨x',(qD1 w a b).mem_iff.mpr (hA7 _ (hAd.mpr ⟨hx',by rw[hEg c'];rfl⟩)),y',hy',e'⟩
 ·exact⟨x,(qD1 w a b).mem_iff.mpr (hAg _ (hAd.mpr ⟨hx,by rw[hEg c];rfl⟩)),y,hy,e⟩
def Cz(gs s:List Nat):Prop:=∀g∈gs,∃h∈s,∀i,g.testBit i=true->h.testBit i=true
structure PsI(w:Nat)(gs:List Nat)(L:List (Str×List Nat)):Prop where
 sh:∀e∈L,Sh w e.2
 kd:∀e∈L,e.1 = "ring"\/e.1 = "bundle"\/e.1 = "whole"
 cz:∀e∈L,Cz gs e.2
 ap:L.Pairwise λa b=>Spr w a.2 b.2
theorem zEp(S:List Nat)(m:Nat):kiF S m = "ring"\/kiF S m = "bundle"\/kiF S m = "whole":=by
 unfold kiF;split
 ·exact .inl rfl
 ·split
  ·exact .inr (.inl rfl)
  ·exact .inr (.inr rfl)
theorem qKl(S:List Nat):∀(k:Nat) {gs:List Nat},Sh w gs->gs.length<=k+2->PsI w gs (paF S k gs)
 |0,gs,h,l=>absurd h.l3 vG
 |k+1,gs,h,l=>by
  unfold paF;split
  ·refine⟨λe he=>?_,λe he=>?_,λe he=>?_,hBz _ _⟩
   ·rw[hA3.mp he];exact h
   ·rw[hA3.mp he];exact zEp _ _
   ·rw[hA3.mp he];exact λg hg=>⟨g,hg,λ_ z=>z⟩
  ·rename_i c;obtain⟨xl,s1,s2⟩:=qQf c;revert xl s1 s2;generalize fpF (shF S gs) gs.length=x;intro xl s1 s2;obtain⟨t1,t2,t3⟩:=qFi h.pt.nd xl s1 s2;have sp:=qC2 h.pt.nd x;revert t1 t2 t3 sp;generalize outF gs (rowI gs x)=out;generalize rowI gs x=inn;intro t1 t2 t3 sp;have pn:∀ {l:List Nat},2<=l.length->l≠[]:=λ{l} h z=>by rw[z]at h;exact absurd h (by decide)
   have P1:=h.pt.perm sp;have P2:=h.pt.perm (sp.trans hE9);have A:=qKl (w:=w) S k (gs:=beF inn out) ⟨P1.beside (pn t2),by rw[qBv];omega⟩ (by rw[qBv];omega);have B:=qKl (w:=w) S k (gs:=beF out inn) ⟨P2.beside (pn t1),by rw[qBv];omega⟩ (by rw[qBv];omega);obtain⟨d1,d2,d3⟩:=hBh.mp P1.di;have co:∀ {a b:List Nat},Dis b->(∀g∈gs,g∈a\/g∈b)->∀ {s:List Nat},Cz (beF a b) s->Cz gs s:=λ{a b} db cov {s} cz g hg=>by
    rcases cov g hg with z|z
    ·exact cz g ((qD6 a b).mem_iff.mpr (hAg _ z))
    ·obtain⟨h',hh,hi⟩:=cz b.sum ((qD6 a b).mem_iff.mpr (hA7 _ (hA3.mpr rfl)));exact⟨h',hh,λi q=>hi i ((qBi db i).mpr ⟨g,z,q⟩)⟩
   refine⟨λe he=>?_,λe he=>?_,λe he=>?_,hBh.mpr ⟨A.ap,B.ap,λs hs t ht=>?_⟩⟩
   ·rcases hAb.mp he with z|z
    ·exact A.sh e z
    ·exact B.sh e z
   ·rcases hAb.mp he with z|z
    ·exact A.kd e z
    ·exact B.kd e z
   ·rcases hAb.mp he with z|z
    ·exact co d2 (λg hg=>hAb.mp (sp.mem_iff.mp hg)) (A.cz e z)
    ·exact co d1 (λg hg=>(hAb.mp (sp.mem_iff.mp hg)).symm) (B.cz e z)
   ·obtain⟨u,hu,iu⟩:=A.cz s hs out.sum ((qD6 inn out).mem_iff.mpr (hA7 _ (hA3.mpr rfl)));obtain⟨v,hv,iv⟩:=B.cz t ht inn.sum ((qD6 out inn).mem_iff.mpr (hA7 _ (hA3.mpr rfl)));refine⟨u,hu,v,hv,hAh λi=>?_⟩;rw[hCi];cases hw:w.testBit i with
    |false =>
     cases q1:u.testBit i with
     |true=>rw[(A.sh s hs).pt.sub hu q1]at hw;cases hw
     |false =>
      cases q2:v.testBit i with
      |true=>rw[(B.sh t ht).pt.sub hv q2]at hw;cases hw
      |false=>rfl
    |true =>
     obtain⟨g,hg,gi⟩:=(h.pt.bit i).mp hw;rcases hAb.mp (sp.mem_iff.mp hg) with z|z
     ·rw[iv i ((qBi d1 i).mpr ⟨g,z,gi⟩)];cases u.testBit i <;> rfl
     ·rw[iu i ((qBi d2 i).mpr ⟨g,z,gi⟩)];rfl
end My
namespace L2
open PySem PySem.Spec PyProof.Rows PySem.SeqAt
def qTa(K:PySem.W.Frag):R2:=λx y H Q=>∃ds d,DR K H y (.list ds)/\DR K H x d/\shaped (.list ds)=true/\shaped d=true/\Q (.bl (!ds.any λz=>PyData.eqv z d)) H
theorem qTj{X:Cx}(hu:X.A.units+65<cLine):OpR X (compareOp .NotIn) (qTa X.K):=by
 intro aB s σ H x y v u Q I rx ry h;obtain⟨ds,d,hy,hx,sy,sx,q⟩:=h;obtain⟨a1,r1⟩:=DR.reads I hx rx;obtain⟨a2,r2⟩:=DR.reads I hy ry;exact notIn_list_reads r2 r1 (hFi sy) (hFi sx) (room_in_shaped sx hu) ⟨.bl _,H,I,rfl,q⟩
end L2
namespace My
open PySem L2
abbrev PE1:=Str×List Nat
noncomputable def mtB(w:Nat)(a b:PE1):Bool:=if a.1≠b.1\/a.1 = "whole" then false else a.2.any λg=>decide (w^^^g∈b.2)
theorem qP1{w:Nat}{a b:PE1}(h:mtB w a b=true):∃g∈a.2,w^^^g∈b.2:=by
 unfold mtB at h;split at h
 ·cases h
 ·obtain⟨g,hg,z⟩:=hEc.mp h;exact⟨g,hg,hEi z⟩
noncomputable def mtsF(w:Nat)(told:List PE1)(e:PE1):List PE1:=told.filter λt=>mtB w t e
noncomputable def rsF(w:Nat)(told:List PE1)(e:PE1):List PE1:=told.filter λt=>!decide (t∈mtsF w told e)
noncomputable def foF(w:Nat)(ms:List PE1)(gs:List Nat):List Nat:=ms.foldl (λg m=>meF w m.2 g) gs
def joS(w:Nat)(told:List PE1)(e:PE1):List PE1:=rsF w told e++[(e.1,foF w (mtsF w told e) e.2)]
noncomputable def joF(w:Nat)(ps:List PE1):List PE1:=ps.foldl (joS w) []
theorem qHh(w:Nat)(ps:List PE1)(e:PE1):joF w (ps++[e])=joS w (joF w ps) e:=by unfold joF;rw[hBt];rfl
structure MI(w:Nat)(ms:List PE1)(gs:List Nat)(ts:List (List Nat)):Prop where
 sh:Sh w gs
 sm:∀m∈ms,Sh w m.2
 co:∀m∈ms,∃g∈m.2,w^^^g∈gs
 ap:ms.Pairwise λa b=>Spr w a.2 b.2
 st:∀t∈ts,Sh w t
 gt:∀t∈ts,Spr w gs t
 mt:∀m∈ms,∀t∈ts,Spr w m.2 t
theorem MI.step{w:Nat}{m:PE1}{ms:List PE1}{gs:List Nat}{ts:List (List Nat)}(h:MI w (m :: ms) gs ts):MI w ms (meF w m.2 gs) ts:=by
 obtain⟨a1,a2⟩:=hAs.mp h.ap;have hm:=h.sm m hA8;obtain⟨g,hg,hg'⟩:=h.co m hA8;refine⟨zEm hm h.sh hg hg',λn hn=>h.sm n (hA6 _ hn),λn hn=>?_,a2,h.st,λt ht=>zCb hm h.sh (h.st t ht) (h.mt m hA8 t ht) (h.gt t ht),λn hn t ht=>h.mt n (hA6 _ hn) t ht⟩;obtain⟨k,hk,hk'⟩:=h.co n (hA6 _ hn);refine⟨k,hk,(qD1 w m.2 gs).mem_iff.mpr (hA7 _ (hAd.mpr ⟨hk',?_⟩))⟩;rw[xx,hEg λz=>(a1 n hn).no hm (h.sm n (hA6 _ hn)) z hk];rfl
theorem MI.all{w:Nat}{ts:List (List Nat)}:∀ {ms:List PE1} {gs:List Nat},MI w ms gs ts->MI w [] (foF w ms gs) ts
 |[],_,h=>h
 |m :: ms,gs,h=>MI.all (ms:=ms) (gs:=meF w m.2 gs) h.step
structure JI(w:Nat)(told rest:List PE1):Prop where
 sh:∀e∈told++rest,Sh w e.2
 kd:∀e∈told++rest,e.1 = "ring"\/e.1 = "bundle"\/e.1 = "whole"
 ap:(told++rest).Pairwise λa b=>Spr w a.2 b.2
theorem qW6{α:Type}{R:α->α->Prop}(sy:∀ {a b},R a b->R b a):∀ {l:List α},l.Pairwise R->∀ {a b:α},a∈l->b∈l->a≠b->R a b
 |h :: l,d,a,b,ha,hb,ne=>by
  obtain⟨d1,d2⟩:=hAs.mp d;rcases hAj.mp ha with z1|z1
  ·rcases hAj.mp hb with z2|z2
   ·exact(ne (z1.trans z2.symm)).elim
   ·rw[z1];exact d1 b z2
  ·rcases hAj.mp hb with z2|z2
   ·rw[z2];exact sy (d1 a z1)
   ·exact qW6 sy d2 z1 z2 ne
theorem qD7{w:Nat}{told:List PE1}{e t:PE1}(h:t∈rsF w told e):t∈told/\t∉mtsF w told e:=by
 obtain⟨h1,h2⟩:=hAd.mp h;exact⟨h1,λz=>by rw[hEf z]at h2;cases h2⟩
theorem JI.mi{w:Nat}{told rest:List PE1}{e:PE1}(h:JI w told (e :: rest)):MI w (mtsF w told e) e.2 ((rsF w told e++rest).map (·.2)):=by
 obtain⟨a1,a2,a3⟩:=hBh.mp h.ap;obtain⟨b1,b2⟩:=hAs.mp a2;have mm:∀ {m:PE1},m∈mtsF w told e->m∈told:=λ{m} hm=>(hAd.mp hm).1
 refine⟨h.sh e (hA7 _ hA8),λm hm=>h.sh m (hAg _ (mm hm)),λm hm=>qP1 (hAd.mp hm).2,a1.filter _,λt ht=>?_,λt ht=>?_,λm hm t ht=>?_⟩
 ·obtain⟨u,hu,rfl⟩:=hAe.mp ht;rcases hAb.mp hu with z|z
  ·exact h.sh u (hAg _ (qD7 z).1)
  ·exact h.sh u (hA7 _ (hA6 _ z))
 ·obtain⟨u,hu,rfl⟩:=hAe.mp ht;rcases hAb.mp hu with z|z
  ·exact(a3 u (qD7 z).1 e hA8).symm
  ·exact b1 u z
 ·obtain⟨u,hu,rfl⟩:=hAe.mp ht;rcases hAb.mp hu with z|z
  ·exact qW6 (R:=λa b:PE1=>Spr w a.2 b.2) (λ{a b} q=>q.symm) a1 (mm hm) (qD7 z).1 (λq=>(qD7 z).2 (by rw[<-q];exact hm))
  ·exact a3 m (mm hm) u (hA6 _ z)
theorem JI.step{w:Nat}{told rest:List PE1}{e:PE1}(h:JI w told (e :: rest)):JI w (joS w told e) rest:=by
 have M:=h.mi.all;obtain⟨a1,a2,a3⟩:=hBh.mp h.ap;obtain⟨b1,b2⟩:=hAs.mp a2;have cs:∀u∈joS w told e++rest,u∈rsF w told e\/u=(e.1,foF w (mtsF w told e) e.2)\/u∈rest:=λu hu=>by
  rcases hAb.mp hu with z|z
  ·rcases hAb.mp z with y|y
   ·exact .inl y
   ·exact .inr (.inl (hA3.mp y))
  ·exact .inr (.inr z)
 refine⟨λu hu=>?_,λu hu=>?_,?_⟩
 ·rcases cs u hu with z|z|z
  ·exact h.sh u (hAg _ (qD7 z).1)
  ·rw[z];exact M.sh
  ·exact h.sh u (hA7 _ (hA6 _ z))
 ·rcases cs u hu with z|z|z
  ·exact h.kd u (hAg _ (qD7 z).1)
  ·rw[z];exact h.kd e (hA7 _ hA8)
  ·exact h.kd u (hA7 _ (hA6 _ z))
 ·unfold joS;rw[List.append_assoc];refine hBh.mpr ⟨a1.filter _,hAs.mpr ⟨λt ht=>M.gt t.2 (hAe.mpr ⟨t,hA7 _ ht,rfl⟩),b2⟩,λu hu t ht=>?_⟩;rcases hAj.mp ht with z|z
  ·rw[z];exact(M.gt u.2 (hAe.mpr ⟨u,hAg _ hu,rfl⟩)).symm
  ·exact a3 u (qD7 hu).1 t (hA6 _ z)
theorem JI.all{w:Nat}{ps:List PE1}(h:JI w [] ps):∀i,JI w (joF w (ps.take i)) (ps.drop i)
 |0=>h
 |i+1=>by
  have ih:=JI.all h i;cases hi:ps[i]? with
  |none =>
   have l:ps.length<=i:=List.getElem?_eq_none_iff.mp hi;rw[hDj l]at ih;rw[hA5 l]at ih;rw[hA5 vG,hDj vG];exact ih
  |some e =>
   have hl:=qAx hi;have ee:ps[i]=e:=by have:=hA2 hl;rw[hi]at this;exact(hAq this).symm
   rw[hCs hl,ee]at ih;rw[qAh hi,qHh];exact ih.step
theorem PsI.ji{w:Nat}{gs:List Nat}{L:List PE1}(h:PsI w gs L):JI w [] L:=⟨h.sh,h.kd,h.ap⟩
noncomputable def qDq(e:PE1):PyData:=.tuple [.str e.1,.list (e.2.map λn:Nat=>PyData.int (n:Int))]
theorem qKz:∀a b:List Nat,PyData.eqvAll (a.map λn:Nat=>PyData.int (n:Int)) (b.map λn:Nat=>PyData.int (n:Int))=decide (a=b)
 |[],[]=>rfl
 |[],_ :: _=>rfl
 |_ :: _,[]=>rfl
 |x :: a,y :: b=>by
  show(((x:Int) == (y:Int)) && PyData.eqvAll (a.map λn:Nat=>PyData.int (n:Int)) (b.map λn:Nat=>PyData.int (n:Int)))=_;rw[qKz a b];by_cases e:x=y
  ·subst e;simp
  ·have e':¬((x:Int)=(y:Int)):=λz=>e vG
   rw[show((x:Int) == (y:Int))=false from beq_eq_false_iff_ne.mpr e',hEg (λz=>e (List.cons.inj z).1)];rfl
theorem qQl(a b:PE1):PyData.eqv (qDq a) (qDq b)=decide (a=b):=by
 show(a.1 == b.1 && (PyData.eqvAll (a.2.map λn:Nat=>PyData.int (n:Int)) (b.2.map λn:Nat=>PyData.int (n:Int)) && true))=_;rw[qKz,Bool.and_true];obtain⟨a1,a2⟩:=a;obtain⟨b1,b2⟩:=b;by_cases e:a1=b1
 ·by_cases e2:a2=b2
  ·subst e e2;simp
  ·simp[e,e2]
 ·simp[e]
theorem zEv{k:Str}(h:k = "ring"\/k = "bundle"\/k = "whole"):PyData.strOk k=true:=by
 rcases h with rfl|rfl|rfl <;> decide +kernel
theorem qL9:∀ {L:List PE1},(∀e∈L,e.1 = "ring"\/e.1 = "bundle"\/e.1 = "whole")->PyData.canLayAll0 (L.map qDq)=true/\PyData.depthAll (L.map qDq)<=2
 |[],_=>⟨rfl,hAt _⟩
 |e :: L,h=>by
  obtain⟨h1,h2⟩:=qL9 (L:=L) λx hx=>h x (hA6 _ hx)
  obtain⟨i1,i2⟩:=qHf e.2;have ks:=zEv (h e hA8);refine⟨?_,?_⟩
  ·show((PyData.strOk e.1 && (PyData.canLayAll0 (e.2.map λn:Nat=>PyData.int (n:Int)) && true)) && PyData.canLayAll0 (L.map qDq))=true;rw[ks,i1,h1];rfl
  ·show max (max 0 (max (PyData.depthAll (e.2.map λn:Nat=>PyData.int (n:Int))+1) 0)+1) (PyData.depthAll (L.map qDq))<=2;rw[i2];omega
theorem qLi{L:List PE1}(h:∀e∈L,e.1 = "ring"\/e.1 = "bundle"\/e.1 = "whole"):SeqAt.shaped (.list (L.map qDq))=true:=by
 obtain⟨h3,h4⟩:=qL9 h;show(PyData.canLayAll0 (L.map qDq) && decide (PyData.depthAll (L.map qDq)+1<=64))=true;rw[h3,hEf vG];rfl
theorem qNi{e:PE1}(h:e.1 = "ring"\/e.1 = "bundle"\/e.1 = "whole"):SeqAt.shaped (qDq e)=true:=by
 obtain⟨i1,i2⟩:=qHf e.2;show((PyData.strOk e.1 && (PyData.canLayAll0 (e.2.map λn:Nat=>PyData.int (n:Int)) && true)) && decide (max 0 (max (PyData.depthAll (e.2.map λn:Nat=>PyData.int (n:Int))+1) 0)+1<=64))=true;rw[zEv h,i1,i2];rfl
def PtE(H:Hp)(a:Addr)(e:PE1):Prop:=∃g,H a=some (.tup [.str e.1,.ref g])/\LsN H g e.2
theorem PtE.ext{H H':Hp}{a:Addr}{e:PE1}(h:PtE H a e)(x:Ext H H'):PtE H' a e:=by
 obtain⟨g,h1,h2⟩:=h;exact⟨g,x _ _ h1,x _ _ h2⟩
theorem qUw{K:PySem.W.Frag}{H:Hp}{a:Addr}{e:PE1}(h:PtE H a e):DR K H (.ref a) (qDq e):=by
 obtain⟨g,h1,h2⟩:=h;exact .tup (SqT.of h1) (.cons (.str _) (.cons (.lst (SqL.of h2) (qIn _)) .nil))
theorem qMi{K:PySem.W.Frag}{H:Hp}:∀ {as:List Addr} {L:List PE1},Paired (PtE H) as L->DRs K H (as.map V.ref) (L.map qDq)
 |_,_,.nil=>.nil
 |_,_,.cons a b=>.cons (qUw a) (qMi b)
def qR9:Sp:=λvs H Q _=>∃(a b:Addr) (e1 e2:PE1) (w:Nat),vs=[.ref a,.ref b,iV w]/\PtE H a e1/\PtE H b e2/\e1.2.length<=12/\∀H',Ext H H'->Q (.bl (mtB w e1 e2)) H'
def qO5:Sp:=λvs H Q _=>∃(a b:Addr) (g1 g2:List Nat) (w:Nat),vs=[.ref a,.ref b,iV w]/\LsN H a g1/\LsN H b g2/\g1.length<=12/\g2.length<=12/\∀r H',Ext H H'->H r=none->LsN H' r (meF w g1 g2)->Q (.ref r) H'
def qO7:Sp:=λvs H Q _=>∃(fo:Addr) (ps:List PE1) (w n:Nat),vs=[.ref fo,iV w]/\PtL H fo ps/\JI w [] ps/\w<2^n/\n<=12/\ps.length<=2000/\∀L H',Ext H H'->PtL H' L (joF w ps)->Q (.ref L) H'
theorem qVo:bootBuiltins "any"=some (.builtin "any"):=by decide +kernel
theorem qY5(hr:Room k A):A.units+65<cLine:=by have:=hr.un;omega
theorem zE6(p:α->Bool)(t:α):[t].filter p=if p t=true then [t] else []:=by
 by_cases c:p t=true
 ·rw[hEk c,hCo c];rfl
 ·rw[hEj c,hCp c];rfl
theorem qOd(w:Nat):∀(told ps:List PE1),(ps.foldl (joS w) told).length<=told.length+ps.length
 |told,[]=>hA9 _
 |told,e :: ps=>by
  have h:=qOd w (joS w told e) ps;have h2:(joS w told e).length<=told.length+1:=by
   unfold joS rsF;rw[hAf];exact hD0 (hAz _ _)
  show(ps.foldl (joS w) (joS w told e)).length<=told.length+(ps.length+1);omega
section
variable{P:Program}{w:World}{K:PySem.W.Frag}{mg:Str->Option Value}{base:Heap}{f f1 f2 f3 f4 f5:Addr}{fd fd1 fd2 fd3 fd4 fd5:FuncData}
noncomputable abbrev mtN:List Str:=["one","other","whole"]
theorem zAk:FnScope mtN ["one","other","whole"] (qAc qPj):=fsk
theorem qXe(F:Fun K "are_mates" "are_mates" qPj f fd)(man:mg "any"=none):v8 1 f fd ["one","other","whole"] qR9:=by
 refine F.okA zAk λcdv A outer s H vs Q E hr h=>?_
 obtain⟨a,b,⟨k1,g1⟩,⟨k2,g2⟩,w,rfl,⟨ga,ha,hga⟩,⟨gb,hb,hgb⟩,l1,q⟩:=h;have l1:g1.length<=12:=l1;refine⟨_,(qAa (qBo (PW.pt (qN0 (qAn qFr (qBe qBq (pv 0) qAb (λ_ _=>rfl)) (qBe qBq (pv 1) qAb (λ_ _=>rfl)) (qAu _)) (qLs (qAn qB8 (qBe qBq (pv 0) qAb (λ_ _=>rfl)) qCv (qAu _))))) (qAe (qAt qG3)) qA1) (qAe (qAt (qAj (qVi rfl) rfl man qVo (pa1 (qA8 (N:=mtN) (sc:=qAc qPj) (N':=["group","whole","other"]) (sub:=[none,some 2,some 1]) (qAp (qBe qBq (pv 0) qAb (λ_ _=>rfl))) (λC s H fp=>⟨qAz,qDl (show OpR _ (compareOp .In) (rIn K false) from qDs) (qAg qDr (pv 1) (pv 0)) (qBe (show IxR _ (qNz K) from qBq) (pv 2) qAb (λ_ _=>rfl)) (by with_unfolding_all rfl)⟩))))))),?_⟩;have q':=q H (Ext.refl _);unfold mtB at q q';have at0:∀ {x:Str} {y:Addr},atI [V.str x,V.ref y] 0=some (V.str x):=λ{x y}=>qA0 (j:=0) rfl
 refine⟨_,rfl,a,_,_,_,rfl,rfl,SqT.of ha,at0,_,rfl,b,_,_,_,rfl,rfl,SqT.of hb,at0,rfl,_,rfl,?_⟩;rw[show(!decide (V.str k1=V.str k2))=decide (k1≠k2) by
  by_cases e:k1=k2
  ·rw[hEf (by rw[e]),hEg (λz=>z e)];rfl
  ·rw[hEg (λz=>e (V.str.inj z)),hEf e];rfl]
 refine qBw (λc=>?_) (λc=>?_)
 ·rw[hEk (.inl (hEi c))]at q';exact q'
 have c':k1=k2:=by
  by_cases e:k1=k2
  ·exact e
  ·exact absurd (hEf e) c
 refine⟨_,rfl,a,_,_,_,rfl,rfl,SqT.of ha,at0,rfl,_,rfl,?_⟩;rw[show(decide (V.str k1=V.str "whole"))=decide (k1 = "whole") from decide_eq_decide.mpr ⟨λz=>V.str.inj z,λz=>by rw[z]⟩];refine qBw (λd=>?_) (λd=>?_)
 ·rw[hEk (.inr (hEi d))]at q';exact q'
 have d':¬(k1≠k2\/k1 = "whole"):=λz=>by
  rcases z with z|z
  ·exact z c'
  ·exact d (hEf z)
 rw[hEj d']at q;refine⟨_,rfl,a,_,_,_,rfl,rfl,SqT.of ha,qA0 (j:=1) rfl,ga,rfl,⟨_,SqL.of hga⟩,?_⟩;refine qAq (xs:=g1.map iV) (λi ys H'=>H'=H/\ys=((g1.take i).map λg=>decide (w^^^g∈g2)).map V.bl) ⟨rfl,rfl⟩ (λi ys H' _ h=>by rw[h.1];exact SqL.of hga) ?_ ?_
 ·rintro i v ys H' hx ⟨rfl,rfl⟩;obtain⟨x,rfl,hx'⟩:=qB2 hx;have hi:=qAx hx';refine⟨sls,iteT (B:=False) ?_⟩;refine⟨_,rfl,_,rfl,_,_,rfl,rfl,_,rfl,b,_,_,_,rfl,rfl,SqT.of hb,qA0 (j:=1) rfl,gb,_,rfl,.inl (SqL.of hgb),rfl,qDu _,?_⟩;rw[show(if false=true then !inV (V.int (Builtin.bitXor (w:Int) (x:Int))) (g2.map iV) else inV (V.int (Builtin.bitXor (w:Int) (x:Int))) (g2.map iV))=decide (w^^^x∈g2) by rw[qCk];exact qGl _ _];refine⟨by rw[hA1,hA1,hAm];exact qAf vG,nxt (qAx hx) ⟨rfl,?_⟩⟩;rw[qAh hx',hA4,hA4];rfl
 ·rintro ys H' ⟨rfl,rfl⟩ l hl;rw[hA1,hA5 (hA9 _)];refine⟨l,g1.map (λg=>decide (w^^^g∈g2)),rfl,SqL.of upd_same,?_⟩;rw[show(g1.map λg=>decide (w^^^g∈g2)).any id=g1.any λg=>decide (w^^^g∈g2) by rw[List.any_map];rfl];exact q _ (Ext.new hl _)
noncomputable abbrev meN:List Str:=["one","other","whole","kept"]
theorem qPd:FnScope meN ["one","other","whole"] (qAc qHv):=fsk
theorem qTo(F:Fun K "melded" "melded" qHv f fd)(mso:mg "sorted"=none):v8 1 f fd ["one","other","whole"] qO5:=by
 refine F.okA qPd λcdv A outer s H vs Q E hr h=>?_
 obtain⟨a,b,g1,g2,w,rfl,ha,hb,l1,l2,q⟩:=h;refine⟨_,(qAa (qDe (i:=3) (N:=meN) (sc:=qAc qHv) (N':=["group","whole","other"]) (sub:=[none,some 2,some 1]) (qAp (pv 0)) (λC s H fp=>⟨qBk (qAn (show OpR _ (compareOp .NotIn) (rIn K true) from qCe) (qAg qDr (pv 1) (pv 0)) (pv 2) (by with_unfolding_all rfl)),pv 0⟩) qPd.nd rfl vE) (qAe (qAt (qGe rfl mso (pa1 (qAg qCi (pv 3) (qA8 (N:=meN) (sc:=qAc qHv) (N':=["group","whole","one"]) (sub:=[none,some 2,some 0]) (qAp (pv 1)) (λC s H fp=>⟨qBk (qAn (show OpR _ (compareOp .NotIn) (rIn K true) from qCe) (qAg qDr (pv 1) (pv 0)) (pv 2) (by with_unfolding_all rfl)),pv 0⟩)))))))),?_⟩;have key:∀(z:Nat) (g:List Nat),(if true=true then !inV (V.int (Builtin.bitXor (w:Int) (z:Int))) (g.map iV) else inV (V.int (Builtin.bitXor (w:Int) (z:Int))) (g.map iV))=!decide (w^^^z∈g):=λz g=>by
  rw[qCk];exact congrArg (! ·) (qGl _ _)
 refine⟨_,rfl,a,rfl,⟨_,SqL.of ha⟩,?_⟩;refine qBm (λz=>!decide (w^^^z∈g2)) (λz=>z) ha vG (λz hz C B cc bb=>⟨sls,?_⟩) ?_
 ·refine⟨_,rfl,_,rfl,_,_,rfl,rfl,_,rfl,b,_,rfl,.inl (SqL.of hb),rfl,qDu _,_,rfl,?_⟩;rw[key z g2];exact qBw (λc=>⟨_,rfl,cc c⟩) (λc=>bb (hDd _▸c))
 intro k hk;rw[hDq];have X1:=Ext.new hk (.lst ((keF w g1 g2).map iV));refine⟨_,rfl,_,rfl,b,rfl,⟨_,SqL.of (X1 _ _ hb)⟩,?_⟩;refine qBm (λz=>!decide (w^^^z∈g1)) (λz=>z) (X1 _ _ hb) vG (λz hz C B cc bb=>⟨sls,?_⟩) ?_
 ·refine⟨_,rfl,_,rfl,_,_,rfl,rfl,_,rfl,a,_,rfl,.inl (SqL.of (X1 _ _ ha)),rfl,qDu _,_,rfl,?_⟩;rw[key z g1];exact qBw (λc=>⟨_,rfl,cc c⟩) (λc=>bb (hDd _▸c))
 intro k2 hk2;rw[hDq];have Y2:=Ext.new hk2 (.lst ((keF w g2 g1).map iV));have X2:=X1.trans Y2;have s1:(keF w g1 g2).length<=12:=hAw (hAz _ _) l1;have s2:(keF w g2 g1).length<=12:=hAw (hAz _ _) l2;refine⟨k,k2,_,_,rfl,rfl,Y2 _ _ upd_same,upd_same,?_,λr0 hr0=>?_⟩
 ·show((keF w g1 g2).map iV).length+((keF w g2 g1).map iV).length<=_;rw[hA1,hA1];exact hB9 (qAf vG)
 have X3:=X2.trans (Ext.new hr0 (.lst ((keF w g1 g2).map iV++(keF w g2 g1).map iV)));refine⟨r0,(keF w g1 g2++keF w g2 g1).map (λn:Nat=>(n:Int)),rfl,?_,by rw[hA1,hAf];omega,λr ns hr' pm od=>?_⟩
 ·rw[<-qCj,hA4];exact SqL.of upd_same
 ·refine q r _ (X3.trans (Ext.new hr' _)) (X3.none hr') ?_;unfold LsN meF;rw[upd_same,qPm pm od]
noncomputable abbrev joN:List Str:=["found","whole","told","kind","groups","mates","mate"]
theorem qDd:FnScope joN ["found","whole"] (qAc qHw):=fsk
theorem qTp(F:Fun K "joined" "joined" qHw f fd)(G1:v9 1 f1 fd1 ["one","other","whole"] qR9 "are_mates")
  (G2:v9 1 f2 fd2 ["one","other","whole"] qO5 "melded"):v8 2 f fd ["found","whole"] qO7:=by
 refine F.okA qDd λcdv A outer s H vs Q E hr h=>?_
 obtain⟨fo,ps,w,n,rfl,⟨fs,hfo,pf⟩,ji,wn,n12,lps,q⟩:=h;have lfs:=pf.length;refine⟨_,(qAa (v4 2 qDd (qA4 qA3)) (qAa (qBa PassesOwn.never rfl (qAp (pv 0)) (qB5 rfl (qAs (v7 3 qDd) (qAs (v7 4 qDd) qBl))) (qAa (v6 5 qDd (qA8 (N:=joN) (sc:=qAc qHw) (N':=["part","kind","groups","whole"]) (sub:=[none,some 3,some 4,some 1]) (qAp (pv 2)) (λC s H fp=>⟨qBk (qD9 (qAw G1 hr rfl .nil qAv (qAd (pv 0) (qAd (qA6 (qAd (pv 1) (pa1 (pv 2)))) (pa1 (pv 3)))))),pv 0⟩))) (qAa (qDe (i:=2) (N:=joN) (sc:=qAc qHw) (N':=["part","mates"]) (sub:=[none,some 5]) (qAp (pv 2)) (λC s H fp=>⟨qBk (qAn (show OpR _ (compareOp .NotIn) (qTa K) from qTj (qY5 hr)) (pv 0) (pv 1) (by with_unfolding_all rfl)),pv 0⟩) qDd.nd rfl vE) (qAa (qBa PassesOwn.never rfl (qAp (pv 5)) (v5 6 qDd) (qAe (v6 4 qDd (qAw G2 hr rfl .nil qAv (qAd (qBe qBq (pv 6) qAb (λ_ _=>rfl)) (qAd (pv 4) (pa1 (pv 1)))))))) (qAe (qCp (qEb hB1 hBk hBl qBz (pv 2) (pa1 (qA6 (qAd (pv 3) (pa1 (pv 4)))))))))))) (qAe (qAt (pv 2))))),?_⟩;refine⟨hAt _,λt0 ht0=>?_⟩;have X0:=Ext.new ht0 (.lst []);refine⟨_,rfl,fo,rfl,⟨_,SqL.of (X0 _ _ hfo)⟩,qBg (K:=K) (a:=fo) (xs:=fs.map V.ref) (λi σ H'=>∃(tl:Addr) (x3 x4 x5 x6:Option V),σ=[some (.ref fo),some (iV w),some (.ref tl),x3,x4,x5,x6]/\Ext H H'/\PtL H' tl (joF w (ps.take i)))
  ⟨t0,none,none,none,none,rfl,X0,[],upd_same,.nil⟩ (λi σ H' _ h=>by obtain⟨_,_,_,_,_,_,e,_⟩:=h;exact SqL.of (e _ _ hfo)) ?_ ?_⟩
 ·rintro i v σ H1 hv ⟨tl,x3,x4,x5,x6,rfl,e1,ts,htl,pt⟩;obtain⟨a,rfl,ha⟩:=qA7 hv;obtain⟨e,he,hae⟩:=qAr pf ha;have hi:=qAx he;obtain⟨g,ha',hg'⟩:=hae;have J:=ji.all i;rw[hCs hi,show ps[i]=e by have:=hA2 hi;rw[he]at this;exact(hAq this).symm]at J;have lt:(joF w (ps.take i)).length<=2000:=by
   have:=qOd w [] (ps.take i);rw[hAm]at this;show((ps.take i).foldl (joS w) []).length<=2000;simp only[List.length_nil]at this;omega
  have sn:joF w (ps.take (i+1))=joS w (joF w (ps.take i)) e:=by rw[qAh he,qHh]
  revert pt J lt sn;generalize joF w (ps.take i)=told;intro pt J lt sn;have lts:=pt.length;have shT:∀t∈told,Sh w t.2:=λt ht=>J.sh t (hAg _ ht)
  have kdT:∀t∈told,t.1 = "ring"\/t.1 = "bundle"\/t.1 = "whole":=λt ht=>J.kd t (hAg _ ht)
  have l12:∀ {gs:List Nat},Sh w gs->gs.length<=12:=λ{gs} h=>hAw (h.pt.len wn) n12
  have ha1:=e1 _ _ ha';have hg1:LsN H1 g e.2:=e1 _ _ hg';refine⟨a,_,rfl,SqT.of ha1,rfl,_,_,rfl,_,_,rfl,rfl,?_⟩;refine⟨_,rfl,tl,rfl,⟨_,SqL.of htl⟩,?_⟩;refine qAq (xs:=ts.map V.ref) (λj ys H2=>Ext H1 H2/\∃ms:List Addr,ys=ms.map V.ref/\Paired (PtE H2) ms ((told.take j).filter λt=>mtB w t e)) ⟨Ext.refl _,[],rfl,.nil⟩ (λj ys H2 _ h=>SqL.of (h.1 _ _ htl)) ?_ ?_
  ·rintro j v ys H2 hx ⟨e2,ms,rfl,pm⟩;obtain⟨b,rfl,hb⟩:=qA7 hx;obtain⟨t,ht,hbt⟩:=qAr pt hb;have hj:=qAx ht;have lm:=pm.length;have sz:=hAz (λt=>mtB w t e) (told.take j);rw[hAm]at sz;refine⟨sls,_,rfl,_,rfl,_,rfl,(by show 2<=sizeLine;decide),λT hT=>?_⟩;have XT:=Ext.new hT (.tup [V.str e.1,.ref g]);refine⟨_,rfl,b,T,t,e,w,rfl,(PtE.ext hbt e2).ext XT,⟨g,upd_same,XT _ _ (e2 _ _ hg1)⟩,l12 (shT t (hAc ht)),λH3 e3=>⟨mtB w t e,rfl,?_⟩⟩;have E3:=XT.trans e3;have tk:(told.take (j+1)).filter (λt=>mtB w t e)=(told.take j).filter (λt=>mtB w t e)++(if mtB w t e=true then [t] else []):=by
    rw[qAh ht,hBr,zE6]
   refine qBw (λc=>?_) (λc=>?_)
   ·refine⟨_,rfl,by rw[hA1];exact qHq vG,nxt (qAx hx) ⟨e2.trans E3,ms++[b],by rw[hA4];rfl,?_⟩⟩;rw[tk,hEk c];exact Paired.snoc (Paired.mapP pm λ_ _ z=>z.ext E3) ((PtE.ext hbt e2).ext E3)
   ·refine nxt (qAx hx) ⟨e2.trans E3,ms,rfl,?_⟩;rw[tk,hEj c,hCc];exact Paired.mapP pm λ_ _ z=>z.ext E3
  rintro ys H2 ⟨e2,ms,rfl,pm⟩ mt hmt;rw[hA1,hA5 vG]at pm;have XM:=Ext.new hmt (.lst (ms.map V.ref));have hmt3:upd H2 mt (.lst (ms.map V.ref)) mt=some (.lst (ms.map V.ref)):=upd_same;have E3:=e2.trans XM;have pm3:Paired (PtE (upd H2 mt (.lst (ms.map V.ref)))) ms (mtsF w told e):=Paired.mapP pm λ_ _ z=>z.ext XM
  revert XM hmt3 E3 pm3;generalize upd H2 mt (.lst (ms.map V.ref))=H3;intro XM hmt3 E3 pm3;clear pm XM e2;have kdM:∀t∈mtsF w told e,t.1 = "ring"\/t.1 = "bundle"\/t.1 = "whole":=λt ht=>kdT t (hAd.mp ht).1
  have pt3:=Paired.mapP pt λ_ _ z=>PtE.ext z E3
  refine⟨_,rfl,tl,rfl,⟨_,SqL.of (E3 _ _ htl)⟩,?_⟩;refine qAq (xs:=ts.map V.ref) (λj ys H4=>H4=H3/\∃rs:List Addr,ys=rs.map V.ref/\Paired (PtE H3) rs ((told.take j).filter λt=>!decide (t∈mtsF w told e))) ⟨rfl,[],rfl,.nil⟩ (λj ys H4 _ h=>by rw[h.1];exact SqL.of (E3 _ _ htl)) ?_ ?_
  ·rintro j v ys H4 hx ⟨rfl,rs,rfl,pr⟩;obtain⟨b,rfl,hb⟩:=qA7 hx;obtain⟨t,ht,hbt⟩:=qAr pt3 hb;have hj:=qAx ht;have lm:=pr.length;have sz:=hAz (λt=>!decide (t∈mtsF w told e)) (told.take j);rw[hAm]at sz;refine⟨sls,_,rfl,_,rfl,(mtsF w told e).map qDq,qDq t,.lst (SqL.of hmt3) (qMi pm3),qUw hbt,qLi kdM,qNi (kdT t (hAc ht)),_,rfl,?_⟩;have ea:((mtsF w told e).map qDq).any (λz=>PyData.eqv z (qDq t))=decide (t∈mtsF w told e):=by
    rw[List.any_map,hE4,hEc,hEl];constructor
    ·rintro⟨u,hu,z⟩;have z':PyData.eqv (qDq u) (qDq t)=true:=z;rw[qQl]at z';rw[<-hEi z'];exact hu
    ·intro z;exact⟨t,z,by show PyData.eqv (qDq t) (qDq t)=true;rw[qQl];exact hEf rfl⟩
   rw[ea];have tk:(told.take (j+1)).filter (λt=>!decide (t∈mtsF w told e))=(told.take j).filter (λt=>!decide (t∈mtsF w told e))++(if (!decide (t∈mtsF w told e))=true then [t] else []):=by
    rw[qAh ht,hBr,zE6]
   refine qBw (λc=>?_) (λc=>?_)
   ·refine⟨_,rfl,by rw[hA1];exact qHq vG,nxt (qAx hx) ⟨rfl,rs++[b],by rw[hA4];rfl,?_⟩⟩;rw[tk,hEk c];exact Paired.snoc pr hbt
   ·refine nxt (qAx hx) ⟨rfl,rs,rfl,?_⟩;rw[tk,hEj c,hCc];exact pr
  rintro ys H4 ⟨rfl,rs,rfl,pr⟩ t2 ht2;rw[hA1,hA5 vG]at pr;have prn:Paired (λa (u:PE1)=>∃g,g≠t2/\H4 a=some (.tup [.str u.1,.ref g])/\LsN H4 g u.2) rs (rsF w told e):=Paired.mapP pr λa u ⟨g,z1,z2⟩=>⟨g,qAo z2 ht2,z1,z2⟩
  have X5:=Ext.new ht2 (.lst (rs.map V.ref));have gt2:g≠t2:=qAo (E3 _ _ hg1) ht2;have E5:=E3.trans X5;have h25:upd H4 t2 (.lst (rs.map V.ref)) t2=some (.lst (rs.map V.ref)):=upd_same;have pr5:Paired (λa (u:PE1)=>∃g,g≠t2/\upd H4 t2 (.lst (rs.map V.ref)) a=some (HO.tup [.str u.1,.ref g])/\LsN (upd H4 t2 (.lst (rs.map V.ref))) g u.2) rs (rsF w told e):=Paired.mapP prn λa u ⟨g,z0,z1,z2⟩=>⟨g,z0,X5 _ _ z1,X5 _ _ z2⟩
  have pm5:=Paired.mapP pm3 λ_ _ z=>PtE.ext z X5
  have hmt5:=X5 _ _ hmt3;have nH:H t2=none:=(e1.trans E3).none ht2;revert E5 h25 pr5 pm5 hmt5;generalize upd H4 t2 (.lst (rs.map V.ref))=H5;intro E5 h25 pr5 pm5 hmt5;clear X5 pr prn pm3 hmt3 pt3 E3;have lmm:=pm5.length;refine⟨_,rfl,mt,rfl,⟨_,SqL.of hmt5⟩,qBg (K:=K) (a:=mt) (xs:=ms.map V.ref) (λj σ H6=>∃(gm:Addr) (x6:Option V),σ=[some (.ref fo),some (iV w),some (.ref t2),some (.str e.1),some (.ref gm),some (.ref mt),x6]/\Ext H5 H6/\gm≠t2/\LsN H6 gm (foF w ((mtsF w told e).take j) e.2)/\MI w ((mtsF w told e).drop j) (foF w ((mtsF w told e).take j) e.2) ((rsF w told e++ps.drop (i+1)).map (λu:PE1=>u.2)))
   ⟨g,x6,rfl,Ext.refl _,gt2,E5 _ _ hg1,J.mi⟩ (λj σ H6 _ h=>by obtain⟨_,_,_,e,_⟩:=h;exact SqL.of (e _ _ hmt5)) ?_ ?_⟩
  ·rintro j v σ H6 hx ⟨gm,y6,rfl,e6,gn,hgm,M⟩;obtain⟨b,rfl,hb⟩:=qA7 hx;obtain⟨t,ht,hbt⟩:=qAr pm5 hb;have hj:=qAx ht;obtain⟨gb,hb1,hb2⟩:=PtE.ext hbt e6;rw[hCs hj,show(mtsF w told e)[j]=t by have:=hA2 hj;rw[ht]at this;exact(hAq this).symm]at M;refine⟨_,rfl,b,_,_,_,rfl,rfl,SqT.of hb1,qA0 (j:=1) rfl,_,rfl,_,rfl,gb,gm,t.2,_,w,rfl,hb2,hgm,l12 (M.sm t hA8),l12 M.sh,λr H7 e7 r0 hr7=>?_⟩;refine⟨r,_,rfl,e6.trans e7,Ne.symm (qAo (e6 _ _ h25) r0),?_,?_⟩
   ·rw[qAh ht];unfold foF;rw[hBt];exact hr7
   ·rw[qAh ht];unfold foF;rw[hBt];exact M.step
  ·rintro σ H6 ⟨gm,y6,rfl,e6,gn,hgm,M⟩;rw[hA1,hA5 vG]at hgm;have h26:=e6 _ _ h25;have lr:=pr5.length;have sz:=hAz (λt=>!decide (t∈mtsF w told e)) told;have lr':(rsF w told e).length<=told.length:=sz;refine⟨_,rfl,.inl ⟨rfl,_,SqL.of h26⟩,_,rfl,_,rfl,(by show 2<=sizeLine;decide),λT hT=>?_⟩;have XT:=Ext.new hT (.tup [V.str e.1,.ref gm]);have Tt:T≠t2:=Ne.symm (qAo h26 hT);refine⟨t2,_,_,rfl,rfl,XT _ _ h26,by rw[hA1];exact qHq vG,?_⟩;refine⟨t2,_,_,_,_,rfl,((e1.trans E5).trans (e6.trans XT)).over nH _,rs++[T],by rw[upd_same,hA4];rfl,?_⟩;rw[sn];refine Paired.snoc (Paired.mapP pr5 λa u ⟨g,z0,z1,z2⟩=>⟨g,?_,?_⟩) ⟨gm,?_,?_⟩
   ·have z:=(e6.trans XT) _ _ z1;rw[qAk (λq=>by rw[q,XT _ _ h26]at z;cases z)];exact z
   ·unfold LsN;rw[qAk z0];exact(e6.trans XT) _ _ z2
   ·rw[qAk Tt];exact upd_same
   ·unfold LsN;rw[qAk gn];exact XT _ _ hgm
 ·rintro σ H1 ⟨tl,x3,x4,x5,x6,rfl,e1,pt⟩;rw[hA1,hA5 vG]at pt;exact⟨_,rfl,q tl _ e1 pt⟩
end
end My
namespace L2
open PySem PySem.Spec PyProof.Rows PySem.W
def qVy(R:Nat->Nat->Bool):KasT α->α
 |.ret a=>a
 |.ask i j k=>qVy R (k (R i j))
theorem qOc{α:Type}{R:Nat->Nat->Bool}{n:Nat}{s:Shared}{cmp:Nat->Nat->(Bool->Shared->Prop)->Shared->Prop}{Q Q':α->Shared->Prop}(hc:∀i j C,i<n->j<n->C (R i j) s->cmp i j C s):∀(t:KasT α),t.kasWp (λi j C s'=>i<n/\j<n/\C (R i j) s') Q s->(∀a,a=qVy R t->Q a s->Q' a s)->t.kasWp cmp Q' s
 |.ret a,h,q=>q a rfl h
 |.ask i j k,h,q=>hc i j _ h.1 h.2.1 (qOc hc (k (R i j)) h.2.2 q)
def qIt(n:Nat)(R:Nat->Nat->Bool):List Nat:=if n<2 then List.range n else (qVy R (kas_sort n)).toList
theorem qV8{R:Nat->Nat->Bool}{n:Nat}{s:Shared}{cmp:Nat->Nat->(Bool->Shared->Prop)->Shared->Prop}(h2:2<=n)(hc:∀i j C,i<n->j<n->C (R i j) s->cmp i j C s):(kas_sort n).kasWp cmp (λp s'=>s'=s/\p.toList=qIt n R/\Gd n p) s:=by
 refine qOc (Q:=λp _=>Gd n p) hc (kas_sort n) (zCi (λi j C hi hj h=>⟨hi,hj,h _⟩) vG λp g=>g) λa ea g=>⟨rfl,?_,g⟩
 rw[ea];exact(hEj vG).symm
noncomputable def qId:List (List Str)->List (List Str)->Bool
 |[],[]=>false
 |[],_ :: _=>true
 |_ :: _,[]=>false
 |a :: x,b :: y=>if a=b then qId x y else ltL a b
section
variable{P:Program}{w:World}{A:Around}{E:Value->Shared->Prop}{s:Shared}
open SeqAt in
theorem zCu(hu:A.units<cLine)(ha:s.heap.IsList a i1)(hb:s.heap.IsList b i2)(hx:StrsAre i1.toList x)(hy:StrsAre i2.toList y):EqAt A s (.ref a) (.ref b) (decide (x=y)):=by
 by_cases e:a=b
 ·subst e;obtain⟨o1,e1,c1,n1,d1⟩:=ha;obtain⟨o2,e2,c2,n2,d2⟩:=hb;rw[e1]at e2;cases e2;rw[d1]at d2;injection d2 with d2 _
  subst d2;have:x=y:=by rw[<-hx.strs,<-hy.strs]
  rw[hEf this];exact EqAt.same _
 ·have l1:i1.size=x.length:=by rw[<-hx.strs];simp
  have l2:i2.size=y.length:=by rw[<-hy.strs];simp
  by_cases hs:i1.size=i2.size
  ·have q:=RcAt.lists (e:=λj=>x.getD j "" == y.getD j "") ha hb hs hu λj h1 h2=>by
    obtain⟨t1,q1⟩:=qJo hx (i:=j) (by simpa using h1);obtain⟨t2,q2⟩:=qJo hy (i:=j) (by simpa using h2);rw[hBi,hD5 h1]at q1;rw[hBi,hD5 h2]at q2;rw[hAq q1,hAq q2];exact EqAt.str_str _ _ _ _
   have eb:(List.range i1.size).all (λj=>x.getD j "" == y.getD j "")=decide (x=y):=by
    rw[hE4];simp only[hE0,hAv,beq_iff_eq,decide_eq_true_eq];constructor
    ·intro h;refine List.ext_getElem vG λj h1 h2=>?_
     have:=h j vG;rw[hAa,hAa,hA2 h1,hA2 h2]at this;exact this
    ·intro h j _;rw[h]
   rw[eb]at q;exact EqAt.of_refs e q
  ·have ne:x≠y:=λz=>hs (by rw[l1,l2,z])
   rw[hEg ne];exact EqAt.of_refs e (RcAt.lists_lengths ha hb (by simpa using hs) hu)
theorem qKr:∀ {vs:List Value} {ts:List (List Str)} {h:Heap},Paired (qVw h) vs ts->∀ {i:Nat},i<vs.length->∃(b:Addr) (its:Array Value),vs[i]?=some (.ref b)/\h.IsList b its/\StrsAre its.toList (ts.getD i [])
 |_,_,_,.nil,i,hi=>absurd hi (hCe _)
 |_,_,_,.cons ⟨a,its,e,l,st⟩ r,0,_=>⟨a,its,by rw[e];rfl,l,st⟩
 |_,_,_,.cons _ r,i+1,hi=>qKr r (i:=i) (by simpa using hi)
theorem qQm{x:List (List Str)}{i:Nat}(h:i<x.length):x.drop i=x.getD i [] :: x.drop (i+1):=by
 rw[hCs h,hAa,hA2 h];rfl
open AutoSeq1 (wpAny_loadPart')
open MeetsSeq MeetsSeq2 MeetsSeq3 SeqRoads2
theorem qT0(l b:Addr)(items items2:Array Value)(n n2:Nat)(dd dd2:Option Addr)(sl sl2:Array (Option Value))(x y:List (List Str)):∀(k i:Nat),items.size-i=k->i<=items.size->i<=items2.size ->
  Meets (Builtin.«list.__eq__.loop» ⟨[.ref l,.ref b,rawInt i,rawInt 0],[]⟩)
   (λA R s=>(A.in1.units<cLine/\Paired (qVw s.heap) items.toList x/\Paired (qVw s.heap) items2.toList y/\s.heap.get? l=some { cls:=.type "list",dict:=dd,data:=.seq items n,slots:=sl }/\s.heap.get? b=some { cls:=.type "list",dict:=dd2,data:=.seq items2 n2,slots:=sl2 })/\R (.ok (.ret (.bool (qId (x.drop i) (y.drop i))))) s):=by
 intro k
 induction k with
 |zero =>
  intro i hk h1 h2 prog w A R s h;obtain⟨hp,g,d,tk,os⟩:=s;obtain⟨⟨hu,hx,hy,hl,hb⟩,h⟩:=h;have lx:items.size=x.length:=by have:=hx.length;simpa using this
  have ly:items2.size=y.length:=by have:=hy.length;simpa using this
  have e1:i=items.size:=by omega
  have q1:items[((i:Nat):Int).toNat]?=none:=by simp;omega
  wp_walk using hEm hl,hEm hb
  rw[q1]
  wp_walk using hEm hl,hEm hb
  have dx:x.drop i=[]:=by simp;omega
  rw[dx]at h;show R (.ok (.ret (.bool (decide (items.size<items2.size))))) _;cases hd:y.drop i with
  |nil =>
   rw[hd]at h;have:y.length<=i:=by simpa using hd
   rw[hEg vG];exact h
  |cons a r =>
   rw[hd]at h;have:i<y.length:=by
    have:=congrArg List.length hd;rw[List.length_drop,hC9]at this;omega
   rw[hEf vG];exact h
 |succ k ih =>
  intro i hk h1 h2 prog w A R s h;obtain⟨hp,g,d,tk,os⟩:=s;obtain⟨⟨hu,hx,hy,hl,hb⟩,h⟩:=h;have lx:items.size=x.length:=by have:=hx.length;simpa using this
  have ly:items2.size=y.length:=by have:=hy.length;simpa using this
  have hlt:i<items.size:=by omega
  obtain⟨a1,its1,q1,il1,st1⟩:=qKr hx (i:=i) (by simpa using hlt);rw[hBi]at q1;have q1':items[((i:Nat):Int).toNat]?=some (.ref a1):=q1;have dx:=qQm (x:=x) (i:=i) vG
  wp_walk using hEm hl,hEm hb
  rw[q1'];by_cases hlt2:i<items2.size
  ·obtain⟨a2,its2,q2,il2,st2⟩:=qKr hy (i:=i) (by simpa using hlt2);rw[hBi]at q2;have q2':items2[((i:Nat):Int).toNat]?=some (.ref a2):=q2;have dy:=qQm (x:=y) (i:=i) vG;have hc:((i:Int)+1)=((i+1:Nat):Int):=by push_cast;rfl
   rw[dx,dy]at h;unfold qId at h;rw[q2'];refine hEe (zCu hu il1 il2 st1 st2 _ _ _ _ ?_);by_cases e:x.getD i []=y.getD i []
   ·rw[hEk e]at h;rw[hEf e]
    wp_walk
    rw[hc];exact⟨hEw plain_eq_loop _,hEr entry_eq_loop (by
     rw[Around.under_plainId plain_eq_loop _];exact ih (i+1) vG vG vG prog w A R _ ⟨⟨hu,hx,hy,hl,hb⟩,h⟩)⟩
   ·rw[hEj e]at h;rw[hEg e]
    wp_walk using hEm hl,hEm hb
    rw[q1',q2'];obtain⟨⟨cls,dd3,data,sl3⟩,ho,hc3,n3,hd3⟩:=il1;obtain⟨⟨cls4,dd4,data4,sl4⟩,ho4,hc4,n4,hd4⟩:=il2;simp only at hc3 hd3 hc4 hd4;subst hc3 hd3 hc4 hd4;refine hEe (richCompare_meets_room (op:=.Lt) ⟨_,ho,rfl⟩ ⟨_,ho4,rfl⟩ F.slot_list_lt F.entry_list_lt (F.args_list_lt_2 _ _) (qP7 a1 a2 its1 its2 n3 n4 dd3 dd4 sl3 sl4 _ _ st1 st2) ⟨⟨ho,ho4⟩,?_⟩ hu);exact⟨(λz=>nomatch z),hEh h⟩
  ·have q2':items2[((i:Nat):Int).toNat]?=none:=by simp;omega
   rw[q2']
   wp_walk using hEm hl,hEm hb
   have dy:y.drop i=[]:=by simp;omega
   rw[dx,dy]at h;show R (.ok (.ret (.bool (decide (items.size<items2.size))))) _;rw[hEg vG];exact h
theorem qT5(l b:Addr)(items items2:Array Value)(n n2:Nat)(dd dd2:Option Addr)(sl sl2:Array (Option Value))(x y:List (List Str)) :
  Meets (Builtin.«list.__lt__» ⟨[.ref l,.ref b],[]⟩)
   (λA R s=>(A.in1.units<cLine/\Paired (qVw s.heap) items.toList x/\Paired (qVw s.heap) items2.toList y/\s.heap.get? l=some { cls:=.type "list",dict:=dd,data:=.seq items n,slots:=sl }/\s.heap.get? b=some { cls:=.type "list",dict:=dd2,data:=.seq items2 n2,slots:=sl2 })/\R (.ok (.ret (.bool (qId x y)))) s):=by
 intro prog w A R s h;obtain⟨hp,g,d,tk,os⟩:=s;obtain⟨⟨hu,hx,hy,hl,hb⟩,h⟩:=h;have f3:=AutoSeq1.sub_list_list
 wp_walk using hEm hl,hEm hb
 exact⟨hEw plain_eq_loop _,hEr entry_eq_loop (by
  rw[Around.under_plainId plain_eq_loop _];exact qT0 l b items items2 n n2 dd dd2 sl sl2 x y _ 0 rfl (hAt _) (hAt _) prog w A R _ ⟨⟨hu,hx,hy,hl,hb⟩,h⟩)⟩
def zFo(h:Heap)(v:Value)(t:List (List Str)):Prop:=∃a its,v = .ref a/\h.IsList a its/\Paired (qVw h) its.toList t
theorem qXu(hu:A.units+8<cLine){u v:Value}(h1:zFo s.heap u x)(h2:zFo s.heap v y)(h:Q (qId x y) s):wpAny (model P w) A (keyLt' oneType' u v) Q E s:=by
 obtain⟨l,items,rfl,hl,hx⟩:=h1;obtain⟨b,items2,rfl,hb,hy⟩:=h2;obtain⟨⟨cls,dd,data,sl⟩,ho,hc,n,hd⟩:=hl;obtain⟨⟨cls2,dd2,data2,sl2⟩,ho2,hc2,n2,hd2⟩:=hb;simp only at hc hd hc2 hd2;subst hc hd hc2 hd2;rw[keyLt'_oneType,oneLt'_eq];simp only[if_true];refine hEe (wpAny_cRoomFor vG ?_);refine hEe (wpAny_callSpecialIfBound?_slot (⟨_,ho,rfl⟩:s.TypeIs (.ref l) "list") F.slot_list_lt (hFj F.slot_list_lt ⟨_,ho,rfl⟩ F.entry_list_lt (F.args_list_lt_2 _ _) (qT5 l b items items2 n n2 dd dd2 sl sl2 x y) ⟨⟨?_,hx,hy,ho,ho2⟩,?_⟩))
 ·exact hDa (show A.units+_<=A.units+8 from Nat.add_le_add_left (by decide) _) hu
 exact hEt h
end
abbrev Pk:=Addr×Addr×List (List Str)
noncomputable def ltP(ps:List Pk)(i j:Nat):Bool:=qId ((ps.map λp=>p.2.2).getD i []) ((ps.map λp=>p.2.2).getD j [])
noncomputable def qRr(ps:List Pk):List Addr:=(qIt ps.length (ltP ps)).map λi=>(ps.map λp=>p.1).getD i 0
def zDc(K:PySem.W.Frag)(H:Hp)(p:Pk):Prop:=∃k:Str,H p.1=some (.tup [.str k,.ref p.2.1])/\∃as:List Addr,H p.2.1=some (.lst (as.map V.ref))/\Paired (λa r=>H a=some (.lst (r.map V.str))) as p.2.2
theorem zGz{K:PySem.W.Frag}{H H':Hp}{P:Addr}{qs:Array Value}(hP:H P=some (.tbl qs))(e:ExtB P H H'){p:Pk}(h:zDc K H p):zDc K H' p:=by
 obtain⟨k,h1,as,h2,h3⟩:=h;exact⟨k,e _ _ (λz=>by rw[z,hP]at h1;cases h1) h1,as,e _ _ (λz=>by rw[z,hP]at h2;cases h2) h2,Paired.mapP h3 λa r z=>e _ _ (λq=>by rw[q,hP]at z;cases z) z⟩
theorem qQc:∀ {as:List Addr} {i:Nat},i<as.length->(as.map Value.ref).getD i Value.none = .ref (as.getD i 0)
 |a :: as,0,_=>rfl
 |a :: as,i+1,h=>qQc (as:=as) (i:=i) (by simpa using h)
section
variable{X:Cx}
theorem zCd{aB:List vH}{σ:St}{H:Hp}{s:Shared}(I:Inv X aB σ H s){p:Pk}(h:zDc X.K H p):zFo s.heap (.ref p.2.1) p.2.2:=by
 obtain⟨k,h1,as,h2,h3⟩:=h;obtain⟨its,rv,⟨o,n,e,c,_,dt⟩,_⟩:=I.list (.inl (.inl h2));have ei:=qHy rv;subst ei;exact⟨_,_,rfl,⟨o,e,c,n,dt⟩,qKq I (λ_ _ z=>z) (Paired.mapP h3 λa r z=>.inl (.inl z))⟩
theorem zAf{ps:List Pk}
  (I:Inv X ((kS,seqObj "list" (ps.map λp=>Value.ref p.2.1).toArray en) :: (a,seqObj "list" #[] e1) :: aB) σ H s) (hk:kS≠a) (Hk:H kS=none) (Ha:H a=none) (wa:Aw X aB a) (wk:Aw X aB kS) (hu:A.units+8<cLine)
  (keys:∀p∈ps,zFo s.heap (.ref p.2.1) p.2.2) (h64:ps.length<64)
  (h:∀(s':Shared),(qIt ps.length (ltP ps)).Perm (List.range ps.length)->Inv X aB σ (upd H a (.lst ((qRr ps).map V.ref))) s'->P (.done (.ret .none)) s') :
  wpAny vD A (ksk_end a false (ps.map λp=>Value.ref p.1).toArray e1 (.ref kS) (ps.map λp=>Value.ref p.2.1).toArray) P E' s:=by
 have ok:s.heap.get? kS=some (seqObj "list" (ps.map λp=>Value.ref p.2.1).toArray en):=(I.pin (kS,_) (hA7 _ (.head _))).1;have vm:(ps.map λp=>Value.ref p.1)=(ps.map λp=>p.1).map Value.ref:=by rw[hB6];rfl
 have fin:∀(st:SortSt),(arrOf st).map (·.2)=(List.toArray ((qRr ps).map Value.ref))->(qIt ps.length (ltP ps)).Perm (List.range ps.length)->failedOf st=none->wpAny vD A (ksk_tail a false e1 (.ref kS) st) P E' s:=by
  intro st ea pm hf;have lo:(qRr ps).length=ps.length:=by unfold qRr;rw[hA1,pm.length_eq,hB4]
  have sz:(arrOf st).size=ps.length:=by
   have h1:((arrOf st).map (·.2)).size=(List.toArray ((qRr ps).map Value.ref)).size:=congrArg Array.size ea;rw[Array.size_map]at h1;rw[h1,hAk,hA1,lo]
  obtain⟨n1,I1,_⟩:=Inv.repinL (λ_=>(#[]:Array Value)) I.unpin (wk.cons (Ne.symm hk)) Hk ok;have oa1:(s.heap.update kS (Obj.mapSeq λ_=>(#[]:Array Value))).get? a=some (seqObj "list" #[] e1):=(I1.pin (a,_) (hA7 _ (.head _))).1;obtain⟨n2,I2,oa2⟩:=Inv.repinL (s:={ s with heap:=s.heap.update kS (Obj.mapSeq λ_=>(#[]:Array Value)) }) (λ_=>(arrOf st).map (·.2)) I1.unpin wa Ha oa1;unfold ksk_tail;try dsimp only
  refine hEe (hEp ok rfl ?_ (by rw[hAk,hA1,hEn];omega) (hAt _));refine hEe (wpAny_letGo ?_);refine hEe (hF8 oa1 rfl ?_);refine hEe (hEp oa1 rfl ?_ (hAt _) (by simp only[hCq,hFf,Array.size_map];rw[sz,hEn];omega));rw[hf];simp only[hFe,hCq,hFf];refine hEh (h _ pm ?_);refine I2.adoptL (its:=(qRr ps).map Value.ref) (n:=n2) wa Ha (qFg _) (by rw[hA1,lo,hEn];omega) ?_;rw[<-ea];exact oa2
 have mapD:∀(l:List Nat),l.Perm (List.range ps.length)->l.map (λi=>(ps.map λp=>Value.ref p.1).getD i Value.none)=(l.map λi=>(ps.map λp=>p.1).getD i 0).map Value.ref:=λl pl=>by
  rw[hB6];refine hBg λi hi=>?_
  have:i<ps.length:=hAv.mp (pl.mem_iff.mp hi);rw[vm];exact qQc (by rw[hA1];exact this)
 unfold ksk_end;try dsimp only
 simp only[hCq,hFf];by_cases h2:((ps.map λp=>Value.ref p.1).toArray).size<2
 ·rw[hEk h2,hEk h2];refine hEe (hEh ?_);rw[StateT.run_pure];refine hEe (hEh ?_);try dsimp only
  rw[hAk,hA1]at h2;have es:qIt ps.length (ltP ps)=List.range ps.length:=hEk h2;refine fin _ ?_ (by rw[es]) rfl;show((ps.map λp=>Value.ref p.2.1).toArray.zip (ps.map λp=>Value.ref p.1).toArray).map (·.2)=_;apply Array.toList_inj.mp;rw[Array.toList_map,Array.toList_zip];show((ps.map λp=>Value.ref p.2.1).zip (ps.map λp=>Value.ref p.1)).map Prod.snd=(qRr ps).map Value.ref;rw[List.map_snd_zip (by rw[hA1,hA1];exact hA9 _)];unfold qRr;rw[es,<-mapD _ (hDg _)];have:=qDt (ps.map λp=>Value.ref p.1);rw[hA1]at this;exact this.symm
 ·rw[hEj h2,hEj h2];rw[hAk,hA1]at h2;have l2:2<=(ps.map λp=>Value.ref p.1).length:=by rw[hA1];omega
  have lk:(ps.map λp=>Value.ref p.2.1).length=(ps.map λp=>Value.ref p.1).length:=by rw[hA1,hA1]
  have lv:(ps.map λp=>Value.ref p.1).length=ps.length:=hA1 _;refine hEe (kas_kind (T:=.type "list") (by rw[lk];exact l2) (λv hv=>?_) (by decide) (by decide) ?_)
  ·obtain⟨p,hp,rfl⟩:=hAe.mp hv;obtain⟨b,its,e,⟨o,g,c,_⟩,_⟩:=keys p hp;cases e;exact kitAt_ty _ _ ⟨o,g,c⟩
  refine hEe (hEq (kat_run (ks:=ps.map λp=>Value.ref p.2.1) (vs:=ps.map λp=>Value.ref p.1) (Q:=λst' s'=>s'=s/\(arrOf st').map (·.2)=(List.toArray ((qRr ps).map Value.ref))/\(qIt ps.length (ltP ps)).Perm (List.range ps.length)/\failedOf st'=none) (G:=λp s'=>s'=s/\p.toList=qIt ps.length (ltP ps)/\Gd ps.length p) lk l2 (by rw[lv];exact h64) (λp st' s' a1 a2 a3 a4=>?_) ?_) ?_ λ_ _ e=>e)
  ·obtain⟨rfl,ep,g⟩:=a4;have pm:(qIt ps.length (ltP ps)).Perm (List.range ps.length):=by
    rw[<-ep];exact hC5.mp g
   refine⟨rfl,?_,pm,a3⟩;rw[kat_snds lk a2,ep,mapD _ pm];rfl
  ·rw[lv];refine qV8 vG λi j C hi hj hC=>?_
   show wpAny _ _ (keyLt' _ ((ps.map λp=>Value.ref p.2.1).getD i Value.none) ((ps.map λp=>Value.ref p.2.1).getD j Value.none)) C _ _;have gt:∀ {i:Nat} (hi:i<ps.length),(ps.map λp=>Value.ref p.2.1).getD i Value.none = .ref ps[i].2.1/\(ps.map λp=>p.2.2).getD i []=ps[i].2.2:=λ{i} hi=>by
    constructor
    ·rw[hAa,hAl,hA2 hi];rfl
    ·rw[hAa,hAl,hA2 hi];rfl
   rw[(gt hi).1,(gt hj).1];unfold ltP at hC;rw[(gt hi).2,(gt hj).2]at hC;exact qXu hu (keys _ (hBn hi)) (keys _ (hBn hj)) hC
  ·rintro⟨⟨⟩,st'⟩ s' ⟨rfl,q1,q2,q3⟩;exact fin st' q1 q2 q3
theorem qJv{aB:List vH}{σ:St}{H1:Hp}{s1:Shared}{l f:Addr}{ps:List Pk}{Q:VK}(I1:Inv X aB σ H1 s1)(hq:SqL X.K H1 l (ps.map λp=>V.ref p.1))(hrow:∀p∈ps,zDc X.K H1 p)(h64:ps.length<64)(hu:X.A.in1.in1.units+8<cLine)
  (hcall:∀p∈ps,∀(pins':List vH) (s':Shared),(∀q∈aB,q∈pins')->Inv X pins' σ H1 s'->wpAny vD X.A.in1.in1 (call (.ref f) [.ref p.1]) (EP X pins' σ (λv H=>v = .ref p.2.1/\H=H1)) (λ_ _=>False) s')
  (q:∀(r:Addr),H1 r=none->(qIt ps.length (ltP ps)).Perm (List.range ps.length)->Q (.ref r) (upd H1 r (.lst ((qRr ps).map V.ref)))) :
  wpAny vD X.A (call (.builtin "sorted") [.ref l] [(Str.ofString "key",.ref f)]) (EP X aB σ Q) X.xe s1:=by
 obtain⟨its,rv,pl,hz⟩:=I1.list hq;have ei:its=ps.map λp=>Value.ref p.1:=by
  have rv':qBx ((ps.map λp=>p.1).map V.ref) its:=by rw[hB6];exact rv
  have:=qHy rv';rw[hB6]at this;exact this
 have hl:its.length=ps.length:=by rw[ei,hA1]
 refine call_function_entry_kw kind_sorted hFp hFq (ksk_s1 _ _) ?_;unfold Builtin.«sorted»;refine hEe (m:=checkCount "sorted" 1 1 _) (hEh ?_);refine hEe (collect_list pl.isList ?_ (by rw[hEn];omega));refine hEe (hEx ?_ (by rw[hEn];omega));have hsz:((s1.heap.push (seqObj "list" #[] 0)).update s1.heap.objs.size (Obj.mapSeq (·++its.toArray))).objs.size=s1.heap.objs.size+1:=by
  rw[Heap.size_update,hFk]
 have keep:∀b o,s1.heap.get? b=some o->((s1.heap.push (seqObj "list" #[] 0)).update s1.heap.objs.size (Obj.mapSeq (·++its.toArray))).get? b=some o:=λb o q=>by
  have hlt:b<s1.heap.objs.size:=Heap.lt_size q;rw[Heap.get?_update_ne _ _ _ _ (hAx hlt),Heap.get?_push_ne _ _ _ (hAx hlt)];exact q
 have hoL:(((s1.heap.push (seqObj "list" #[] 0)).update s1.heap.objs.size (Obj.mapSeq (·++its.toArray))).push (seqObj "list" its.toArray 0)).get? (s1.heap.objs.size+1)=some (seqObj "list" its.toArray 0):=by
  rw[<-hsz];exact Heap.get?_push_size _ rfl
 have I2:Inv X aB σ H1 { s1 with heap:=((s1.heap.push (seqObj "list" #[] 0)).update s1.heap.objs.size (Obj.mapSeq (·++its.toArray))).push (seqObj "list" its.toArray 0) } :=
  I1.kept (t':=s1.toks) λb o q=>Heap.get?_push_of_some _ (keep b o q)
 show wpAny _ _ _ _ _ { s1 with heap:=((s1.heap.push (seqObj "list" #[] 0)).update s1.heap.objs.size (Obj.mapSeq (·++its.toArray))).push (seqObj "list" its.toArray 0) };rw[hsz];have nA:H1 (s1.heap.objs.size+1)=none:=I1.hok.fresh (hBq _);have wA:Aw X aB (s1.heap.objs.size+1):=I1.aw (hBq _);generalize s1.heap.objs.size+1=a at hoL nA wA;generalize hS:({ s1 with heap:=((s1.heap.push (seqObj "list" #[] 0)).update s1.heap.objs.size (Obj.mapSeq (·++its.toArray))).push (seqObj "list" its.toArray 0) }:Shared)=s2 at I2;have ho2:s2.heap.get? a=some (seqObj "list" its.toArray 0):=by rw[<-hS];exact hoL
 clear hoL hS;refine hEe (hEs (wpAny_call_entry_kw slot_list_sort ⟨_,ho2,rfl⟩ entry_list_sort ?body (ksk_l1 _ _)));show wpAny vD X.A.in1.in1 (Builtin.«list.sort» ⟨[.ref a],[(Str.ofString "key",.ref f)]⟩) _ _ _;rw[ksk_t1];unfold ksk_tree;refine hEe (hFh ho2 rfl ?_);refine hEe (hEp ho2 rfl ?_ (by rw[hAk,hEn];omega) (hAt _));obtain⟨e1,I3,ho3⟩:=I2.repinL (λ_=>#[]) wA nA ho2;refine hEe (hF8 ho3 rfl ?_);refine hEe (hFg ?_ (by show its.length<=_;rw[hEn];omega));refine hEe (hEx ?_ (hAt _));refine hEs ?_;have I4:Inv X aB σ H1 { s2 with heap:=(vA 0) }:=I3.kept (t':=s2.toks) λb o q=>Heap.get?_push_of_some _ q
 have nK:=I4.fresh;have wK:=I4.aw (hA9 _);have ho4:(vA 0).get? a=some (seqObj "list" #[] e1):=Heap.get?_push_of_some _ ho3;have nka:(vA 0).objs.size≠a:=hCj (Heap.lt_size ho4);have I5:Inv X aB σ H1 { s2 with heap:=(vA 0).push (seqObj "list" #[] 0) }:=I4.kept (t':=s2.toks) λb o q=>Heap.get?_push_of_some _ q
 have ho5:((vA 0).push (seqObj "list" #[] 0)).get? a=some (seqObj "list" #[] e1):=Heap.get?_push_of_some _ ho4;have hk5:((vA 0).push (seqObj "list" #[] 0)).get? (vA 0).objs.size=some (seqObj "list" #[] 0):=Heap.get?_push_size _ rfl;show wpAny _ _ (ksk_rest a (.ref f) false its.toArray e1 (.ref (vA 0).objs.size)) _ _ { s2 with heap:=(vA 0).push (seqObj "list" #[] 0) }
 change H1 (vA 0).objs.size=none at nK
 change Aw X aB (vA 0).objs.size at wK
 have I6:=(I5.pinL wA nA ho5).pinL (wK.cons (Ne.symm nka)) nK hk5;generalize (vA 0).objs.size=kS at nK wK nka I6 ⊢;generalize ({ s2 with heap:=(vA 0).push (seqObj "list" #[] 0) }:Shared)=s6 at I6 ⊢;unfold ksk_rest;refine hEe (hFs ?_)
 first
  |rw[List.forIn_toArray]
  |(rw[<-Array.forIn_toList];simp only[List.toList_toArray])
  |rw[<-Array.forIn_toList]
 refine hEe (ksk_fold (λi s'=>∃(e:Nat),Inv X ((kS,seqObj "list" ((ps.map λp=>Value.ref p.2.1).take i).toArray e) :: (a,seqObj "list" #[] e1) :: aB) σ H1 s') its 0 s6 ⟨0,I6⟩ ?step ?done)
 case step =>
  rintro j x s' hx ⟨e,I'⟩;simp only[Nat.zero_add]at I' ⊢;have hj:j<its.length:=(hAp.mp hx).1;have hjn:j<ps.length:=by omega
  have hxe:x = .ref ps[j].1:=by
   rw[ei,hAl,hA2 hjn]at hx;exact(hAq hx).symm
  subst hxe;have hz:((ps.map λp=>Value.ref p.2.1).take j).length<=its.length:=by rw[hAm,hA1];omega
  refine hEe (hFa (hEq (hcall ps[j] (hBn hjn) _ s' (λp hp=>hA6 _ (hA6 _ hp)) I') (λv s'' he=>?_) λ_ _ (hF:False)=>hF.elim));obtain⟨w,H',I8,rw',rfl,e8⟩:=he;rw[e8]at I8;cases rw';try dsimp only
  have ok2:s''.heap.get? kS=some (seqObj "list" ((ps.map λp=>Value.ref p.2.1).take j).toArray e):=(I8.pin (kS,_) (hA7 _ (.head _))).1;obtain⟨n3,I3,ok3⟩:=I8.unpin.repinL (·.push (.ref ps[j].2.1)) (wK.cons (Ne.symm nka)) nK ok2;have ek:(ps.map λp=>Value.ref p.2.1).take (j+1)=(ps.map λp=>Value.ref p.2.1).take j++[.ref ps[j].2.1]:=by rw[List.take_add_one,hAl,hA2 hjn];rfl
  refine hEe (hEp ok2 rfl ?_ (by rw[hAk,hEn];omega) (hAw (Nat.le_of_eq (Array.size_push ..)) (by rw[hAk,hEn];omega)));have ea:((ps.map λp=>Value.ref p.2.1).take j).toArray.push (Value.ref ps[j].2.1)=((ps.map λp=>Value.ref p.2.1).take (j+1)).toArray:=by rw[ek];simp
  rw[ea]at ok3;exact hEh ⟨rfl,n3,I3.pinL (wK.cons (Ne.symm nka)) nK ok3⟩
 case done =>
  rintro s' ⟨e,I'⟩;have e3:(ps.map λp=>Value.ref p.2.1).take (0+its.length)=ps.map λp=>Value.ref p.2.1:=hA5 (by rw[hA1];omega)
  rw[e3]at I';have ok2:s'.heap.get? kS=some (seqObj "list" (ps.map λp=>Value.ref p.2.1).toArray e):=(I'.pin (kS,_) (hA7 _ (.head _))).1;try dsimp only
  refine hEe (hFh ok2 rfl ?_);subst ei;refine zAf I' nka nK nA wA wK hu (λp hp=>zCd I' (hrow p hp)) h64 λs7 pm I7=>⟨_,rfl,?_⟩
  exact hEh ⟨_,rfl,⟨.ref a,_,I7,rfl,q a nA pm⟩⟩
end
def qR2(K:PySem.W.Frag)(P:Addr)(lpos:Pos)(q:Str)(t:TA):TE:=λσ H Q=>t σ H λvs H1=>∃(p:Addr) (ps:List Pk),vs=[.ref p]/\SqL K H1 p (ps.map λp=>V.ref p.1)/\(∀x∈ps,zDc K H1 x)/\ps.length<64/\TabW H1 P lpos q /\
 ∀(r:Addr) (H2:Hp),H1 r=none->ExtB P H1 H2->H2 r=some (.lst ((qRr ps).map V.ref))->(qIt ps.length (ltP ps)).Perm (List.range ps.length)->TabW H2 P lpos q->Q (.ref r) H2
section
variable{X:Cx}{k:Nat}
theorem qN3{e body:Expr}{params:Arguments}{scope:Scope}{t:TA}{te:TE}{p pos kp lpos:Pos}{x:Str}{c P:Addr}(L:LamAt X c P)(hr:Room (k+2) X.A)(hg:Gl X "sorted")(hm:X.mg "sorted"=none)(ha:PA X [e] t)
  (S:FnScope [x] [x] scope) (hcl:closureFor scope X.env=pure []) (hdef:defaultsOf params X.env=([],[]))
  (hb:∀(nm ql:Str) (pm cd ct u:Value),bindArgs { name:=nm,qualname:=ql,params,body:=.expr body,scope,globals:=mainGlobals,closure:=[],defaults:=.none,kwdefaults:=.none,doc:=.none,pyModule:=pm,annotations:=none,code:=cd,closureTuple:=ct,builtins:=builtinsNs } ⟨[u],[]⟩=pure [(x,u)])
  (hbody:∀(A:Around) (s:Shared) (H:Hp) (f:Addr) (cd:Value) (qual:Str),PE (qQp CX0 X.prog X.w X.K X.mg X.base [x] qual scope f cd A X.stack s H E0) body te)
  (hte:∀(a g:Addr) (k:Str) (H:Hp) (Q:VK),H a=some (.tup [.str k,.ref g])->Q (.ref g) H->te [some (.ref a)] H Q)
  (he:backTo pos (starEach [e] X.env)=(false,eval e X.env) :: backTo pos (starEach [] X.env):=by rfl)
  (hplain:(backTo pos (starEach [e] X.env)).any (·.1)=false:=by rfl):PE X (.Call (.Name "sorted" p) [e] [⟨some "key",.Lambda params body scope lpos,kp⟩] pos) (qR2 X.K P lpos (X.env.qual++"<lambda>") t):=by
 intro aB s σ H Q I h;refine hEv (qE5 I hg hm (by decide +kernel:bootBuiltins "sorted"=some (.builtin "sorted")) ?_ (by decide) (by decide));refine PyProof.Rows.callWith_kw (thn (ha pos aB s σ H _ I h) λus s1 ⟨vs,H1,I1,r1,q1⟩=>?_) he hplain;obtain⟨l,ps,rfl,hq,hrow,h64,tw,q⟩:=q1;obtain⟨u,rfl,rx⟩:=qCy r1;cases rx;have hgs:s1.heap.Ns mainGlobals X.mg:=I1.ok.mod.glob.keeps I1.bk;obtain⟨bm,ob,b1,b2,b3,b4,b5,b6⟩:=L.bl;have rest:∀(c':Addr) (ctv:Value) (h':Heap) (tk:Nat) (H2:Hp),Inv X aB σ H2 { s1 with heap:=h'.push (PySem.W.kla_obj "<lambda>" (X.env.qual++"<lambda>") params body scope [] ((X.mg "__name__").getD .none) c' ctv),toks:=tk }->H2 c'=some (qX6 c' (X.env.qual++"<lambda>"))->H2 h'.objs.size=none->Aw X aB h'.objs.size->(∃ps,H1 P=some (.tbl ps))->ExtB P H1 H2->TabW H2 P lpos (X.env.qual++"<lambda>")->(∀r,H2 r=none->H1 r=none) ->
   wpAny vD X.A (call (.builtin "sorted") [.ref l] [(Str.ofString "key",.ref h'.objs.size)]) (EP X aB σ Q) X.xe { s1 with heap:=h'.push (PySem.W.kla_obj "<lambda>" (X.env.qual++"<lambda>") params body scope [] ((X.mg "__name__").getD .none) c' ctv),toks:=tk }:=by
  intro c' ctv h' tk H2 I2 hc' nF wF ⟨ps,hP⟩ eB tw2 back;have I3:Inv X ((h'.objs.size,PySem.W.kla_obj "<lambda>" (X.env.qual++"<lambda>") params body scope [] ((X.mg "__name__").getD .none) c' ctv) :: aB) σ H2
    { s1 with heap:=h'.push (PySem.W.kla_obj "<lambda>" (X.env.qual++"<lambda>") params body scope [] ((X.mg "__name__").getD .none) c' ctv),toks:=tk }:=I2.pins_of λp hp=>by
   rcases hAj.mp hp with rfl|hp
   ·exact⟨Heap.get?_push_size _ rfl,nF,wF.loc,wF.fs,λv z=>by cases z⟩
   ·exact I2.pin p (hA7 _ hp)
  refine hEq (qJv (Q:=Q) I3 (zFk hP eB hq) (λp hp=>zGz hP eB (hrow p hp)) h64 (by have:=(Room.in1 (Room.in1 hr)).un;omega) (λp hp pins' s' sub I'=>?_) (λr nr pm=>?_)) (λv s' ⟨y,H',J,ry,qq⟩=>⟨y,H',J.unpin,ry,qq⟩) λ_ _ z=>z
  ·have ho:=(I'.pin _ (hA7 _ (sub _ (.head _)))).1;have hcr:s'.heap.CodeRec (.ref c') (X.env.qual++"<lambda>"):=(I'.hok c' _ hc').1;obtain⟨k0,hk0,_⟩:=zGz hP eB (hrow p hp);refine wpAny_call (hF9 (qS0 (v:=.ref p.1) (t:=te) (Q:=λv H=>v = .ref p.2.1/\H=H2) (Room.in1 (Room.in1 hr)) I'.env0.in1.in1 ho hcr S (hb _ _ _ _ _ _) rfl (hbody _ _ _ _ _ _) (hte p.1 p.2.1 k0 H2 _ hk0 ⟨rfl,rfl⟩)) λr s'' hq=>?_);cases r with
   |error e=>exact False.elim hq
   |ok fl =>
    cases fl with
    |ret u=>exact I'.after hq
    |next=>exact False.elim hq
    |brk=>exact False.elim hq
    |cont=>exact False.elim hq
  ·refine q r _ (back r nr) (λb o hb e=>?_) upd_same pm (tw2.ext λb o e=>by rw[qAk (qAo e nr)];exact e);have:=eB b o hb e;rw[qAk (qAo this nr)];exact this
 rcases tw with hP|⟨c',hP,hc'⟩
 ·have hPh:s1.heap.get? P=some (PySem.W.tabObj #[]):=I1.hok P _ hP;have hgP:mainGlobals≠P:=λz=>by
   obtain⟨o,es,ep,e1,hd,_⟩:=hgs;rw[z,hPh]at e1;cases e1;cases hd
  refine hDp (PySem.W.kla_eval hdef (PySem.W.kla_makeFunction (mg:=X.mg) hcl I1.ok.glob hgs L.code (L.hd.keeps I1.bk) hPh trivial rfl hgP ⟨bm,ob,b1,b2,b3,b4,I1.bk _ _ b5,b6⟩ λc' ctv h' tk hx hge hlt hrec htb=>hDt ?_));have hsz:s1.heap.objs.size<=h'.objs.size:=hB9 (hDa hge hlt);have I2:=I1.grown (more:=#[rawInt lpos.line,rawInt lpos.col,.ref c']) (tk:=tk) (h':=h'.push (PySem.W.kla_obj "<lambda>" (X.env.qual++"<lambda>") params body scope [] ((X.mg "__name__").getD .none) c' ctv)) hP (λb o hb e=>Heap.get?_push_of_some _ (hx b o hb e)) (Heap.get?_push_of_some _ htb);have hPlt:P<s1.heap.objs.size:=Heap.lt_size hPh;have nC1:H1 c'=none:=I1.hok.fresh hge;have nC:upd H1 P (.tbl (#[]++#[rawInt lpos.line,rawInt lpos.col,.ref c'])) c'=none:=by
   rw[qAk (hCj (hAo hPlt hge))];exact nC1
  have wC:Aw X aB c':=I1.aw hge;have I3:=I2.adoptX wC nC (qQr (hrec.keeps λb o e=>Heap.get?_push_of_some _ e));have nF1:H1 h'.objs.size=none:=I1.hok.fresh hsz;refine rest c' ctv h' tk _ I3 upd_same ?_ (I1.aw hsz) ⟨_,hP⟩ (λb o hb e=>?_) (.inr ⟨c',?_,upd_same⟩) λr hr0=>?_
  ·rw[qAk (hCj hlt),qAk (hCj (hAo hPlt hsz))];exact nF1
  ·rw[qAk (qAo e nC1),qAk hb];exact e
  ·rw[qAk (hAx (hAo hPlt hge)),upd_same];simp
  ·by_cases h1:r=c'
   ·rw[h1];exact nC1
   ·rw[qAk h1]at hr0;by_cases h2:r=P
    ·rw[h2,upd_same]at hr0;cases hr0
    ·rw[qAk h2]at hr0;exact hr0
 ·have hPh:s1.heap.get? P=some (PySem.W.tabObj #[rawInt lpos.line,rawInt lpos.col,.ref c']):=I1.hok P _ hP;refine hDp (PySem.W.kla_eval hdef (PySem.W.kla_makeFunctionHit (mg:=X.mg) hcl I1.ok.glob hgs L.code (L.hd.keeps I1.bk) hPh ?tri (qZ7 lpos _) ⟨bm,ob,b1,b2,b3,b4,I1.bk _ _ b5,b6⟩ λctv h' tk hk hsz=>hDt ?_))
  case tri=>trivial
  have I2:Inv X aB σ H1 { s1 with heap:=h'.push (PySem.W.kla_obj "<lambda>" (X.env.qual++"<lambda>") params body scope [] ((X.mg "__name__").getD .none) c' ctv),toks:=tk }:=I1.kept (t':=tk) λb o e=>Heap.get?_push_of_some _ (hk b o e)
  exact rest c' ctv h' tk H1 I2 hc' (I1.hok.fresh hsz) (I1.aw hsz) ⟨_,hP⟩ (λb o _ e=>e) (.inr ⟨c',hP,hc'⟩) λr z=>z
end
end L2
namespace L2
open PySem PySem.Spec PyProof.Rows
section
variable{prog:Program}{w:World}{A:Around}{E:Value->Shared->Prop}{s:Shared}
theorem qE0{r:Addr}{n:Nat}{t u v:Tok}{Q:Value->Shared->Prop}(hn:1<=n/\n<=12)(hl:s.heap.get? r=some { cls:=.type "range",data:=.fields #[.int 0 t,.int n u,.int 1 v] })
  (h:Q (.ref s.heap.objs.size) { s with heap:=s.heap.push (qPn n) }):wpAny (model prog w) A (call (.builtin "range.__reversed__") [.ref r]) Q E s:=by
 have ty:s.TypeIs (.ref r) "range":=⟨_,hl,rfl⟩;refine hEo F.slot_range_reversed ty F.entry_range_reversed ?_ (F.args_range_reversed_1 _);unfold Builtin.«range.__reversed__»;refine hEe (hF1 (a:=Value.ref r) rfl ?_);have hn:=(by decide:∀m,m<13->1<=m->m=1\/m=2\/m=3\/m=4\/m=5\/m=6\/m=7\/m=8\/m=9\/m=10\/m=11\/m=12) n (Nat.lt_succ_of_le hn.2) hn.1;rcases hn with rfl|rfl|rfl|rfl|rfl|rfl|rfl|rfl|rfl|rfl|rfl|rfl
 all_goals
  refine hEe ?_;unfold Builtin.Range.rangeFields;refine hEe (wpAny_field hl rfl (x:=.int 0 t) rfl ?_);refine hEe (hF1 (a:=some (0:Int)) rfl ?_);refine hEe (wpAny_field hl rfl rfl ?_);refine hEe (hEh ?_);refine hEe (wpAny_field hl rfl (x:=.int 1 v) rfl ?_);refine hEe (hF1 (a:=some (1:Int)) rfl ?_);refine hEh ?_;exact hEe (hEu (hEh ⟨_,rfl,h⟩))
theorem qF1{r:Addr}{n:Nat}{t u v:Tok}{Q₁:Value->Shared->Prop}(hn:1<=n/\n<=12)(hl:s.heap.get? r=some { cls:=.type "range",data:=.fields #[.int 0 t,.int n u,.int 1 v] })
  (h:Q₁ (.ref s.heap.objs.size) { s with heap:=s.heap.push (qPn n) }) :
  codeAny (model prog w) A (.call (.builtin "reversed.__new__") ⟨[.type "reversed",.ref r],[]⟩) (wants Q₁ E) s:=by
 have ty:s.TypeIs (.ref r) "range":=⟨_,hl,rfl⟩;refine codeAny_of_tree ?_;show wpAny _ A.in1 (do checkBuiltinCall "reversed.__new__" ⟨[.type "reversed",.ref r],[]⟩;again (.builtin "reversed.__new__" ⟨[.type "reversed",.ref r],[]⟩)) _ _ s;refine hEe (hF1 (F.newCall_reversed_1 _) (hEh ⟨hEw F.plain_reversed_new _,hEr F.entry_reversed_new ?_⟩));rw[Around.under_plainId F.plain_reversed_new _];unfold Builtin.«reversed.__new__»;refine hEe (hF1 (newClass_reversed _) ?_);try dsimp only
 refine hEe (hF1 (a:=()) (by first|rfl|kernel_rfl) ?_);refine hEe (hF1 (a:=()) (by first|rfl|kernel_rfl) ?_);try dsimp only
 refine hEe (wpAny_specialOf ty F.slot_range_reversed.lookup ?_);try dsimp only
 refine hEe (hF1 (F.slot_range_reversed.bind _) ?_);try dsimp only
 first
 |rw[hEj (show ¬((Value.builtin "range.__reversed__" == Value.none)=true) from hB3)]
 |(show wpAny _ _ (if (Value.builtin "range.__reversed__" == Value.none)=true then _ else _) _ _ _;rw[hEj (show ¬((Value.builtin "range.__reversed__" == Value.none)=true) from hB3)])
 refine hEe (hFs ?_);refine hEe (m:=runValue (.call (.builtin "range.__reversed__") ⟨[.ref r],[]⟩)) (show wpAny _ _ (call (.builtin "range.__reversed__") [.ref r]) _ _ _ from qE0 hn hl ?_)
 first
 |exact hEh h
 |exact hEe (hEh (hEh h))
theorem qF4{r:Addr}{n:Nat}{t u v:Tok}{Q:Value->Shared->Prop}(hn:1<=n/\n<=12)(hl:s.heap.get? r=some { cls:=.type "range",data:=.fields #[.int 0 t,.int n u,.int 1 v] })
  (h:Q (.ref s.heap.objs.size) { s with heap:=s.heap.push (qPn n) }):wpAny (model prog w) A (call (.type "reversed") [.ref r]) Q E s:=by
 refine callType_other (U:="range_iterator") (Q₁:=λobj s₁=>obj = .ref s.heap.objs.size/\s₁={ s with heap:=s.heap.push (qPn n) }) (by decide +kernel) F.create_reversed ⟨_,_,F.mro_reversed⟩ F.made_reversed qHo (F.typeCall_reversed_1 _) (qF1 hn hl ⟨rfl,rfl⟩) ?_;rintro obj s₁ ⟨rfl,rfl⟩;exact⟨⟨_,Heap.get?_push_size _ rfl,rfl⟩,h⟩
end
section
variable{X:Cx}{tg:Expr}
def zGj(ta:TA):TI:=λσ H R=>ta σ H λvs H1=>∃(r:Addr) (n:Nat),vs=[.ref r]/\H1 r=some (.rng 0 (n:Int))/\(1<=n/\n<=12)/\R (Itd ((n:Int)-1) n) H1
theorem zA8{e:Expr}{ta:TA}{p pos:Pos}(hg:Gl X "reversed")(hm:X.mg "reversed"=none)(ha:PA X [e] ta)(hs:starEach [e] X.env=[(false,eval e X.env)]:=by rfl):PI X tg (.Call (.Name "reversed" p) [e] [] pos) (zGj ta):=by
 intro aB s σ H R I h;refine Call_ (qE5 I hg hm boot_reversed (hCw (thn (ha pos aB s σ H _ I h) λus s1 ⟨vs,H1,I1,r1,q1⟩=>?_) hs rfl));obtain⟨r,n,rfl,hr,hn,q⟩:=q1;obtain⟨u,rfl,rx⟩:=qCy r1;cases rx;obtain⟨t1,t2,t3,hl⟩:=I1.hok r _ hr;refine qF4 hn hl ?_;refine wpAny_pyIter_rangeiter (Heap.get?_push_size _ rfl) ?_;refine⟨s1.heap.objs.size,[s1.heap.objs.size],_,_,H1,rfl,I1.kept (t':=s1.toks) λb o e=>Heap.get?_push_of_some _ e,qM7 _ ((n:Int)-1) n,?_,λb hb=>?_,q⟩
 ·have e1:((n:Int)-1)+((0:Nat):Int)*(-1)=(n:Int)-1:=by omega
  have e2:((n:Nat):Int)-((0:Nat):Int)=(n:Int):=by omega
  show IsRangeIter _ _ (((n:Int)-1)+((0:Nat):Int)*(-1)) (((n:Nat):Int)-((0:Nat):Int)) (-1);rw[e1,e2];exact Heap.get?_push_size _ rfl
 ·have e:b=s1.heap.objs.size:=by simpa using hb
  subst e;exact I1.fpOk (hA9 _) (I1.hok.fresh (hA9 _))
end
section
variable{Q:List V->Hp->Prop}{H1:Hp}{σ0:St}{g:TG}{tt:TT}{te:TE}
theorem qLb(Pv:Nat->List V->Hp->Prop)(h0:Pv 0 [] H1)
  (hs:∀i ys H,i<n->Pv i ys H->g (.int (hi-i)) σ0 H λσ2 H2=>Sle σ0 σ2/\tt σ2 H2 λb H3=>if b=true then te σ2 H3 (λv H4=>ys.length<sizeLine/\Nxt n i Pv (ys++[v]) H4) else Nxt n i Pv ys H3)
  (hd:∀ys H,Pv n ys H->Q ys H):qEp (Itd hi n) σ0 g tt te Q H1:=by
 refine⟨λi m ys H=>m=n-i/\i<=n/\Pv i ys H,⟨n,by simp,hAt _,h0⟩,?_⟩;rintro i m ys H ⟨rfl,hi,p⟩;by_cases hlt:i<n
 ·refine .inr ⟨hlt,λx H' y=>?_⟩;obtain⟨e,y⟩:=y;subst e y;exact hs i ys _ hlt p
 ·have e:i=n:=by omega
  subst e;exact .inl ⟨hA9 _,hd ys H p⟩
end
end L2
namespace My
open PySem L2
noncomputable def lpP:Pos:=match (qCb qEg).getD 4 (.Pass ⟨0,0,0,0⟩) with
 |.Return (some (.Call _ _ [⟨_,.Lambda _ _ _ p,_⟩] _)) _=>p
 |_=>⟨0,0,0,0⟩
noncomputable abbrev qL:Str:=("parts" : Str)++".<locals>."++"<lambda>"
noncomputable def qB7(n:Nat):List Nat:=(List.range n).map λi=>2^(n-1-i)
theorem qHa(h:i<n):(qB7 n)[i]?=some (2^(n-1-i)):=by
 unfold qB7;rw[hAl,hD3 h];rfl
theorem qLh(n:Nat):(qB7 n).Perm ((List.range n).map λk=>2^k):=by
 have e:qB7 n=((List.range n).map λk=>2^k).reverse:=by
  refine hDv λi=>?_
  by_cases h:i<n
  ·rw[qHa h,List.getElem?_reverse (by rw[hA1,hB4];exact h),hA1,hB4,hAl,hD3 vG];rfl
  ·rw[hBu (by unfold qB7;rw[hA1,hB4];omega),hBu (by rw[List.length_reverse,hA1,hB4];omega)]
 rw[e];exact List.reverse_perm _
theorem qTc:∀n:Nat,((List.range n).map λk=>2^k).sum=2^n-1
 |0=>rfl
 |n+1=>by
  rw[hCk,hA4,hDh,qTc n,hD7];have:=hCz (n:=n);show 2^n-1+(2^n+0)=_;omega
theorem qNh(n:Nat):Pt (2^n-1) (qB7 n):=Pt.perm ⟨λg hg=>by
  obtain⟨k,_,rfl⟩:=hAe.mp hg;exact hCj (Nat.two_pow_pos k),(BlI.first n).dis,qTc n⟩ (qLh n).symm
theorem qCh(n:Nat):(qB7 n).length=n:=by unfold qB7;rw[hA1,hB4]
def jF(n:Nat)(S:List Nat):List PE1:=joF (2^n-1) (paF S 10 (qB7 n))
theorem qKi(S:List Nat):∀(k:Nat) {gs:List Nat},Sh w gs->gs.length<=k+2->(paF S k gs).length+2<=gs.length
 |0,gs,h,l=>absurd h.l3 vG
 |k+1,gs,h,l=>by
  have l3:=h.l3;unfold paF;split
  ·show 1+2<=_;omega
  ·rename_i c;obtain⟨xl,s1,s2⟩:=qQf c;revert xl s1 s2;generalize fpF (shF S gs) gs.length=x;intro xl s1 s2;obtain⟨t1,t2,t3⟩:=qFi h.pt.nd xl s1 s2;have sp:=qC2 h.pt.nd x;have pn:∀ {l:List Nat},2<=l.length->l≠[]:=λ{l} h z=>by rw[z]at h;exact absurd h (by decide)
   have A:=qKi (w:=w) S k (gs:=beF (rowI gs x) (outF gs (rowI gs x))) ⟨(h.pt.perm sp).beside (pn t2),by rw[qBv];omega⟩ (by rw[qBv];omega);have B:=qKi (w:=w) S k (gs:=beF (outF gs (rowI gs x)) (rowI gs x)) ⟨(h.pt.perm (sp.trans hE9)).beside (pn t1),by rw[qBv];omega⟩ (by rw[qBv];omega);rw[qBv]at A B;rw[hAf];omega
structure JOk(n:Nat)(J:List PE1):Prop where
 sh:∀e∈J,Sh (2^n-1) e.2
 kd:∀e∈J,e.1 = "ring"\/e.1 = "bundle"\/e.1 = "whole"
 ln:J.length<=10
theorem zCk(S:List Nat)(h3:3<=n)(h12:n<=12):JOk n (jF n S)/\JI (2^n-1) [] (paF S 10 (qB7 n))/\(paF S 10 (qB7 n)).length<=10:=by
 have sh:Sh (2^n-1) (qB7 n):=⟨qNh n,by rw[qCh];exact h3⟩;have l:=qKi S 10 sh (by rw[qCh];omega);rw[qCh]at l;have ji:=(qKl S 10 sh (by rw[qCh];omega)).ji;have ja:=ji.all (paF S 10 (qB7 n)).length;rw[hA5 (hA9 _)]at ja;have ln:=qOd (2^n-1) [] (paF S 10 (qB7 n));refine⟨⟨λe he=>ja.sh e (hAg _ he),λe he=>ja.kd e (hAg _ he),?_⟩,ji,by omega⟩;show((paF S 10 (qB7 n)).foldl (joS (2^n-1)) []).length<=10;simp only[List.length_nil]at ln;omega
noncomputable def zDb(aA:List Str)(J:List PE1):List (List (List Str)):=J.map λe=>e.2.map (rowM aA)
def ltJ(aA:List Str)(J:List PE1)(i j:Nat):Bool:=qId ((zDb aA J).getD i []) ((zDb aA J).getD j [])
noncomputable def srtL(aA:List Str)(J:List PE1):List PE1:=(qIt J.length (ltJ aA J)).map λi=>J.getD i ("",[])
abbrev Zt:=Addr×Addr×List Addr
def PrZ(H':Hp)(aA:List Str)(z:Zt)(e:PE1):Prop:=H' z.1=some (.tup [.str e.1,.ref z.2.1])/\H' z.2.1=some (.lst (z.2.2.map V.ref))/\Paired (LsS H') z.2.2 (e.2.map (rowM aA))
theorem PrZ.ext(h:PrZ H aA z e)(x:Ext H H'):PrZ H' aA z e:=⟨x _ _ h.1,x _ _ h.2.1,Paired.mapP h.2.2 λa t y=>x _ _ y⟩
noncomputable def adr(Z:List Zt):List Addr:=Z.flatMap λz=>z.2.1 :: z.2.2
structure NewZ(H:Hp)(Z:List Zt):Prop where
 nd:(adr Z).Nodup
 fr:∀x∈adr Z,H x=none
theorem qVu:∀ {Z:List Zt} {X:List PE1},Paired (PrZ H aA) Z X->∀x∈adr Z,H x≠none
 |_,_,.nil,x,hx=>by cases hx
 |_,_,@Paired.cons _ _ _ z e Z X h t,x,hx=>by
  have hx:x∈(z.2.1 :: z.2.2)++adr Z:=hx;rcases hAb.mp hx with q|q
  ·rcases hAj.mp q with u|u
   ·rw[u,h.2.1];exact λy=>by cases y
   ·obtain⟨r,_,hr⟩:=qEw h.2.2 x u;have hr:H x=some (.lst (r.map V.str)):=hr;rw[hr];exact λy=>by cases y
  ·exact qVu t x q
theorem qQ1(Z:List Zt)(z:Zt):adr (Z++[z])=adr Z++(z.2.1 :: z.2.2):=by
 unfold adr;rw[List.flatMap_append];simp
theorem qK7(p:Z.Perm Z'):(adr Z).Perm (adr Z'):=p.flatMap_right _
def qR8(Pt:Addr):Sp:=λvs H Q _=>∃(T:Addr) (aA:List Str) (rows:List (List Str)),vs=[.ref T]/\qF9 H T aA rows/\rows.length<=24/\3<=aA.length/\aA.length<=12/\TabW H Pt lpP qL /\
 ∀(L:Addr) (Z:List Zt) H',ExtB Pt H H'->H L=none->H' L=some (.lst (Z.map λz=>V.ref z.1))->Paired (PrZ H' aA) Z (srtL aA (jF aA.length (dsF (rows.map (maskF aA)))))->NewZ H Z->L∉adr Z->TabW H' Pt lpP qL->Q (.ref L) H'
theorem qP2(rows:List (List Str)):(dsF (rows.map (maskF aA))).length<=aA.length:=by
 rw[qZu];have lt:=qS7 (xs:=rows.map (maskF aA)) (m:=aA.length) λx hx=>by
  obtain⟨r,_,rfl⟩:=hAe.mp hx;exact qXo _ _
 have rr:=qB1 (rows.map (maskF aA));have:=qP8 (qXr rr) (m:=aA.length) λx hx=>by
  obtain⟨s,hs,rfl⟩:=hAe.mp hx;exact(hDx (rr.nz s hs)).mpr (lt s hs)
 rw[hA1]at this;exact this
theorem qH8:∀ {as:List α} {bs:List β},Paired R as bs->∀ {i:Nat},i<as.length->R (as.getD i a0) (bs.getD i b0)
 |_,_,.nil,i,h=>absurd h (hCe _)
 |_,_,.cons a _,0,_=>a
 |_,_,.cons _ r,i+1,h=>qH8 r (i:=i) (by simpa using h)
theorem qH7:∀ {l:List Nat},(∀i∈l,R (f i) (g i))->Paired R (l.map f) (l.map g)
 |[],_=>.nil
 |i :: l,h=>.cons (h i hA8) (qH7 λj hj=>h j (hA6 _ hj))
section
variable{P:Program}{w:World}{K:PySem.W.Frag}{mg:Str->Option Value}{base:Heap}{f f1 f2 f3 f4 c Pt:Addr}{fd fd1 fd2 fd3 fd4:FuncData}
noncomputable abbrev prN:List Str:=["table","names","singles","found","told"]
theorem qHs:FnScope prN ["table"] (qAc qEg):=fsk
theorem qXc(F:Fun K "parts" "parts" qEg f fd)(hcode:fd.code = .ref c)(hC:PySem.W.CodeHd base c Pt)(hB:base.BuiltinsAt mg Pt)
  (G1:v9 2 f1 fd1 ["found","whole"] qO7 "joined")
  (G2:v9 15 f2 fd2 ["steps","groups"] (qO4 10) "parted")
  (G3:v9 3 f3 fd3 ["table"] qM8 "step_masks")
  (G4:v9 1 f4 fd4 ["names","mask"] qNa "row_of")
  (ml:mg "len"=none) (mr:mg "range"=none) (mrv:mg "reversed"=none) (mso:mg "sorted"=none):v8 16 f fd ["table"] (qR8 Pt):=by
 refine F.okC qHs (λvs H Q E h=>?_) (λA outer s H vs Q E hr h=>?_)
 ·obtain⟨T,aA,rows,rfl,_⟩:=h;rfl
 obtain⟨T,aA,rows,rfl,ti,lr,n3,n12,tw,q⟩:=h;have hr1:=hr.mono (j:=1) (by decide);have hr2:=hr.mono (j:=2) (by decide);have hr3:=hr.mono (j:=3) (by decide);have L:LamAt ((qQp CX0 P w K mg base prN "parts" (qAc qEg) f fd.code A outer s H E).nox) c Pt:=⟨hcode,hC,hB⟩;refine⟨_,qAa (v6 1 qHs (qBe qBq (pv 0) qAb (λ_ _=>rfl)))
  (qAa (qDe (i:=2) (N:=prN) (sc:=qAc qEg) (N':=["place"]) (sub:=[none]) (zA8 rfl mrv (pa1 (qBy qGz rfl mr (by decide +kernel) (pa1 (qAj qAl rfl ml hAy (pa1 (pv 1))))))) (λC s H fp=>⟨qAz,qAg qCd qAb (pv 0)⟩) qHs.nd rfl vE)
  (qAa (v4 3 qHs (qAw G1 hr2 rfl .nil qAv (qAd (qAw G2 hr rfl .nil qAv (qAd (qAw G3 hr3 rfl .nil qAv (pa1 (pv 0))) (pa1 (pv 2)))) (pa1 (qAg qCw (qAg qCd qAb (qAj qAl rfl ml hAy (pa1 (pv 1)))) qAb)))))
  (qAa (qW7 (i:=4) (N:=prN) (sc:=qAc qEg) (N':=["kind","groups","names"]) (sub:=[none,none,some 1]) rfl rfl (CmpOk.of (by decide +kernel)) rfl (qAp (pv 3))
    (λC s H fp=>⟨(show PG _ _ (zCs K 2 _) from qB5 rfl (qAs (qAm (i:=0) (by show(["kind","groups","names"]:List Str).Nodup;decide) rfl vE) (qAs (qAm (i:=1) (by show(["kind","groups","names"]:List Str).Nodup;decide) rfl vE) qBl))),qAz,
     qA6 (qAd (pv 0) (pa1 (qGf (N:=["kind","groups","names"]) (sc:=zD1 _ (qAc qEg)) (N':=["group","names"]) (sub:=[none,some 2]) rfl rfl (CmpOk.of (by decide +kernel)) rfl (show PI _ _ _ (zCp K (qR0 1)) from qAp (pv 1))
      (λC s H fp=>⟨qAm (i:=0) (by show(["group","names"]:List Str).Nodup;decide) rfl vE,qAz,qAw G4 hr1 rfl .nil qAv (qAd (pv 1) (pa1 (pv 0)))⟩))))⟩) qHs.nd rfl vE)
  (qAe (qAt (qN3 (k:=0) (x:="part") (te:=tOp (qNz K) (qR0 0) (tC (.int 1))) L hr2 rfl mso (pa1 (pv 4)) ⟨rfl,rfl,rfl,by decide +kernel,rfl,by decide +kernel,by decide +kernel⟩ rfl rfl (λ_ _ _ _ _ _=>rfl) (λ_ _ _ _ _ _=>qBe (show IxR _ (qNz K) from qBq) (pv 0) qAb (λ_ _=>rfl)) (λa g k H Q h q=>⟨_,rfl,a,_,_,_,rfl,rfl,SqT.of h,(by exact qA0 (j:=1) rfl),q⟩))))))),?_⟩
 obtain⟨ta,tb,hT,hn,hb⟩:=id ti;obtain⟨m,nm⟩:∃m,aA.length=m:=⟨_,rfl⟩;rw[nm]at n3 n12 q;refine⟨_,rfl,T,_,_,_,rfl,rfl,SqT.of hT,(by exact qA0 (j:=0) rfl),?_⟩;have lnm:((aA.map V.str).length:Nat)=m:=by rw[hA1];exact nm
 refine⟨_,rfl,ta,_,rfl,.inl (SqL.of hn),_,rfl,hD9 _,by rw[lnm];omega,λrg hrg=>?_⟩;have n1:=Ext.new hrg (.rng 0 ((aA.map V.str).length:Int));refine⟨rg,(aA.map V.str).length,rfl,upd_same,by rw[lnm];omega,?_⟩;rw[lnm];have lg:=qCh m;refine qLb (hi:=((m:Nat):Int)-1) (n:=m) (λi ys H2=>upd H rg (.rng 0 ((m:Nat):Int))=H2/\ys=((qB7 m).take i).map iV) ⟨rfl,rfl⟩ ?_ ?_
 ·rintro i ys H2 hi ⟨rfl,rfl⟩;have hi':i<(qB7 m).length:=by rw[lg];exact hi
  refine⟨sls,iteT (B:=False) ⟨_,rfl,_,_,rfl,rfl,⟨by omega,by omega,by decide⟩,by rw[hA1,hAm];exact qAf vG,nxt hi ⟨rfl,?_⟩⟩⟩;rw[qAh (hA2 hi'),hA4];show _=_++[iV (qB7 m)[i]];have e:(1:Int)*2^(((m:Nat):Int)-1-(i:Nat)).toNat=(((qB7 m)[i]:Nat):Int):=by
   rw[show((m:Nat):Int)-1-(i:Nat)=((m-1-i:Nat):Int) by omega,qBt];have gi:=qHa hi;rw[hA2 hi']at gi;rw[hAq gi]
  rw[show iV (qB7 m)[i]=V.int ((1:Int)*2^(((m:Nat):Int)-1-(i:Nat)).toNat) from congrArg V.int e.symm]
 ·rintro ys H2 ⟨rfl,rfl⟩ si hsi;rw[show(qB7 m).take m=qB7 m from hA5 (by rw[lg];exact hA9 _)];rw[lnm]at n1;have n2:=n1.trans (Ext.new hsi (.lst ((qB7 m).map iV)));have hsi':upd (upd H rg (.rng 0 ((m:Nat):Int))) si (.lst ((qB7 m).map iV)) si=some (.lst ((qB7 m).map iV)):=upd_same;revert n2 hsi';generalize upd (upd H rg (.rng 0 ((m:Nat):Int))) si (.lst ((qB7 m).map iV))=H2;intro n2 hsi';refine⟨_,rfl,T,aA,rows,rfl,ti.ext n2,lr,λst M H3 e3 st0 hM pM dM=>?_⟩;have E3:=n2.trans e3;rw[show M=dsF (rows.map (maskF aA)) from qK2 pM dM]at hM;have lS:=qP2 (aA:=aA) rows;revert q hM lS;generalize hS:dsF (rows.map (maskF aA))=S;intro q hM lS;have nz:∀s∈S,s≠0:=by rw[<-hS];exact zE9
  obtain⟨jok,ji,lpa⟩:=zCk S n3 n12;refine⟨_,rfl,st,si,S,qB7 m,2^m-1,rfl,hM,e3 _ _ hsi',nz,by omega,qNh m,by rw[lg];exact n3,by rw[lg];exact n12,by rw[lg];omega,by omega,λL1 H4 e4 hL1=>?_⟩;have E4:=E3.trans e4;refine⟨_,rfl,ta,_,rfl,.inl (SqL.of (E4 _ _ hn)),_,_,rfl,rfl,⟨by rw[lnm];omega,by rw[lnm];omega,by decide⟩,_,_,rfl,rfl,?_⟩;have p1:=hCz (n:=m);have wh:(1:Int)*2^(((aA.map V.str).length:Nat):Int).toNat-1=(((2^m-1:Nat)):Int):=by
   rw[lnm,qBt];omega
  refine⟨L1,paF S 10 (qB7 m),2^m-1,m,(by show [V.ref L1,V.int ((1:Int)*2^(((aA.map V.str).length:Nat):Int).toNat-1)]=_;rw[wh]),hL1,ji,by omega,n12,by omega,λL2 H5 e5 hL2=>?_⟩;have E5:=E4.trans e5;obtain⟨js,hj,pj⟩:=hL2;have lj:=pj.length;have jl:=jok.ln;have jJ:joF (2^m-1) (paF S 10 (qB7 m))=jF m S:=rfl;rw[jJ]at pj lj;refine⟨_,rfl,L2,rfl,⟨_,SqL.of hj⟩,?_⟩;refine qAq (xs:=js.map V.ref) (λi ys H6=>Ext H5 H6/\∃Z:List Zt,ys=Z.map (λz=>V.ref z.1)/\Paired (PrZ H6 aA) Z ((jF m S).take i)/\NewZ H Z) ⟨Ext.refl _,[],rfl,.nil,⟨.nil,λx h=>by cases h⟩⟩ (λi ys H6 _ h=>SqL.of (h.1 _ _ hj)) ?_ ?_
  ·rintro i x ys H6 hx ⟨e6,Z,rfl,pt,nz⟩;obtain⟨a,rfl,ha⟩:=qA7 hx;obtain⟨e,he,g,hag,hg⟩:=qAr pj ha;have hi:=qAx ha;have l12:e.2.length<=12:=hAw ((jok.sh e (hAc he)).pt.len (n:=m) vG) n12;refine⟨a,_,rfl,SqT.of (e6 _ _ hag),rfl,_,_,rfl,_,_,rfl,rfl,?_⟩;refine⟨Sle.set _ (sls) (λu z=>by cases z),iteT (B:=False) ?_⟩;refine⟨_,rfl,_,rfl,g,rfl,⟨_,SqL.of (e6 _ _ hg)⟩,?_⟩;refine qAq (xs:=e.2.map iV) (λj ys H7=>Ext H6 H7/\∃gs:List Addr,ys=gs.map V.ref/\Paired (λa r=>LsS H7 a r) gs ((e.2.take j).map (rowM aA))/\gs.Nodup/\∀g∈gs,H6 g=none) ⟨Ext.refl _,[],rfl,.nil,.nil,λg h=>by cases h⟩ (λj ys H7 _ h=>SqL.of (h.1 _ _ (e6 _ _ hg))) ?_ ?_
   ·rintro j v ys H7 hy ⟨e7,gs,rfl,pg,gnd,gfr⟩;obtain⟨x,rfl,hx'⟩:=qB2 hy;have hj':=qAx hx';have lgs:=pg.length;rw[hA1,hAm]at lgs;have E7:=E5.trans (e6.trans e7);refine⟨sls,iteT (B:=False) ⟨_,rfl,_,rfl,ta,aA,x,rfl,E7 _ _ hn,by omega,λr H8 e8 r0 h8=>⟨by rw[hA1];exact qAf vG,nxt (qAx hy) ⟨e7.trans e8,gs++[r],by rw[hA4];rfl,?_,?_,?_⟩⟩⟩⟩
    ·rw[qAh hx',hA4];exact Paired.snoc (Paired.mapP pg λa t z=>e8 _ _ z) h8
    ·rw[hDu];refine⟨gnd,hBz _ _,λa ha b hb z=>?_⟩;rw[hA3]at hb;subst hb;obtain⟨q,_,hq⟩:=qEw pg a ha;have hq:H7 a=some (.lst (q.map V.str)):=hq;rw[z,r0]at hq;cases hq
    ·intro g hg;rcases hAb.mp hg with z|z
     ·exact gfr g z
     ·rw[hA3.mp z];exact e7.none r0
   ·rintro ys H7 ⟨e7,gs,rfl,pg,gnd,gfr⟩ G hG;rw[hA1,hA5 (hA9 _)]at pg;have E7:=E5.trans (e6.trans e7);have n8:=Ext.new hG (.lst (gs.map V.ref));have lts:=pt.length;rw[hAm]at lts;refine⟨(by show 2<=sizeLine;decide),λT' hT'=>?_⟩;have n9:=Ext.new hT' (.tup [V.str e.1,V.ref G]);have n79:=e7.trans (n8.trans n9);refine⟨by rw[hA1];exact qAf vG,nxt (qAx hx) ⟨e6.trans n79,Z++[(T',G,gs)],by rw[hA4];rfl,?_,?_⟩⟩
    ·rw[qAh he];exact Paired.snoc (Paired.mapP pt λa u y=>y.ext n79) ⟨upd_same,n9 _ _ upd_same,Paired.mapP pg λa t z=>(n8.trans n9) _ _ z⟩
    ·have fresh:∀x∈G :: gs,H6 x=none:=λx hx=>by
      rcases hAj.mp hx with q|q
      ·rw[q];exact e7.none hG
      ·exact gfr x q
     refine⟨?_,λx hx=>?_⟩
     ·rw[qQ1,hDu];refine⟨nz.nd,hBb.mpr ⟨λq=>?_,gnd⟩,λa ha b hb z=>?_⟩
      ·obtain⟨u,_,hu⟩:=qEw pg G q;have hu:H7 G=some (.lst (u.map V.str)):=hu;rw[hG]at hu;cases hu
      ·exact qVu pt a ha (by rw[z];exact fresh b hb)
     ·rw[qQ1]at hx;rcases hAb.mp hx with q|q
      ·exact nz.fr x q
      ·exact(E5.trans e6).none (fresh x q)
  ·rintro ys H6 ⟨e6,Z,rfl,pt,nz⟩ to hto;rw[hA1,hA5 vG]at pt;have lts:=pt.length;have eZ:(Z.map λz=>V.ref z.1)=(Z.map (·.1)).map V.ref:=by rw[hB6];rfl
   rw[eZ];have n7:=Ext.new hto (.lst ((Z.map (·.1)).map V.ref));have E7:=E5.trans (e6.trans n7);have tw7:=My.TabW.extE tw E7;have pt7:Paired (PrZ (upd H6 to (.lst ((Z.map (·.1)).map V.ref))) aA) Z (jF m S):=Paired.mapP pt λa u y=>y.ext n7
   have ad7:=qVu pt7;obtain⟨ks,hks1,hks2,hks3⟩:∃ks:List Pk,(ks.map λp=>p.1)=Z.map (·.1)/\(ks.map λp=>p.2.2)=zDb aA (jF m S)/\∀x∈ks,zDc K (upd H6 to (.lst ((Z.map (·.1)).map V.ref))) x:=by
    clear lts tw7 E7 pt q n7 hto eZ nz ad7;revert pt7;unfold zDb;generalize jF m S=J;generalize (upd H6 to (.lst ((Z.map (·.1)).map V.ref)))=H7;intro pt7
    induction pt7 with
    |nil=>exact⟨[],rfl,rfl,λx h=>by cases h⟩
    |@cons zz ee l1 l2 h t ih =>
     obtain⟨ks,k1,k2,k3⟩:=ih;obtain⟨z1,z2,z3⟩:=h;refine⟨(zz.1,zz.2.1,ee.2.map (rowM aA)) :: ks,by rw[hBm,hBm,k1],by rw[hBm,k2];rfl,λx hx=>?_⟩;rcases hAj.mp hx with z|z
     ·rw[z];exact⟨_,z1,_,z2,z3⟩
     ·exact k3 x z
   have lks:ks.length=(jF m S).length:=by have:=congrArg List.length hks2;unfold zDb at this;rw[hA1,hA1]at this;exact this
   refine⟨_,rfl,to,ks,rfl,?_,hks3,by omega,tw7,λr H8 r0 eB hr8 pm tw8=>?_⟩
   ·rw[show(ks.map λp=>V.ref p.1)=(Z.map (·.1)).map V.ref by rw[<-hks1,hB6];rfl];exact SqL.of upd_same
   ·obtain⟨ps,hP⟩:=My.TabW.tb tw7;have ne:∀ {a:Addr} {o:HO},upd H6 to (.lst ((Z.map (·.1)).map V.ref)) a=some o->(∀ps,o≠.tbl ps)->H8 a=some o:=λ{a o} h n=>eB _ _ (λz=>by
     rw[z,hP]at h;exact n _ (hAq h).symm) h
    have el:ltP ks=ltJ aA (jF m S):=by
     funext i j
     unfold ltP ltJ;rw[hks2]
    have pt8:Paired (PrZ H8 aA) Z (jF m S):=Paired.mapP pt7 λa u ⟨z1,z2,z3⟩=>⟨ne z1 (λ_ z=>by cases z),ne z2 (λ_ z=>by cases z),Paired.mapP z3 λa t y=>ne y (λ_ z=>by cases z)⟩
    rw[el,lks]at pm;have lZ:Z.length=(jF m S).length:=pt8.length;have pz:((qIt (jF m S).length (ltJ aA (jF m S))).map λi=>Z.getD i (0,0,[])).Perm Z:=by
     have q:=pm.map λi=>Z.getD i (0,0,[])
     refine q.trans (hE8 ?_);rw[<-lZ];refine hDv λi=>?_
     by_cases hi:i<Z.length
     ·rw[hAl,hD3 hi,hA2 hi];show some (Z.getD i _)=_;rw[hAa,hA2 hi];rfl
     ·rw[hBu (by simp;omega),hBu vG]
    refine q r ((qIt (jF m S).length (ltJ aA (jF m S))).map λi=>Z.getD i (0,0,[])) H8 (E7.toB.trans eB) (E7.none r0) ?_ ?_ ⟨(qK7 pz).symm.nodup nz.nd,λx hx=>nz.fr x ((qK7 pz).mem_iff.mp hx)⟩ (λx=>ad7 r ((qK7 pz).mem_iff.mp x) r0) tw8
    ·rw[hr8];unfold qRr;rw[el,lks,hks1,hB6,hB6];congr 2;refine hBg λi hi=>?_
     have hi':i<Z.length:=by rw[lZ];exact hAv.mp (pm.mem_iff.mp hi)
     show V.ref ((Z.map (·.1)).getD i 0)=V.ref (Z.getD i (0,0,[])).1;rw[hAa,hAa,hAl,hA2 hi'];rfl
    ·unfold srtL;exact qH7 λi hi=>qH8 pt8 (by rw[lZ];exact hAv.mp (pm.mem_iff.mp hi))
end
theorem qCt(a b x:Nat):(a^^^b)&&&x=(a&&&x)^^^(b&&&x):=hAh λi=>by
 simp only[hAr,hAn];cases a.testBit i <;> cases b.testBit i <;> cases x.testBit i <;> rfl
theorem qU5:Spn (S.map λz=>z&&&x) u↔∃z,Spn S z/\z&&&x=u:=by
 constructor
 ·intro h
  induction h with
  |zero=>exact⟨0,.zero,Nat.zero_and x⟩
  |add hm _ ih =>
   obtain⟨z,h1,h2⟩:=ih;obtain⟨s,hs,rfl⟩:=hAe.mp hm;exact⟨s^^^z,.add hs h1,by rw[qCt,h2]⟩
 ·rintro⟨z,h,rfl⟩
  induction h with
  |zero=>rw[Nat.zero_and];exact .zero
  |add hm _ ih =>
   rw[qCt];exact .add (hAu (f:=λz=>z&&&x) hm) ih
theorem qKv:Spn ((sumF S).filter λz=>decide (z&&&x=0)) k↔Spn S k/\k&&&x=0:=by
 constructor
 ·intro h
  induction h with
  |zero=>exact⟨.zero,Nat.zero_and x⟩
  |add hm _ ih =>
   obtain⟨h1,h2⟩:=hAd.mp hm;refine⟨Spn.xor ((qB9 S _).mp h1) ih.1,?_⟩;rw[qCt,hEi h2,ih.2];rfl
 ·rintro⟨h1,h2⟩;exact .mem (hAd.mpr ⟨(qB9 S k).mpr h1,hEf h2⟩)
theorem qQi{α β:Type}{g:α->List β}{c:Nat}:∀ {l:List α},(∀a∈l,(g a).length=c)->(l.flatMap g).length=l.length*c
 |[],_=>by simp
 |a :: l,h=>by
  rw[List.flatMap_cons,hAf,h a hA8,qQi λb hb=>h b (hA6 _ hb),hC9,Nat.succ_mul];omega
theorem qS9{S:List Nat}(r:RR S)(x:Nat):(red (S.map λz=>z&&&x)).length+(red ((sumF S).filter λz=>decide (z&&&x=0))).length=S.length:=by
 have nR:=qHn _ (qB1 (S.map λz=>z&&&x));have nK:=qHn _ (qB1 ((sumF S).filter λz=>decide (z&&&x=0)));have nS:=qHn _ r;have mR:∀u,u∈sumF (red (S.map λz=>z&&&x))↔∃z,Spn S z/\z&&&x=u:=λu=>(qB9 _ u).trans ((qBj _ u).trans qU5)
 have mK:∀k,k∈sumF (red ((sumF S).filter λz=>decide (z&&&x=0)))↔Spn S k/\k&&&x=0:=λk=>(qB9 _ k).trans ((qBj _ k).trans qKv)
 have lR:=qDz (red (S.map λz=>z&&&x));have lK:=qDz (red ((sumF S).filter λz=>decide (z&&&x=0)));have lS:=qDz S;revert nR nK mR mK lR lK;generalize sumF (red (S.map λz=>z&&&x))=A;generalize sumF (red ((sumF S).filter λz=>decide (z&&&x=0)))=B;intro nR nK mR mK lR lK;have ch:∃p:Nat->Nat,∀u∈A,Spn S (p u)/\p u&&&x=u:=by
  refine⟨λu=>Classical.epsilon λz=>Spn S z/\z&&&x=u,λu hu=>?_⟩;exact Classical.epsilon_spec ((mR u).mp hu)
 obtain⟨p,hp⟩:=ch;have perm:(A.flatMap λu=>B.map λk=>p u^^^k).Perm (sumF S):=by
  refine(hC7 ?_ nS).mpr λz=>?_
  ·refine List.pairwise_flatMap.mpr ⟨λu hu=>?_,?_⟩
   ·refine hBp.mpr (nK.imp λ{a b} ne e=>ne ?_);have:=congrArg (λz=>p u^^^z) e;simp only[<-hBe,hBv,hBy]at this;exact this
   ·have:A.Pairwise λa b=>a∈A/\b∈A/\a≠b:=by
     refine hBx (λ{a b} ha hb ne=>⟨ha,hb,ne⟩) nR
    refine this.imp λ{u v} h c hc d hd e=>h.2.2 ?_
    obtain⟨k,hk,rfl⟩:=hAe.mp hc;obtain⟨k',hk',rfl⟩:=hAe.mp hd;have:=congrArg (λz=>z&&&x) e;simp only[qCt,(hp u h.1).2,(hp v h.2.1).2,((mK k).mp hk).2,((mK k').mp hk').2,hEd]at this;exact this
  ·rw[List.mem_flatMap,qB9];constructor
   ·rintro⟨u,hu,hz⟩;obtain⟨k,hk,rfl⟩:=hAe.mp hz;exact Spn.xor (hp u hu).1 ((mK k).mp hk).1
   ·intro hz;have hu:z&&&x∈A:=(mR _).mpr ⟨z,hz,rfl⟩;refine⟨_,hu,hAe.mpr ⟨p (z&&&x)^^^z,(mK _).mpr ⟨Spn.xor (hp _ hu).1 hz,?_⟩,?_⟩⟩
    ·rw[qCt,(hp _ hu).2,hBv]
    ·rw[<-hBe,hBv,hBy]
 have:=perm.length_eq;rw[qQi (c:=B.length) (λa _=>hA1 _),lR,lK,lS,<-Nat.pow_add]at this;exact hEa ((Nat.pow_le_pow_iff_right (by decide)).mp (Nat.le_of_eq this)) ((Nat.pow_le_pow_iff_right (by decide)).mp (Nat.le_of_eq this.symm))
theorem zDz(ha:RR a)(hb:RR b)(h:∀y,Spn a y↔Spn b y):a.length=b.length :=
 ((hC7 ha.nd hb.nd).mpr λs=>⟨qFa ha hb h s,qFa hb ha (λy=>(h y).symm) s⟩).length_eq
def dm(xs:List Nat):Nat:=(red xs).length
theorem qEz(h:∀z∈a,Spn b z):dm a<=dm b:=qWy (qB1 a) (qB1 b) λz hz=>(qBj b z).mpr (Spn.mono h ((qBj a z).mp (.mem hz)))
theorem qEm(xs:List Nat)(e:Nat):(Spn xs e->dm (xs++[e])=dm xs)/\(¬Spn xs e->dm (xs++[e])=dm xs+1):=by
 have rr:=qB1 xs;have key:red1 (red xs) e=0↔Spn xs e:=⟨λz=>by
  have:=qEu (red xs) (red xs) (λs h=>h) e;rw[z,hBy]at this;exact(qBj xs e).mp this,λh=>qG8 rr ((qBj xs e).mpr h)⟩
 unfold dm;rw[qEt];unfold qRf;refine⟨λh=>by rw[hEk (key.mpr h)],λh=>?_⟩;rw[hEj (λz=>h (key.mp z)),hAf,hA1];rfl
theorem qRn(r:RR S):dm S=S.length:=hEa (qWy (qB1 S) r λz hz=>(qBj S z).mp (.mem hz)) (qWy r (qB1 S) λz hz=>(qBj S z).mpr (.mem hz))
def kr(S:List Nat)(x:Nat):List Nat:=red ((sumF S).filter λz=>decide (z&&&x=0))
theorem qB6:Spn (kr S x) k↔Spn S k/\k&&&x=0:=(qBj _ k).trans qKv
theorem zGe(S:List Nat)(x:Nat):RR (kr S x):=qB1 _
theorem qRk(S:List Nat)(x:Nat):dm (kr S x)=(kr S x).length:=qRn (zGe S x)
def Prt(S:List Nat)(x:Nat):Prop:=∃e0,Spn S e0/\¬Spn S (e0&&&x)/\∀e,Spn S e->Spn S (e&&&x)\/Spn S ((e^^^e0)&&&x)
theorem qC9(he:e<2^m):e=(e&&&x)^^^(e&&&((2^m-1)^^^x)):=hAh λi=>by
 rw[hAn,hAr,hAr,hAn,hC4];by_cases c:i<m
 ·rw[hEf c];cases e.testBit i <;> cases x.testBit i <;> rfl
 ·rw[qCo he vG];rfl
theorem qK6(he:e<2^m):e&&&((2^m-1)^^^x)=0↔e&&&x=e:=by
 have h:=qC9 (x:=x) he;constructor
 ·intro z;rw[z,hEd]at h;exact h.symm
 ·intro z;rw[z]at h;have:=congrArg (λy=>e^^^y) h;simp only[hBv]at this;rw[<-hBe,hBv,hBy]at this;exact this.symm
section
variable{S:List Nat}{m:Nat}
theorem qLe(lt:∀s∈S,s<2^m)(x e:Nat):Spn (kr S x++kr S ((2^m-1)^^^x)) e↔Spn S e/\Spn S (e&&&x):=by
 constructor
 ·intro h;obtain⟨a,b,ha,hb,rfl⟩:=qGb h;obtain⟨a1,a2⟩:=qB6.mp ha;obtain⟨b1,b2⟩:=qB6.mp hb;have b3:=(qK6 (Spn.lt lt b1)).mp b2;refine⟨a1.xor b1,?_⟩;rw[qCt,a2,b3,hBy];exact b1
 ·rintro⟨h1,h2⟩;have lt1:=Spn.lt lt h1;have e1:Spn S (e&&&((2^m-1)^^^x)):=by
   have:=h1.xor h2;rw[show e^^^(e&&&x)=e&&&((2^m-1)^^^x) by
    have h:=qC9 (x:=x) lt1
    conv=>lhs;lhs;rw[h]
    rw[hCl (e&&&x),hBe,hBv,hEd]]at this
   exact this
  rw[qC9 (x:=x) lt1];refine Spn.xor (Spn.mono (λz hz=>.mem (hA7 _ hz)) (qB6.mpr ⟨h2,?_⟩)) (Spn.mono (λz hz=>.mem (hAg _ hz)) (qB6.mpr ⟨e1,?_⟩))
  ·exact(qK6 (Spn.lt lt h2)).mpr (by rw[Nat.and_assoc,Nat.and_self])
  ·rw[Nat.and_assoc,Nat.and_comm _ x];refine hAh λi=>?_
   rw[hAr,hAr,hAn,hC4,hB0];by_cases c:i<m
   ·rw[hEf c];cases e.testBit i <;> cases x.testBit i <;> rfl
   ·rw[qCo lt1 vG];rfl
theorem qWa(lt:∀s∈S,s<2^m)(x:Nat):dm (kr S x++kr S ((2^m-1)^^^x))=(kr S x).length+(kr S ((2^m-1)^^^x)).length:=by
 have sp:=qLe lt x;revert sp;have lA:∀z∈kr S x++kr S ((2^m-1)^^^x),z<2^m:=λz hz=>by
  rcases hAb.mp hz with h|h
  ·exact Spn.lt lt (qB6.mp (.mem h)).1
  ·exact Spn.lt lt (qB6.mp (.mem h)).1
 generalize kr S x++kr S ((2^m-1)^^^x)=A at lA;intro sp;have rn:=qS9 (qB1 A) x;have r1:(red ((red A).map λz=>z&&&x)).length=(kr S ((2^m-1)^^^x)).length:=by
  rw[<-qRk];refine hEa (qEz λz hz=>?_) (qEz λz hz=>?_)
  ·obtain⟨e,he,rfl⟩:=hAe.mp hz;obtain⟨e1,e2⟩:=(sp e).mp ((qBj A e).mp (.mem he));exact qB6.mpr ⟨e2,(qK6 (Spn.lt lt e2)).mpr (by rw[Nat.and_assoc,Nat.and_self])⟩
  ·obtain⟨h1,h2⟩:=qB6.mp (.mem hz);have h3:=(qK6 (Spn.lt lt h1)).mp h2;exact qU5.mpr ⟨z,(qBj A z).mpr ((sp z).mpr ⟨h1,by rw[h3];exact h1⟩),h3⟩
 have r2:(red ((sumF (red A)).filter λz=>decide (z&&&x=0))).length=(kr S x).length:=by
  rw[<-qRk];refine hEa (qEz λz hz=>?_) (qEz λz hz=>?_)
  ·obtain⟨h1,h2⟩:=qKv.mp (.mem hz);exact qB6.mpr ⟨((sp z).mp ((qBj A z).mp h1)).1,h2⟩
  ·obtain⟨h1,h2⟩:=qB6.mp (.mem hz);exact qKv.mpr ⟨(qBj A z).mpr ((sp z).mpr ⟨h1,by rw[h2];exact .zero⟩),h2⟩
 have e:dm A=(red A).length:=rfl;omega
theorem zD3(r:RR S)(lt:∀s∈S,s<2^m)(x:Nat):Prt S x↔(kr S x).length+(kr S ((2^m-1)^^^x)).length+1=S.length:=by
 have sp:=qLe lt x;rw[<-qWa lt x];revert sp;have inn:∀z∈kr S x++kr S ((2^m-1)^^^x),Spn S z:=λz hz=>by
  rcases hAb.mp hz with h|h
  ·exact(qB6.mp (.mem h)).1
  ·exact(qB6.mp (.mem h)).1
 generalize kr S x++kr S ((2^m-1)^^^x)=A at inn;intro sp;rw[<-qRn r];constructor
 ·rintro⟨e0,h0,h1,h2⟩;have n0:¬Spn A e0:=λz=>h1 ((sp e0).mp z).2
  rw[<-(qEm A e0).2 n0];refine hEa (qEz λz hz=>?_) (qEz λz hz=>?_)
  ·rcases hAb.mp hz with q|q
   ·exact inn z q
   ·rw[hA3.mp q];exact h0
  ·rcases h2 z (.mem hz) with q|q
   ·exact Spn.mono (λy hy=>.mem (hAg _ hy)) ((sp z).mpr ⟨.mem hz,q⟩)
   ·refine qCa.mpr (.inr ((sp _).mpr ⟨Spn.xor (.mem hz) h0,q⟩))
 ·intro d;have ex:∃e0,e0∈S/\¬Spn A e0:=by
   refine hC0 λno=>?_
   have:dm S<=dm A:=qEz λz hz=>hC0 λq=>no ⟨z,hz,q⟩
   omega
  obtain⟨e0,h0,n0⟩:=ex;refine⟨e0,.mem h0,λz=>n0 ((sp e0).mpr ⟨.mem h0,z⟩),λe he=>?_⟩;have d2:=(qEm A e0).2 n0;have q:Spn (A++[e0]) e:=hC0 λq=>by
   have d3:=(qEm (A++[e0]) e).2 q;have d4:dm (A++[e0]++[e])<=dm S:=qEz λz hz=>by
    rcases hAb.mp hz with y|y
    ·rcases hAb.mp y with u|u
     ·exact inn z u
     ·rw[hA3.mp u];exact .mem h0
    ·rw[hA3.mp y];exact he
   omega
  rcases qCa.mp q with u|u
  ·exact .inl ((sp e).mp u).2
  ·exact .inr ((sp _).mp u).2
theorem qQq(S:List Nat)(i k:Nat):(qHj S i).testBit k=decide (k<S.length/\(S.getD k 0).testBit i=true):=by
 have e:∀l:List Nat,l.filterMap (fC S i)=(l.filter λk=>(S.getD k 0).testBit i).map λk=>2^k:=by
  intro l
  induction l with
  |nil=>rfl
  |cons a l ih =>
   rw[hBs,List.filter_cons,ih];unfold fC;cases(S.getD a 0).testBit i <;> rfl
 unfold qHj;rw[e,qE7 _ (hDn.filter _)];exact decide_eq_decide.mpr (by rw[hAd,hAv])
theorem zCx(S:List Nat)(i:Nat):qHj S i<2^S.length:=hB8 _ λj hj=>by
 rw[qQq,hEg (λz=>by omega)]
theorem zHs(h:Spn S z):∃c,∀i,z.testBit i=dot S.length c (qHj S i):=by
 induction h with
 |zero=>exact⟨0,λi=>by rw[hB0,qX3]⟩
 |add hm _ ih =>
  obtain⟨c,hc⟩:=ih;obtain⟨k,hk,rfl⟩:=List.mem_iff_getElem.mp hm;refine⟨2^k^^^c,λi=>?_⟩;rw[hAn,qX4,<-hc,zCw hk,qQq];congr 1;have g:S.getD k 0=S[k]:=by rw[hAa,hA2 hk];rfl
  rw[g];cases q:S[k].testBit i with
  |true=>exact(hEf ⟨hk,rfl⟩).symm
  |false=>exact(hEg λz=>by cases z.2).symm
structure FE(B:List Nat):Prop where
 nz:∀s∈B,s≠0
 ap:B.Pairwise λs t=>t.testBit s.log2=false
theorem FE.nil:FE []:=⟨λs h=>(by cases h),.nil⟩
theorem FE.mem:∀ {B:List Nat},FE B->∀s∈B,red1 B s=0
 |b :: B,h,s,hs=>by
  obtain⟨h1,h2⟩:=hAs.mp h.ap;have tl:FE B:=⟨λt ht=>h.nz t (hA6 _ ht),h2⟩;show red1 B (rd1 s b)=0;rcases hAj.mp hs with z|z
  ·rw[z];have:rd1 b b=0:=by unfold rd1;rw[hEk (hBo (h.nz b hA8)),hBv]
   rw[this,qEk]
  ·have:rd1 s b=s:=by unfold rd1;rw[hEj (by rw[h1 s z];decide)]
   rw[this];exact tl.mem s z
theorem FE.spn(h:FE B)(hy:Spn B y):red1 B y=0:=by
 induction hy with
 |zero=>exact qEk _
 |add hm _ ih=>rw[qKa,h.mem _ hm,ih];rfl
theorem FE.iff(h:FE B)(c:Nat):red1 B c=0↔Spn B c:=⟨λz=>by
 have:=qEu B B (λs h=>h) c;rw[z,hBy]at this;exact this,h.spn⟩
theorem FE.lead:∀ {B:List Nat},FE B->∀x,∀s∈B,(red1 B x).testBit s.log2=false
 |b :: B,h,x,s,hs=>by
  obtain⟨h1,h2⟩:=hAs.mp h.ap;have tl:FE B:=⟨λt ht=>h.nz t (hA6 _ ht),h2⟩;show(red1 B (rd1 x b)).testBit s.log2=false;rcases hAj.mp hs with z|z
  ·rw[z];have b0:(rd1 x b).testBit b.log2=false:=by
    rw[qCs,hBo (h.nz b hA8)];cases x.testBit b.log2 <;> rfl
   have:∀(B:List Nat),(∀t∈B,t.testBit b.log2=false)->∀y:Nat,y.testBit b.log2=false->(red1 B y).testBit b.log2=false:=by
    intro B
    induction B with
    |nil=>intro _ y hy;exact hy
    |cons t B ih =>
     intro ht y hy;refine ih (λu hu=>ht u (hA6 _ hu)) (rd1 y t) ?_;rw[qCs,hy,ht t hA8,hDs];rfl
   exact this B h1 _ b0
  ·exact tl.lead _ s z
theorem FE.gro(h:FE B)(c:Nat):FE (gro B c):=by
 unfold My.gro;split
 ·exact h
 ·rename_i n;refine⟨λs hs=>?_,hBh.mpr ⟨h.ap,hBz _ _,λs hs t ht=>?_⟩⟩
  ·rcases hAb.mp hs with z|z
   ·exact h.nz s z
   ·rw[hA3.mp z];exact n
  ·rw[hA3.mp ht];exact h.lead c s hs
theorem zCq(c y:Nat):Spn (gro B c) y↔Spn (B++[c]) y:=by
 have k:=qEu B B (λs h=>h) c;unfold gro;split
 ·rename_i z;rw[z,hBy]at k;exact⟨Spn.mono λx hx=>.mem (hAg _ hx),Spn.mono λx hx=>by
   rcases hAb.mp hx with q|q
   ·exact .mem q
   ·rw[hA3.mp q];exact k⟩
 ·have up:∀ {l:List Nat} {y:Nat},Spn B y->Spn (B++l) y:=λh=>Spn.mono (λx hx=>.mem (hAg _ hx)) h
  constructor <;> refine Spn.mono λx hx=>?_
  ·rcases hAb.mp hx with q|q
   ·exact .mem (hAg _ q)
   ·rw[hA3.mp q];have:=(up (l:=[c]) k).xor (.mem (hA7 _ (hA3.mpr rfl)));rw[qAy]at this;exact this
  ·rcases hAb.mp hx with q|q
   ·exact .mem (hAg _ q)
   ·rw[hA3.mp q];have:=(up (l:=[red1 B c]) k).xor (.mem (hA7 _ (hA3.mpr rfl)));rw[hCl (red1 B c) c,qAy]at this;exact this
theorem FE.len(h:FE B)(lt:∀s∈B,s<2^d):B.length<=d:=by
 have nd:(B.map Nat.log2).Nodup:=by
  rw[List.Nodup,hBp];refine hBx (λ{a b} ha hb n e=>?_) h.ap;rw[e,hBo (h.nz b hb)]at n;cases n
 have:=qP8 nd (m:=d) λx hx=>by
  obtain⟨s,hs,rfl⟩:=hAe.mp hx;exact(hDx (h.nz s hs)).mpr (lt s hs)
 rw[hA1]at this;exact this
noncomputable def bC(S cs:List Nat):List Nat:=cs.foldl (λB j=>gro B (qHj S j)) []
theorem qOp(S cs:List Nat)(j:Nat):bC S (cs++[j])=gro (bC S cs) (qHj S j):=by unfold bC;rw[hBt];rfl
theorem zFi(S cs:List Nat):FE (bC S cs)/\(∀y,Spn (bC S cs) y↔Spn (cs.map (qHj S)) y):=by
 refine qG0 (P:=λcs=>FE (bC S cs)/\∀y,Spn (bC S cs) y↔Spn (cs.map (qHj S)) y) ⟨FE.nil,λy=>Iff.rfl⟩ (λl t ih=>?_) cs;rw[qOp];refine⟨ih.1.gro _,λy=>?_⟩;rw[zCq,hA4];show Spn (bC S l++[qHj S t]) y↔Spn (l.map (qHj S)++[qHj S t]) y;rw[qCa,qCa,ih.2,ih.2]
noncomputable def mC(cs:List Nat):Nat:=cs.foldl (λx j=>x ||| 2^j) 0
theorem qL4(cs:List Nat)(i:Nat):(mC cs).testBit i=decide (i∈cs):=by
 refine qG0 (P:=λcs=>(mC cs).testBit i=decide (i∈cs)) (by show Nat.testBit 0 i=_;rw[hB0];rfl) (λl t ih=>?_) cs;have:mC (l++[t])=mC l ||| 2^t:=by unfold mC;rw[hBt];rfl
 rw[this,hCi,ih,hAi];by_cases h1:i∈l
 ·rw[hEf h1,hEf (hAg _ h1)];rfl
 ·by_cases h2:t=i
  ·rw[hEf h2,hEf (hA7 _ (hA3.mpr h2.symm))];cases decide (i∈l) <;> rfl
  ·rw[hEg h1,hEg h2,hEg (λz=>by
    rcases hAb.mp z with q|q
    ·exact h1 q
    ·exact h2 (hA3.mp q).symm)];rfl
theorem and_zero:z&&&x=0↔∀i,z.testBit i=true->x.testBit i=false:=by
 constructor
 ·intro h i hi;have:=congrArg (λy:Nat=>y.testBit i) h;simp only[hAr,hB0,hi,hBw]at this;exact this
 ·intro h;refine hAh λi=>?_
  rw[hAr,hB0];cases q:z.testBit i with
  |false=>rfl
  |true=>rw[h i q];rfl
theorem qRp(S cs:List Nat)(j:Nat):(kr S (mC cs)).length+(bC S cs).length<=(kr S (mC (cs++[j]))).length+(bC S (cs++[j])).length:=by
 obtain⟨fe,sp⟩:=zFi S cs;have mz:∀z,z&&&mC cs=0->z.testBit j=false->z&&&mC (cs++[j])=0:=λz h hj=>and_zero.mpr λi hi=>by
  rw[qL4];refine hEg λq=>?_
  rcases hAb.mp q with q|q
  ·have:=and_zero.mp h i hi;rw[qL4,hEf q]at this;cases this
  ·rw[hA3.mp q,hj]at hi;cases hi
 rw[<-qRk,<-qRk,qOp];by_cases c:Spn (bC S cs) (qHj S j)
 ·have e:gro (bC S cs) (qHj S j)=bC S cs:=hEk ((fe.iff _).mpr c);rw[e];refine Nat.add_le_add_right (qEz λz hz=>?_) _;obtain⟨h1,h2⟩:=qB6.mp (.mem hz);refine qB6.mpr ⟨h1,mz z h2 ?_⟩;obtain⟨k,hk⟩:=zHs h1;rw[hk];refine zAe (l:=cs.map (qHj S)) (λs hs=>?_) ((sp _).mp c);obtain⟨i,hi,rfl⟩:=hAe.mp hs;rw[<-hk];cases q:z.testBit i with
  |false=>rfl
  |true =>
   have:=and_zero.mp h2 i q;rw[qL4,hEf hi]at this;cases this
 ·have e:(gro (bC S cs) (qHj S j)).length=(bC S cs).length+1:=by
   unfold gro;rw[hEj (λz=>c ((fe.iff _).mp z)),hAf];rfl
  rw[e];have:dm (kr S (mC cs))<=dm (kr S (mC (cs++[j])))+1:=by
   by_cases ex:∃s,Spn S s/\s&&&mC cs=0/\s.testBit j=true
   ·obtain⟨s,h1,h2,h3⟩:=ex;refine hAw (qEz (b:=kr S (mC (cs++[j]))++[s]) λz hz=>?_) ?_
    ·obtain⟨k1,k2⟩:=qB6.mp (.mem hz);cases q:z.testBit j with
     |false=>exact qCa.mpr (.inl (qB6.mpr ⟨k1,mz z k2 q⟩))
     |true=>exact qCa.mpr (.inr (qB6.mpr ⟨k1.xor h1,mz _ (by rw[qCt,k2,h2];rfl) (by rw[hAn,q,h3];rfl)⟩))
    ·by_cases q:Spn (kr S (mC (cs++[j]))) s
     ·rw[(qEm _ s).1 q];omega
     ·rw[(qEm _ s).2 q];exact hA9 _
   ·refine Nat.le_succ_of_le (qEz λz hz=>?_);obtain⟨k1,k2⟩:=qB6.mp (.mem hz);refine qB6.mpr ⟨k1,mz z k2 ?_⟩;cases q:z.testBit j with
    |false=>rfl
    |true=>exact absurd ⟨z,k1,k2,q⟩ ex
  omega
theorem qJh(S cs:List Nat):∀ds:List Nat,(kr S (mC cs)).length+(bC S cs).length<=(kr S (mC (cs++ds))).length+(bC S (cs++ds)).length:=by
 intro ds;refine qG0 (P:=λds=>(kr S (mC cs)).length+(bC S cs).length<=(kr S (mC (cs++ds))).length+(bC S (cs++ds)).length) (by rw[hCc];exact hA9 _) (λl t ih=>?_) ds;rw[<-List.append_assoc];exact hAw ih (qRp S (cs++l) t)
theorem qX7(r:RR S)(lt:∀s∈S,s<2^m)(cs:List Nat):(kr S (mC cs)).length+(bC S cs).length=S.length:=by
 have h1:=qJh S [] cs;have h2:=qJh S cs (List.range m);have z1:(kr S (mC [])).length=S.length:=by
  rw[<-qRk,<-qRn r];refine hEa (qEz λz hz=>(qB6.mp (.mem hz)).1) (qEz λz hz=>qB6.mpr ⟨.mem hz,by show z&&&0=0;exact Nat.and_zero _⟩)
 have z2:(kr S (mC (cs++List.range m))).length=0:=by
  rw[<-qRk];have:dm (kr S (mC (cs++List.range m)))<=dm []:=qEz λz hz=>by
   obtain⟨k1,k2⟩:=qB6.mp (.mem hz);have:z=0:=hAh λi=>by
    rw[hB0];cases q:z.testBit i with
    |false=>rfl
    |true =>
     have:=and_zero.mp k2 i q;rw[qL4]at this;have hi:i<m:=by
      by_cases c:i<m
      ·exact c
      ·rw[qCo (Spn.lt lt k1) vG]at q;cases q
     rw[hEf (hA7 _ (hAv.mpr hi))]at this;cases this
   rw[this];exact .zero
  exact Nat.le_zero.mp this
 have b2:(bC S (cs++List.range m)).length<=S.length:=by
  obtain⟨fe,sp⟩:=zFi S (cs++List.range m);refine fe.len λs hs=>?_
  refine Spn.lt (l:=(cs++List.range m).map (qHj S)) (λx hx=>?_) ((sp s).mp (.mem hs));obtain⟨i,_,rfl⟩:=hAe.mp hx;exact zCx S i
 have b0:(bC S []).length=0:=rfl;rw[List.nil_append]at h1;omega
def bits(m x:Nat):List Nat:=(List.range m).filter λi=>x.testBit i
theorem qVj(S:List Nat):∀(m x:Nat),x<2^m->(bsF S m).getD x []=bC S (bits m x)
 |0,x,h=>by
  have:x=0:=by omega
  subst this;rfl
 |m+1,x,h=>by
  have l:=(qMr S m).2;show(bsF S m++(bsF S m).map λB=>gro B (qHj S m)).getD x []=_;unfold bits;rw[hCk,hBr];by_cases c:x<2^m
  ·rw[hAa,hD4 (by rw[l];exact c),<-hAa,qVj S m x c];have:x.testBit m=false:=qCo c (hA9 _);rw[hCp (by rw[this];decide),hDw,hCc];rfl
  ·have b:x.testBit m=true:=by
    rw[hD2];have:x / 2^m=1:=Nat.div_eq_of_lt_le vG (by rw[hD7]at h;omega);rw[this];rfl
   have xs:x-2^m<2^m:=by rw[hD7]at h;omega
   rw[hCo (by rw[b]),hDw,qOp];rw[hAa,hDl (by rw[l];omega),l,hAl];have g:(bsF S m)[x-2^m]?=some ((bsF S m).getD (x-2^m) []):=by
    rw[hAa,hA2 (by rw[l];exact xs)];rfl
   rw[g,qVj S m _ xs];show gro (bC S (bits m (x-2^m))) (qHj S m)=_;congr 2;refine List.filter_congr λi hi=>?_
   have hi':=hAv.mp hi;rw[show x=2^m+(x-2^m) by omega,Nat.testBit_two_pow_add_gt hi'];rw[show 2^m+(x-2^m)-2^m=x-2^m by omega]
theorem zCc(h:x<2^m):mC (bits m x)=x:=hAh λi=>by
 rw[qL4];unfold bits;by_cases c:i<m
 ·cases q:x.testBit i with
  |true=>exact hEf (hAd.mpr ⟨hAv.mpr c,q⟩)
  |false=>exact hEg λz=>by rw[(hAd.mp z).2]at q;cases q
 ·rw[qCo h vG];exact hEg λz=>c (hAv.mp (hAd.mp z).1)
theorem qYd(r:RR S)(lt:∀s∈S,s<2^m)(hx:x<2^m):(wF m S).getD x 0+(kr S x).length=S.length:=by
 have h:=qX7 r lt (bits m x);rw[zCc hx,<-qVj S m x hx]at h;have:(wF m S).getD x 0=((bsF S m).getD x []).length:=by
  unfold wF;rw[hAa,hAa,hAl];cases(bsF S m)[x]? <;> rfl
 rw[this];omega
theorem qOw(hx:x<2^m):(2^m-1)^^^x<2^m:=hCg (by have:=hCz (n:=m);omega) hx
theorem zA2(r:RR S)(lt:∀s∈S,s<2^m)(hx:x<2^m):(wF m S).getD x 0+(wF m S).getD ((2^m-1)^^^x) 0=S.length+1↔Prt S x:=by
 rw[zD3 r lt x];have h1:=qYd r lt hx;have h2:=qYd r lt (qOw hx);omega
end
theorem qFu(row:List Nat)(gs:List Nat):∀j,(qC4 gs row).testBit j=(decide (j<gs.length) && decide (∃g,gs[gs.length-1-j]?=some g/\g∈row)):=by
 refine qG0 (P:=λgs=>∀j,(qC4 gs row).testBit j=(decide (j<gs.length) && decide (∃g,gs[gs.length-1-j]?=some g/\g∈row))) (λj=>by show Nat.testBit 0 j=_;rw[hB0];rfl) (λl t ih j=>?_) gs;rw[qGh,hAf];cases j with
 |zero =>
  have g:(l++[t])[l.length+1-1-0]?=some t:=by rw[show l.length+1-1-0=l.length by omega,hDl (hA9 _),Nat.sub_self];rfl
  show(2*qC4 l row+if t∈row then 1 else 0).testBit 0=(decide (0<l.length+1) && decide (∃g,(l++[t])[l.length+1-1-0]?=some g/\g∈row));rw[g,hEf (Nat.succ_pos _),hBw,hB5];by_cases c:t∈row
  ·have q:decide (∃g,some t=some g/\g∈row)=true:=hEf ⟨t,rfl,c⟩;rw[hEk c,q];exact hEf vG
  ·have q:decide (∃g,some t=some g/\g∈row)=false:=hEg λ⟨g,h1,h2⟩=>c (by cases h1;exact h2)
   rw[hEj c,q];exact hEg vG
 |succ j =>
  have d:(2*qC4 l row+if t∈row then 1 else 0) / 2=qC4 l row:=by split <;> omega
  rw[hCn,d,ih];have e:decide (j+1<l.length + [t].length)=decide (j<l.length):=decide_eq_decide.mpr (by show j+1<l.length+1↔_;omega);rw[e];by_cases c:j<l.length
  ·have g:(l++[t])[l.length + [t].length-1-(j+1)]?=l[l.length-1-j]?:=by
    rw[show l.length + [t].length-1-(j+1)=l.length-1-j by show l.length+1-1-(j+1)=_;omega,hD4 vG]
   rw[g]
  ·rw[hEg c];rfl
def phF(S gs:List Nat)(e:Nat):Nat:=qC4 gs (gs.filter (crB S e))
theorem qE2(S gs:List Nat)(e:Nat):phF S gs e<2^gs.length:=hB8 _ λj hj=>by
 unfold phF;rw[qFu,hEg vG];rfl
theorem qDp(hi:gs[i]?=some g):(phF S gs e).testBit (gs.length-1-i)=crB S e g:=by
 have hl:=qAx hi;unfold phF;rw[qFu,hEf vG,hBw,show gs.length-1-(gs.length-1-i)=i by omega,hi];cases c:crB S e g with
 |true=>exact hEf ⟨g,rfl,hAd.mpr ⟨hAc hi,c⟩⟩
 |false =>
  refine hEg λz=>?_
  obtain⟨g',h1,h2⟩:=z;cases h1;have:=(hAd.mp h2).2;rw[this]at c;cases c
theorem qNk(h:sgl g=true)(nz:g≠0):g=2^g.log2:=by
 refine hAh λi=>?_
 rw[hAi];by_cases c:g.log2=i
 ·rw[hEf c,<-c,hBo nz]
 ·rw[hEg c];cases q:g.testBit i with
  |false=>rfl
  |true =>
   have z:g&&&(g-1)=0:=hEi h;exfalso;have lt:i<g.log2:=by have:=zAa q;omega
   have b:(g-1).testBit g.log2=true:=by
    have h1:2^g.log2<=g:=qV6 (hBo nz);have h2:2^g.log2≠g:=λe=>by
     have q':(2^g.log2).testBit i=true:=by rw[e];exact q
     rw[hAi]at q';exact c (hEi q')
    have h3:g<2^(g.log2+1):=hDm;rw[hD2,Nat.div_eq_of_lt_le (k:=1) vG (by rw[hD7]at h3;omega)];rfl
   have:=congrArg (λy:Nat=>y.testBit g.log2) z;simp only[hAr,hB0,hBo nz,b]at this;cases this
section
variable{S:List Nat}{m:Nat}
def Gok(S:List Nat)(g:Nat):Prop:=g≠0/\(sgl g=true\/Prt S g)
theorem qCn(r:RR S)(ng:sgl g=false):crB S e g=false↔Spn S (e&&&g):=by
 unfold crB;rw[hEj (by rw[ng];decide)];have k:red1 S (e&&&g)=0↔Spn S (e&&&g):=⟨λz=>by
  have:=qEu S S (λs h=>h) (e&&&g);rw[z,hBy]at this;exact this,qG8 r⟩
 constructor
 ·intro h;refine k.mp ?_;cases q:decide (red1 S (e&&&g)=0) with
  |true=>exact hEi q
  |false=>rw[q]at h;cases h
 ·intro h;rw[hEf (k.mpr h)];rfl
theorem qMk(h:sgl g=true)(nz:g≠0):crB S e g=e.testBit g.log2:=by
 unfold crB;rw[hEk h];have e1:=qNk h nz;cases q:e.testBit g.log2 with
 |true =>
  have:=(qOr e g.log2).mpr q;rw[<-e1]at this;rw[hEg this];rfl
 |false =>
  have:e&&&g=0:=hC0 λz=>by
   rw[e1]at z;have:=(qOr e _).mp z;rw[q]at this;cases this
  rw[hEf this];rfl
theorem qOj(r:RR S)(ok:g≠0)(z:e&&&g=0):crB S e g=false:=by
 cases h:sgl g with
 |true =>
  unfold crB;rw[hEk h,hEf z];rfl
 |false=>exact(qCn r h).mpr (by rw[z];exact .zero)
theorem qU7(r:RR S)(nz:g≠0)(h:crB S e g=false):Spn S (e&&&g):=by
 cases q:sgl g with
 |true =>
  unfold crB at h;rw[hEk q]at h;have:e&&&g=0:=by
   cases d:decide (e&&&g=0) with
   |true=>exact hEi d
   |false=>rw[d]at h;cases h
  rw[this];exact .zero
 |false=>exact(qCn r q).mp h
theorem qMl(r:RR S)(ok:Gok S g)(he:Spn S e)(he':Spn S e'):crB S (e^^^e') g=(crB S e g ^^ crB S e' g):=by
 obtain⟨nz,h⟩:=ok;cases q:sgl g with
 |true=>rw[qMk q nz,qMk q nz,qMk q nz,hAn]
 |false =>
  obtain⟨e0,k0,k1,k2⟩:=h.resolve_left (by rw[q];decide);have key:∀e,Spn S e->crB S e g=true->Spn S ((e^^^e0)&&&g):=λe h c=>by
   rcases k2 e h with z|z
   ·rw[(qCn r q).mpr z]at c;cases c
   ·exact z
  cases c1:crB S e g with
  |false =>
   have h1:=(qCn r q).mp c1;cases c2:crB S e' g with
   |false=>exact(qCn r q).mpr (by rw[qCt];exact h1.xor ((qCn r q).mp c2))
   |true =>
    cases c3:crB S (e^^^e') g with
    |true=>rfl
    |false =>
     have h3:=(qCn r q).mp c3;rw[qCt]at h3;have:=h1.xor h3;rw[<-hBe,hBv,hBy]at this;rw[(qCn r q).mpr this]at c2;cases c2
  |true =>
   cases c2:crB S e' g with
   |false =>
    have h2:=(qCn r q).mp c2;cases c3:crB S (e^^^e') g with
    |true=>rfl
    |false =>
     have h3:=(qCn r q).mp c3;rw[qCt]at h3;have:=h3.xor h2;rw[qAy]at this;rw[(qCn r q).mpr this]at c1;cases c1
   |true =>
    refine(qCn r q).mpr ?_;have:=(key e he c1).xor (key e' he' c2);rw[<-qCt]at this;rw[show e^^^e0^^^(e'^^^e0)=e^^^e' by
     rw[hCl e' e0,<-hBe,qAy]]at this
    exact this
theorem qH4(r:RR S)(ok:∀g∈gs,Gok S g)(he:Spn S e)(he':Spn S e'):phF S gs (e^^^e')=phF S gs e^^^phF S gs e':=hAh λj=>by
 rw[hAn];by_cases c:j<gs.length
 ·have hi:gs[gs.length-1-j]?=some (gs[gs.length-1-j]' vG):=hA2 _;have t:=λe=>qDp (S:=S) (e:=e) hi
  rw[show gs.length-1-(gs.length-1-j)=j by omega]at t;rw[t,t,t,qMl r (ok _ (hAc hi)) he he']
 ·rw[qCo (qE2 S gs _) vG,qCo (qE2 S gs _) vG,qCo (qE2 S gs _) vG];rfl
theorem qH3(r:RR S)(ok:∀g∈gs,Gok S g):phF S gs 0=0:=by
 have:=qH4 r ok (Spn.zero (l:=S)) (Spn.zero (l:=S));rw[hBv,hBv]at this;exact this
theorem qDc(r:RR S)(ok:∀g∈gs,Gok S g)(t:Nat):Spn (shF S gs) t↔∃e,Spn S e/\phF S gs e=t:=by
 have h0:Spn (shF S gs) t↔Spn (S.map (phF S gs)) t:=by
  unfold shF dsF;have p:∀y,Spn ((red (S.map λe=>qC4 gs (gs.filter (crB S e)))).mergeSort λa b=>decide (b<=a)) y↔Spn (red (S.map (phF S gs))) y:=λy =>
   ⟨Spn.mono λx hx=>.mem ((hCu _ _).mem_iff.mp hx),Spn.mono λx hx=>.mem ((hCu _ _).mem_iff.mpr hx)⟩
  rw[p,qBj]
 rw[h0];clear h0;constructor
 ·intro h
  induction h with
  |zero=>exact⟨0,.zero,qH3 r ok⟩
  |add hm _ ih =>
   obtain⟨e,h1,h2⟩:=ih;obtain⟨s,hs,rfl⟩:=hAe.mp hm;exact⟨s^^^e,.add hs h1,by rw[qH4 r ok (.mem hs) h1,h2]⟩
 ·rintro⟨e,h,rfl⟩
  induction h with
  |zero=>rw[qH3 r ok];exact .zero
  |add hm h ih =>
   rw[qH4 r ok (.mem hm) h];exact .add (hAu hm) ih
theorem qQ2(h:g&&&s=0):g+s=g ||| s:=by
 have d:Dis [g,s]:=hAs.mpr ⟨λx hx=>by rw[hA3.mp hx];exact h,hBz _ _⟩;refine hAh λi=>?_
 have:=qBi d i;rw[show [g,s].sum=g+s by simp]at this;rw[hCi];cases a:(g+s).testBit i with
 |true =>
  obtain⟨x,hx,hb⟩:=this.mp a;rcases hAj.mp hx with z|z
  ·rw[<-z,hb];rfl
  ·rw[<-hA3.mp z,hb];cases g.testBit i <;> rfl
 |false =>
  cases b:g.testBit i with
  |true=>rw[this.mpr ⟨g,hA8,b⟩]at a;cases a
  |false =>
   cases c:s.testBit i with
   |true=>rw[this.mpr ⟨s,hA6 _ (hA3.mpr rfl),c⟩]at a;cases a
   |false=>rfl
theorem qVt(h:g&&&s=0):y&&&(g+s)=(y&&&g)^^^(y&&&s):=by
 have e:g+s=g ||| s:=qQ2 h
 rw[e];refine hAh λi=>?_
 have z:=congrArg (λx:Nat=>x.testBit i) h;simp only[hAr,hB0]at z;rw[hAr,hCi,hAn,hAr,hAr];revert z;cases y.testBit i <;> cases g.testBit i <;> cases s.testBit i <;> simp
theorem qJm:∀ {l:List Nat},Dis l->(∀g∈l,Spn S (y&&&g))->Spn S (y&&&l.sum)
 |[],_,_=>by show Spn S (y&&&0);rw[Nat.and_zero];exact .zero
 |g :: l,d,h=>by
  obtain⟨d1,d2⟩:=hAs.mp d;have z:g&&&l.sum=0:=and_zero.mpr λi hi=>by
   cases q:l.sum.testBit i with
   |false=>rfl
   |true =>
    obtain⟨c,hc,hb⟩:=(qBi d2 i).mp q;exact(qBp (d1 c hc) hi hb).elim
  rw[hCy,qVt z];exact(h g hA8).xor (qJm d2 λc hc=>h c (hA6 _ hc))
theorem qGn(r:RR S)(pt:Pt w gs)(lw:∀s∈S,∀i,s.testBit i=true->w.testBit i=true)(ok:∀g∈gs,Gok S g)(x:Nat)(he:Spn S e) :
  Spn S (e&&&(rowI gs x).sum)↔Spn (shF S gs) (phF S gs e&&&x):=by
 have sp:=qC2 pt.nd x;have pd:=pt.perm sp;obtain⟨d1,d2,d3⟩:=hBh.mp pd.di;have lwe:∀ {e},Spn S e->∀i,e.testBit i=true->w.testBit i=true:=λ{e} h i hi=>by
  cases q:w.testBit i with
  |true=>rfl
  |false =>
   have:=qJs (l:=S) (j:=i) (λs hs=>by
    cases z:s.testBit i with
    |false=>rfl
    |true=>rw[lw s hs i z]at q;cases q) h
   rw[this]at hi;cases hi
 have inn:∀ {i g:Nat},gs[i]?=some g->(g∈rowI gs x↔x.testBit (gs.length-1-i)=true):=λ{i g} hi=>by
  rw[qHd];constructor
  ·rintro⟨u,hu,h1,h2⟩;rw[qTu pt.nd hi h1];exact h2
  ·intro h;exact⟨i,qAx hi,hi,h⟩
 constructor
 ·intro h;refine(qDc r ok _).mpr ⟨_,h,hAh λj=>?_⟩;rw[hAr];by_cases c:j<gs.length
  ·have hi:gs[gs.length-1-j]?=some (gs[gs.length-1-j]' vG):=hA2 _;have t:=λe=>qDp (S:=S) (e:=e) hi
   have q:=inn hi;rw[show gs.length-1-(gs.length-1-j)=j by omega]at t q;rw[t,t];generalize gs[gs.length-1-j]' vG=g at hi t q;have gm:g∈gs:=hAc hi;cases b:x.testBit j with
   |true =>
    rw[Bool.and_true];have:e&&&(rowI gs x).sum&&&g=e&&&g:=hAh λi=>by
     rw[hAr,hAr,hAr];cases z:g.testBit i with
     |false=>rw[hDs,hDs]
     |true=>rw[(qBi d1 i).mpr ⟨g,q.mpr b,z⟩,Bool.and_true]
    unfold crB;rw[this]
   |false =>
    rw[hDs];refine qOj r (pt.nz g gm) ?_;rw[Nat.and_assoc];have:(rowI gs x).sum&&&g=0:=and_zero.mpr λi hi'=>by
     obtain⟨c',hc,hb⟩:=(qBi d1 i).mp hi';cases z:g.testBit i with
     |false=>rfl
     |true =>
      have go:g∈outF gs (rowI gs x):=hAd.mpr ⟨gm,by rw[hEg (λy=>by rw[q.mp y]at b;cases b)];rfl⟩;exact(qBp (d3 c' hc g go) hb z).elim
    rw[this,Nat.and_zero]
  ·rw[qCo (qE2 S gs _) vG,qCo (qE2 S gs _) vG];rfl
 ·intro h;obtain⟨e1,h1,h2⟩:=(qDc r ok _).mp h;have bit:∀ {i g:Nat},gs[i]?=some g->crB S e1 g=(crB S e g && x.testBit (gs.length-1-i)):=λ{i g} hi=>by
   have:=congrArg (λy:Nat=>y.testBit (gs.length-1-i)) h2;simp only[hAr,qDp hi]at this;exact this
  have ix:∀ {g:Nat},g∈gs->∃i:Nat,gs[i]?=some g:=λ{g} hg=>by
   obtain⟨i,hi,e⟩:=List.mem_iff_getElem.mp hg;exact⟨i,by rw[hA2 hi,e]⟩
  have s1:Spn S ((e^^^e1)&&&(rowI gs x).sum):=qJm d1 λg hg=>by
   have gm:=(qJ5 gs x).subset hg;obtain⟨i,hi⟩:=ix gm;refine qU7 r (pt.nz g gm) ?_;rw[qMl r (ok g gm) he h1,bit hi,(inn hi).mp hg,Bool.and_true];cases crB S e g <;> rfl
  have s2:Spn S (e1&&&(outF gs (rowI gs x)).sum):=qJm d2 λg hg=>by
   obtain⟨gm,hn⟩:=hAd.mp hg;obtain⟨i,hi⟩:=ix gm;refine qU7 r (pt.nz g gm) ?_;rw[bit hi];cases b:x.testBit (gs.length-1-i) with
   |false=>rw[hDs]
   |true=>rw[hEf ((inn hi).mpr b)]at hn;cases hn
  have s3:Spn S (e1&&&(rowI gs x).sum):=by
   have z:(rowI gs x).sum&&&(outF gs (rowI gs x)).sum=0:=and_zero.mpr λi hi=>by
    obtain⟨c,hc,hb⟩:=(qBi d1 i).mp hi;cases q:(outF gs (rowI gs x)).sum.testBit i with
    |false=>rfl
    |true =>
     obtain⟨c',hc',hb'⟩:=(qBi d2 i).mp q;exact(qBp (d3 c hc c' hc') hb hb').elim
   have a:=qVt (y:=e1) z;have full:e1&&&((rowI gs x).sum+(outF gs (rowI gs x)).sum)=e1:=by
    rw[<-hDh,pd.su];refine hAh λi=>?_
    rw[hAr];cases q:e1.testBit i with
    |false=>rfl
    |true=>rw[lwe h1 i q];rfl
   rw[full]at a;have:=h1.xor s2;generalize he1:e1&&&(outF gs (rowI gs x)).sum=u at this a;rw[a,qAy]at this;exact this
  have:=s1.xor s3;rw[<-qCt,qAy]at this;exact this
theorem zA1(r:RR S)(pt:Pt w gs)(lw:∀s∈S,∀i,s.testBit i=true->w.testBit i=true)(ok:∀g∈gs,Gok S g)(x:Nat):Prt (shF S gs) x↔Prt S (rowI gs x).sum:=by
 constructor
 ·rintro⟨t0,h0,h1,h2⟩;obtain⟨e0,k0,rfl⟩:=(qDc r ok _).mp h0;refine⟨e0,k0,λz=>h1 ((qGn r pt lw ok x k0).mp z),λe he=>?_⟩;rcases h2 _ ((qDc r ok _).mpr ⟨e,he,rfl⟩) with z|z
  ·exact .inl ((qGn r pt lw ok x he).mpr z)
  ·exact .inr ((qGn r pt lw ok x (he.xor k0)).mpr (by rw[qH4 r ok he k0];exact z))
 ·rintro⟨e0,h0,h1,h2⟩;refine⟨phF S gs e0,(qDc r ok _).mpr ⟨e0,h0,rfl⟩,λz=>h1 ((qGn r pt lw ok x h0).mpr z),λt ht=>?_⟩;obtain⟨e,he,rfl⟩:=(qDc r ok _).mp ht;rcases h2 e he with z|z
  ·exact .inl ((qGn r pt lw ok x he).mp z)
  ·exact .inr (by rw[<-qH4 r ok he h0];exact(qGn r pt lw ok x (he.xor h0)).mp z)
theorem zD4(lt:∀s∈S,s<2^m)(h:Prt S g):Prt S ((2^m-1)^^^g):=by
 have k:∀ {e},Spn S e->(Spn S (e&&&((2^m-1)^^^g))↔Spn S (e&&&g)):=λ{e} he=>by
  have s:=qC9 (x:=g) (Spn.lt lt he);constructor
  ·intro h;have:=he.xor h
   conv at this=>arg 2;lhs;rw[s]
   rw[qAy]at this;exact this
  ·intro h;have:=h.xor he
   conv at this=>arg 2;rhs;rw[s]
   rw[<-hBe,hBv,hBy]at this;exact this
 obtain⟨e0,h0,h1,h2⟩:=h;refine⟨e0,h0,λz=>h1 ((k h0).mp z),λe he=>?_⟩;rcases h2 e he with z|z
 ·exact .inl ((k he).mpr z)
 ·exact .inr ((k (he.xor h0)).mpr z)
end
theorem zCt(h:fpF S m≠0):prB S m (fpF S m)=true:=by
 unfold fpF at h ⊢;cases e:(List.range (2^(m-1))).find? (prB S m) with
 |none=>rw[e]at h;exact absurd rfl h
 |some x=>exact List.find?_some e
theorem qRm(xs:List Nat):RR (dsF xs):=(qB1 xs).perm (hCu _ _)
theorem qWf(S gs:List Nat):∀t∈shF S gs,t<2^gs.length:=λt ht=>qS7 (xs:=S.map (phF S gs)) (λx hx=>by
 obtain⟨e,_,rfl⟩:=hAe.mp hx;exact qE2 S gs e) t (qMh.mp ht)
theorem qQe:(2^n-1).testBit i=true↔i<n:=by rw[hC4];exact hEl
section
variable{S:List Nat}{n:Nat}
structure PcI(S:List Nat)(w:Nat)(gs:List Nat)(L:List PE1):Prop where
 ok:∀e∈L,∀g∈e.2,Gok S g
 cv:∀g∈gs,∃e∈L,g∈e.2
 co:∀e∈L,∀g∈e.2,g∈gs\/∃e'∈L,w^^^g∈e'.2
theorem qZy(h:Pt w (a++b)):w^^^a.sum=b.sum/\w^^^b.sum=a.sum:=by
 obtain⟨d1,d2,d3⟩:=hBh.mp h.di;have key:∀i,w.testBit i=(a.sum.testBit i ^^ b.sum.testBit i):=λi=>by
  have hw:=h.bit i;have ha:=qBi d1 i;have hb:=qBi d2 i;cases p:a.sum.testBit i with
  |true =>
   obtain⟨g,hg,gb⟩:=ha.mp p;rw[hw.mpr ⟨g,hAg _ hg,gb⟩];cases q:b.sum.testBit i with
   |false=>rfl
   |true =>
    obtain⟨g',hg',gb'⟩:=hb.mp q;exact(qBp (d3 g hg g' hg') gb gb').elim
  |false =>
   cases q:b.sum.testBit i with
   |true =>
    obtain⟨g,hg,gb⟩:=hb.mp q;rw[hw.mpr ⟨g,hA7 _ hg,gb⟩];rfl
   |false =>
    cases u:w.testBit i with
    |false=>rfl
    |true =>
     obtain⟨g,hg,gb⟩:=hw.mp u;rcases hAb.mp hg with z|z
     ·rw[ha.mpr ⟨g,z,gb⟩]at p;cases p
     ·rw[hb.mpr ⟨g,z,gb⟩]at q;cases q
 constructor <;> refine hAh λi=>?_ <;> rw[hAn,key] <;> cases a.sum.testBit i <;> cases b.sum.testBit i <;> rfl
theorem qTh(r:RR S)(lt:∀s∈S,s<2^n):∀(k:Nat) {gs:List Nat},Sh (2^n-1) gs->gs.length<=k+2->(∀g∈gs,Gok S g)->PcI S (2^n-1) gs (paF S k gs)
 |0,gs,h,l,_=>absurd h.l3 vG
 |k+1,gs,h,l,ok=>by
  have lw:∀s∈S,∀i,s.testBit i=true->(2^n-1).testBit i=true:=λs hs i hi=>qQe.mpr (by
   by_cases c:i<n
   ·exact c
   ·rw[qCo (lt s hs) vG]at hi;cases hi)
  unfold paF;split
  ·refine⟨λe he=>?_,λg hg=>⟨_,hA3.mpr rfl,hg⟩,λe he g hg=>.inl ?_⟩
   ·rw[hA3.mp he];exact ok
   ·rw[hA3.mp he]at hg;exact hg
  ·rename_i c;obtain⟨xl,s1,s2⟩:=qQf c;have pb:=zCt c;revert xl s1 s2 pb;generalize fpF (shF S gs) gs.length=x;intro xl s1 s2 pb;obtain⟨t1,t2,t3⟩:=qFi h.pt.nd xl s1 s2;have sp:=qC2 h.pt.nd x;have P1:=h.pt.perm sp;have P2:=h.pt.perm (sp.trans hE9);have pI:Prt S (rowI gs x).sum:=by
    refine(zA1 r h.pt lw ok x).mp ((zA2 (qRm _) (qWf S gs) xl).mp ?_);unfold prB at pb;rw[hCm]at pb;exact hEi pb.1
   obtain⟨c1,c2⟩:=qZy P1;have pO:Prt S (outF gs (rowI gs x)).sum:=by rw[<-c1];exact zD4 lt pI
   have pn:∀ {l:List Nat},2<=l.length->l≠[]:=λ{l} h z=>by rw[z]at h;exact absurd h (by decide)
   have B1:=P1.beside (pn t2);have B2:=P2.beside (pn t1);have m1:∀ {a b:List Nat} {g:Nat},g∈beF a b↔g∈a\/g=b.sum:=λ{a b g}=>by
    rw[(qD6 a b).mem_iff,hAb,hA3]
   have okA:∀g∈beF (rowI gs x) (outF gs (rowI gs x)),Gok S g:=λg hg=>by
    rcases m1.mp hg with z|z
    ·exact ok g (sp.mem_iff.mpr (hAg _ z))
    ·exact⟨B1.nz g hg,.inr (by rw[z];exact pO)⟩
   have okB:∀g∈beF (outF gs (rowI gs x)) (rowI gs x),Gok S g:=λg hg=>by
    rcases m1.mp hg with z|z
    ·exact ok g (sp.mem_iff.mpr (hA7 _ z))
    ·exact⟨B2.nz g hg,.inr (by rw[z];exact pI)⟩
   have A:=qTh r lt k (gs:=beF (rowI gs x) (outF gs (rowI gs x))) ⟨B1,by rw[qBv];omega⟩ (by rw[qBv];omega) okA;have B:=qTh r lt k (gs:=beF (outF gs (rowI gs x)) (rowI gs x)) ⟨B2,by rw[qBv];omega⟩ (by rw[qBv];omega) okB;refine⟨λe he=>?_,λg hg=>?_,λe he g hg=>?_⟩
   ·rcases hAb.mp he with z|z
    ·exact A.ok e z
    ·exact B.ok e z
   ·rcases hAb.mp (sp.mem_iff.mp hg) with z|z
    ·obtain⟨e,he,h2⟩:=A.cv g (m1.mpr (.inl z));exact⟨e,hAg _ he,h2⟩
    ·obtain⟨e,he,h2⟩:=B.cv g (m1.mpr (.inl z));exact⟨e,hA7 _ he,h2⟩
   ·rcases hAb.mp he with z|z
    ·rcases A.co e z g hg with q|⟨e',h1,h2⟩
     ·rcases m1.mp q with u|u
      ·exact .inl (sp.mem_iff.mpr (hAg _ u))
      ·obtain⟨e',h1,h2⟩:=B.cv (rowI gs x).sum (m1.mpr (.inr rfl));exact .inr ⟨e',hA7 _ h1,by rw[u,c2];exact h2⟩
     ·exact .inr ⟨e',hAg _ h1,h2⟩
    ·rcases B.co e z g hg with q|⟨e',h1,h2⟩
     ·rcases m1.mp q with u|u
      ·exact .inl (sp.mem_iff.mpr (hA7 _ u))
      ·obtain⟨e',h1,h2⟩:=A.cv (outF gs (rowI gs x)).sum (m1.mpr (.inr rfl));exact .inr ⟨e',hAg _ h1,by rw[u,c1];exact h2⟩
     ·exact .inr ⟨e',hA7 _ h1,h2⟩
structure CI(S:List Nat)(w n:Nat)(L:List (List Nat)):Prop where
 ok:∀l∈L,∀g∈l,Gok S g
 co:∀l∈L,∀g∈l,sgl g=true\/∃l'∈L,w^^^g∈l'
 on:∀i,i<n->∃l∈L,2^i∈l
theorem qN7:x∈meF w a b↔(x∈a/\w^^^x∉b)\/(x∈b/\w^^^x∉a):=by
 have k:∀ {a b:List Nat},x∈keF w a b↔x∈a/\w^^^x∉b:=λ{a b}=>by
  unfold keF;rw[hAd];refine and_congr_right λ_=>?_
  by_cases c:w^^^x∈b
  ·rw[hEf c];exact⟨λz=>(by cases z),λz=>absurd c z⟩
  ·rw[hEg c];exact⟨λ_=>c,λ_=>rfl⟩
 rw[(qD1 w a b).mem_iff,hAb,k,k]
theorem zEi(h:Sh (2^n-1) gs)(hi:i<n)(hm:(2^n-1)^^^2^i∈gs):False:=by
 obtain⟨c1,h1,n1,_⟩:=qV5 h.pt.nd h.l3 ((2^n-1)^^^2^i) ((2^n-1)^^^2^i);obtain⟨c2,h2,n2,n3⟩:=qV5 h.pt.nd h.l3 ((2^n-1)^^^2^i) c1;have key:∀c∈gs,c≠(2^n-1)^^^2^i->c.testBit i=true:=λc hc ne=>by
  obtain⟨j,hj⟩:=qPv (h.pt.nz c hc);by_cases e:j=i
  ·rw[<-e];exact hj
  ·exfalso;have jn:(2^n-1).testBit j=true:=h.pt.sub hc hj;have:((2^n-1)^^^2^i).testBit j=true:=by
    rw[hAn,jn,hAi,hEg (λz=>e z.symm)];rfl
   exact qBp (qW6 (R:=λa b:Nat=>a&&&b=0) (λ{a b} z=>by rw[Nat.and_comm];exact z) h.pt.di hc hm ne) hj this
 exact qBp (qW6 (R:=λa b:Nat=>a&&&b=0) (λ{a b} z=>by rw[Nat.and_comm];exact z) h.pt.di h1 h2 (λz=>n3 z.symm)) (key c1 h1 n1) (key c2 h2 n2)
theorem zF8{w g:Nat}(hs:∀i,g.testBit i=true->w.testBit i=true):g ||| (w^^^g)=w:=hAh λi=>by
 rw[hCi,hAn];have:=hs i;cases q:g.testBit i with
 |true=>rw[this q];rfl
 |false=>cases w.testBit i <;> rfl
end
def odL(t:Nat->Bool):List Nat->Bool
 |[]=>false
 |g :: l=>t g ^^ odL t l
theorem qTt(t:Nat->Bool):∀a b:List Nat,odL t (a++b)=(odL t a ^^ odL t b)
 |[],b=>(Bool.false_xor _).symm
 |g :: a,b=>by
  show(t g ^^ odL t (a++b))=((t g ^^ odL t a) ^^ odL t b);rw[qTt t a b,Bool.xor_assoc]
theorem qKm(p:a.Perm b):odL t a=odL t b:=by
 induction p with
 |nil=>rfl
 |cons x _ ih=>show(t x ^^ _)=(t x ^^ _);rw[ih]
 |swap x y l =>
  show(t y ^^ (t x ^^ odL t l))=(t x ^^ (t y ^^ odL t l));cases t y <;> cases t x <;> cases odL t l <;> rfl
 |trans _ _ i1 i2=>exact i1.trans i2
theorem qH9:∀ {l:List Nat},(∀g∈l,t g=u g)->odL t l=odL u l
 |[],_=>rfl
 |g :: l,h=>by
  show(t g ^^ odL t l)=(u g ^^ odL u l);rw[h g hA8,qH9 λx hx=>h x (hA6 _ hx)]
noncomputable def par:Nat->Nat->Bool
 |0,_=>false
 |k+1,T=>T.testBit k ^^ par k T
theorem qLw:∀ {k:Nat},(∀i,i<k->T.testBit i=U.testBit i)->par k T=par k U
 |0,_=>rfl
 |k+1,h=>by
  show(T.testBit k ^^ par k T)=(U.testBit k ^^ par k U);rw[h k (hC8 k),qLw λi hi=>h i (hC1 hi)]
theorem qLv:∀ {gs:List Nat},(∀i g,gs[i]?=some g->T.testBit (gs.length-1-i)=t g)->par gs.length T=odL t gs
 |[],_=>rfl
 |g :: l,h=>by
  show(T.testBit l.length ^^ par l.length T)=(t g ^^ odL t l);have h0:=h 0 g rfl;rw[show(g :: l).length-1-0=l.length by rw[hC9];omega]at h0;rw[h0,qLv λi x hi=>by
   have:=h (i+1) x hi
   rwa [show(g :: l).length-1-(i+1)=l.length-1-i by rw[hC9];omega]at this]
theorem qJj(h:T<2^(k+1))(b:T.testBit k=true):T^^^2^k<2^k:=hB8 _ λi hi=>by
 rw[hAn,hAi];by_cases c:k=i
 ·rw[<-c,b,hEf rfl];rfl
 ·rw[hEg c,qCo h vG];rfl
theorem qQx(h:T<2^(k+1))(b:T.testBit k=false):T<2^k:=hB8 _ λi hi=>by
 by_cases c:i=k
 ·rw[c];exact b
 ·exact qCo h vG
theorem qKx(pr:∀i j,i<m->j<m->Spn A (2^i^^^2^j)):∀(k T:Nat),k<=m->T<2^k->(par k T=false->Spn A T)/\(par k T=true->∀j,j<m->Spn A (T^^^2^j))
 |0,T,_,h=>by
  have:T=0:=by rw[Nat.pow_zero]at h;omega
  subst this;exact⟨λ_=>.zero,λz=>by cases z⟩
 |k+1,T,hk,h=>by
  cases b:T.testBit k with
  |false =>
   have e:par (k+1) T=par k T:=by show(T.testBit k ^^ par k T)=_;rw[b,Bool.false_xor]
   rw[e];exact qKx pr k T vG (qQx h b)
  |true =>
   obtain⟨h1,h2⟩:=qKx pr k (T^^^2^k) vG (qJj h b);have e:par (k+1) T=!par k (T^^^2^k):=by
    show(T.testBit k ^^ par k T)=_;rw[b,Bool.true_xor,qLw (T:=T) (U:=T^^^2^k) λi hi=>by
     rw[hAn,hAi,hEg vG,Bool.xor_false]]
   rw[e];refine⟨λz=>?_,λz j hj=>?_⟩
   ·have:=h2 (by cases q:par k (T^^^2^k) with
     |true=>rfl
     |false=>rw[q]at z;cases z) k vG
    rwa [qAy]at this
   ·have:=(h1 (by cases q:par k (T^^^2^k) with
     |false=>rfl
     |true=>rw[q]at z;cases z)).xor (pr k j vG hj)
    rwa [<-hBe,qAy]at this
def zA7(m:Nat):List Nat:=(List.range m).map λk=>2^k
theorem qKe:∀(k T:Nat),k<=m->T<2^k->Spn (zA7 m) T
 |0,T,_,h=>by
  have:T=0:=by rw[Nat.pow_zero]at h;omega
  subst this;exact .zero
 |k+1,T,hk,h=>by
  cases b:T.testBit k with
  |false=>exact qKe k T vG (qQx h b)
  |true =>
   have pk:Spn (zA7 m) (2^k):=.mem (hAe.mpr ⟨k,hAv.mpr hk,rfl⟩);have:=(qKe k (T^^^2^k) (Nat.le_of_succ_le hk) (qJj h b)).xor pk
   rwa [qAy]at this
theorem zA5(m:Nat):RR (zA7 m):=⟨λs hs=>by
 obtain⟨k,_,rfl⟩:=hAe.mp hs;exact hCj (Nat.two_pow_pos k),hBp.mpr ((hDn (n:=m)).imp λ{a b} ne=>by
 rw[Nat.log2_two_pow,Nat.log2_two_pow,hAi,hAi];exact⟨hEg λz=>ne z.symm,hEg ne⟩)⟩
theorem qU0(m:Nat):dm (zA7 m)=m:=by rw[qRn (zA5 m)];unfold zA7;rw[hA1,hB4]
theorem qZv(lt:∀x∈A,x<2^m):dm A<=m:=by
 have:=qEz (a:=A) (b:=zA7 m) λz hz=>qKe m z (hA9 _) (lt z hz)
 rwa [qU0]at this
theorem zGl(r:RR A)(lt:∀x∈A,x<2^m)(l:A.length+1=m)(no:∀j,j<m->¬Spn A (2^j)):∀i j,i<m->j<m->Spn A (2^i^^^2^j):=λi j hi hj=>by
 have d1:=(qEm A (2^i)).2 (no i hi);rw[qRn r]at d1;have lt2:∀x∈A++[2^i]++[2^j],x<2^m:=λx hx=>by
  rcases hAb.mp hx with z|z
  ·rcases hAb.mp z with z|z
   ·exact lt x z
   ·rw[hA3.mp z];exact hCb (by decide) hi
  ·rw[hA3.mp z];exact hCb (by decide) hj
 have sp:Spn (A++[2^i]) (2^j):=hC0 λq=>by
  have d2:=(qEm (A++[2^i]) (2^j)).2 q;have:=qZv lt2;omega
 rcases qCa.mp sp with z|z
 ·exact absurd z (no j hj)
 ·rw[hCl];exact z
theorem qUc(lt:∀x∈A,x<2^m)(pr:∀i j,i<m->j<m->Spn A (2^i^^^2^j))(no:∀j,j<m->¬Spn A (2^j))(m1:1<=m)(hT:T<2^m):Spn A T↔par m T=false:=by
 obtain⟨h1,h2⟩:=qKx pr m T (hA9 _) hT;refine⟨λh=>?_,h1⟩;cases q:par m T with
 |false=>rfl
 |true =>
  have:=h.xor (h2 q 0 m1);rw[<-hBe,hBv,hBy]at this;exact absurd this (no 0 m1)
section
variable{S:List Nat}{n:Nat}
def KR(S gs:List Nat):Prop:=∀e,Spn S e->∀g∈gs,∀h∈gs,crB S e g=crB S e h
structure KB(S gs:List Nat):Prop where
 ev:∀e,Spn S e->odL (crB S e) gs=false
 on:∀t:Nat->Bool,odL t gs=false->∃e,Spn S e/\∀g∈gs,crB S e g=t g
def KW(S gs:List Nat):Prop:=(shF S gs).length≠1/\(shF S gs).length+1≠gs.length
structure KiOk(S:List Nat)(e:PE1):Prop where
 r:e.1 = "ring"->KR S e.2
 b:e.1 = "bundle"->KB S e.2
 w:e.1 = "whole"->KW S e.2
theorem qU6(r:RR S)(o:One S n)(ok:Gok S g)(lt:g<2^n):∃e,Spn S e/\crB S e g=true:=by
 obtain⟨nz,h⟩:=ok;cases q:sgl g with
 |true =>
  obtain⟨e,h1,h2⟩:=o.on g.log2 ((hDx nz).mpr lt);exact⟨e,h1,by rw[qMk q nz];exact h2⟩
 |false =>
  obtain⟨e0,k0,k1,_⟩:=h.resolve_left (by rw[q];decide);refine⟨e0,k0,?_⟩;cases c:crB S e0 g with
  |true=>rfl
  |false=>exact absurd ((qCn r q).mp c) k1
theorem qZx(r:RR S)(o:One S n)(nz:g≠0)(he:Spn S e):crB S e g=false↔Spn S (e&&&g):=by
 cases q:sgl g with
 |false=>exact qCn r q
 |true =>
  refine⟨qU7 r nz,λh=>?_⟩;rw[qMk q nz];cases b:e.testBit g.log2 with
  |false=>rfl
  |true =>
   exfalso;refine o.no g.log2 ?_;have:e&&&g=2^g.log2:=by
    conv=>lhs;rw[qNk q nz]
    refine hAh λi=>?_
    rw[hAr,hAi];by_cases c:g.log2=i
    ·rw[hEf c,<-c,b];rfl
    ·rw[hEg c,hDs]
   rw[<-this];exact h
theorem zGn(r:RR S)(lt:∀s∈S,s<2^n)(he:Spn S e)(h1:sgl g=false)(h2:sgl ((2^n-1)^^^g)=false):crB S e g=crB S e ((2^n-1)^^^g):=by
 have sp:=qC9 (x:=g) (Spn.lt lt he);have k:Spn S (e&&&g)↔Spn S (e&&&((2^n-1)^^^g)):=by
  constructor
  ·intro z;have:=he.xor z;rw[show e^^^(e&&&g)=e&&&((2^n-1)^^^g) by
    conv=>lhs;lhs;rw[sp]
    rw[hCl (e&&&g),qAy]]at this
   exact this
  ·intro z;have:=he.xor z;rw[show e^^^(e&&&((2^n-1)^^^g))=e&&&g by
    conv=>lhs;lhs;rw[sp]
    rw[qAy]]at this
   exact this
 cases c:crB S e g with
 |false=>exact((qCn r h2).mpr (k.mp ((qCn r h1).mp c))).symm
 |true =>
  cases d:crB S e ((2^n-1)^^^g) with
  |true=>rfl
  |false =>
   rw[(qCn r h1).mpr (k.mpr ((qCn r h2).mp d))]at c;cases c
end
section
variable{S:List Nat}{n:Nat}
theorem kRB:("ring" : Str)≠"bundle":=by decide +kernel
theorem kRW:("ring" : Str)≠"whole":=by decide +kernel
theorem kBW:("bundle" : Str)≠"whole":=by decide +kernel
theorem qJq(h:Spn [] y):y=0:=by
 cases h with
 |zero=>rfl
 |add m _=>cases m
theorem qR3:∀ {l:List Nat} {g:Nat},g∈l->g<=l.sum
 |x :: l,g,h=>by
  rw[hCy];rcases hAj.mp h with z|z
  ·omega
  ·have:=qR3 z;omega
theorem qTf(S gs:List Nat)(e:Nat):par gs.length (phF S gs e)=odL (crB S e) gs:=qLv λi g hi=>qDp hi
theorem zEl(nd:gs.Nodup)(t:Nat->Bool)(hi:gs[i]?=some g):(qC4 gs (gs.filter t)).testBit (gs.length-1-i)=t g:=by
 have hl:=qAx hi;rw[qFu,hEf vG,hBw,show gs.length-1-(gs.length-1-i)=i by omega,hi];cases c:t g with
 |true=>exact hEf ⟨g,rfl,hAd.mpr ⟨hAc hi,c⟩⟩
 |false =>
  refine hEg λz=>?_
  obtain⟨g',h1,h2⟩:=z;cases h1;have:=(hAd.mp h2).2;rw[this]at c;cases c
theorem zGc(gs row:List Nat):qC4 gs row<2^gs.length:=hB8 _ λj hj=>by
 rw[qFu,hEg vG];rfl
theorem qLj(S gs:List Nat):RR (shF S gs):=qRm _
theorem zGg(r:RR S)(nd:gs.Nodup)(ok:∀g∈gs,Gok S g)(h:∀T,T<2^gs.length->(Spn (shF S gs) T↔par gs.length T=false)):KB S gs:=by
 refine⟨λe he=>?_,λt ht=>?_⟩
 ·rw[<-qTf];exact(h _ (qE2 S gs e)).mp ((qDc r ok _).mpr ⟨e,he,rfl⟩)
 ·have hp:par gs.length (qC4 gs (gs.filter t))=false:=by rw[qLv λi g hi=>zEl nd t hi];exact ht
  obtain⟨e,h1,h2⟩:=(qDc r ok _).mp ((h _ (zGc gs _)).mpr hp);refine⟨e,h1,λg hg=>?_⟩;obtain⟨i,hi⟩:=hDf hg;rw[<-qDp (S:=S) (e:=e) hi,h2,zEl nd t hi]
theorem qYc(r:RR S)(lt:∀s∈S,s<2^n)(o:One S n)(pt:Pt (2^n-1) gs)(ok:∀g∈gs,Gok S g)(hj:j<gs.length):¬Spn (shF S gs) (2^j):=λh=>by
 obtain⟨e,h1,h2⟩:=(qDc r ok _).mp h;have hi:gs[gs.length-1-j]?=some (gs[gs.length-1-j]' vG):=hA2 _;generalize hg:gs[gs.length-1-j]' vG=g at hi;have gm:=hAc hi;have at':=λi x (q:gs[i]?=some x)=>qDp (S:=S) (e:=e) q
 have c1:crB S e g=true:=by
  rw[<-at' _ _ hi,h2,show gs.length-1-(gs.length-1-j)=j by omega,hAi,hEf rfl]
 have c0:∀x∈gs,x≠g->Spn S (e&&&x):=λx hx ne=>by
  obtain⟨i,hi'⟩:=hDf hx;have hl:=qAx hi';refine qU7 r (pt.nz x hx) ?_;rw[<-at' _ _ hi',h2,hAi];refine hEg λz=>ne ?_
  have:i=gs.length-1-j:=by omega
  rw[this,hi]at hi';exact(hAq hi').symm
 have pe:gs.Perm (g :: gs.erase g):=List.perm_cons_erase gm;have p2:=pt.perm pe;have so:Spn S (e&&&(gs.erase g).sum):=by
  refine qJm (hAs.mp p2.di).2 λx hx=>?_
  exact c0 x (List.mem_of_mem_erase hx) λz=>(hBb.mp (pe.nodup_iff.mp pt.nd)).1 (z▸hx)
 have cs:=(qZy (a:=[g]) (b:=gs.erase g) p2).1;rw[hCy,List.sum_nil,Nat.add_zero]at cs;rw[<-cs]at so;have sp:=qC9 (x:=g) (Spn.lt lt h1);have:=h1.xor so;rw[show e^^^(e&&&((2^n-1)^^^g))=e&&&g by
  conv=>lhs;lhs;rw[sp]
  rw[qAy]]at this
 rw[(qZx r o (pt.nz g gm) h1).mpr this]at c1;cases c1
theorem qLt(h:Pt w gs)(hg:g∈gs)(hw:w<2^n):g<2^n:=by
 have:=qR3 hg;rw[h.su]at this;omega
theorem qD3(n:Nat):2^n-1<2^n:=by have:=Nat.two_pow_pos n;omega
theorem zCg(r:RR S)(lt:∀s∈S,s<2^n)(o:One S n)(h:Sh (2^n-1) gs)(ok:∀g∈gs,Gok S g):KiOk S (kiF (shF S gs) gs.length,gs):=by
 have l3:=h.l3;have rs:=qLj S gs;have ls:=qWf S gs;unfold kiF;split
 ·rename_i c;refine⟨λ_=>?_,λz=>absurd z kRB,λz=>absurd z kRW⟩;obtain⟨t,et⟩:=hDk.mp c;have val:∀e,Spn S e->phF S gs e=0\/phF S gs e=t:=λe he=>by
   have:=(qDc r ok _).mpr ⟨e,he,rfl⟩;rw[et]at this;rcases(qCa (l:=[]) (x:=t)).mp this with z|z
   ·exact .inl (qJq z)
   ·refine .inr ?_;have z:=qJq z;have:=congrArg (λy=>y^^^t) z;simp only[qAy,hBy]at this;exact this
  have full:∀i g,gs[i]?=some g->t.testBit (gs.length-1-i)=true:=λi g hi=>by
   have gm:=hAc hi;obtain⟨e,h1,h2⟩:=qU6 r o (ok g gm) (qLt h.pt gm (qD3 n));rcases val e h1 with z|z
   ·rw[<-qDp hi,z,hB0]at h2;cases h2
   ·rw[<-z,qDp hi];exact h2
  intro e he g hg x hx;obtain⟨i,hi⟩:=hDf hg;obtain⟨j,hj⟩:=hDf hx;rw[<-qDp (S:=S) (e:=e) hi,<-qDp (S:=S) (e:=e) hj];rcases val e he with z|z
  ·rw[z,hB0,hB0]
  ·rw[z,full i g hi,full j x hj]
 ·rename_i c;split
  ·rename_i c2;refine⟨λz=>absurd z.symm kRB,λ_=>?_,λz=>absurd z kBW⟩;have no:∀j,j<gs.length->¬Spn (shF S gs) (2^j):=λj hj=>qYc r lt o h.pt ok hj
   exact zGg r h.pt.nd ok λT hT=>qUc (m:=gs.length) ls (zGl rs ls c2 no) no (show 1<=gs.length by omega) hT
  ·rename_i c2;exact⟨λz=>absurd z.symm kRW,λz=>absurd z.symm kBW,λ_=>⟨c,c2⟩⟩
theorem qKk(S:List Nat):∀(k:Nat) {gs:List Nat},∀e∈paF S k gs,e.1=kiF (shF S e.2) e.2.length
 |0,_,e,he=>by cases he
 |k+1,gs,e,he=>by
  unfold paF at he;split at he
  ·rw[hA3.mp he]
  ·rcases hAb.mp he with z|z
   ·exact qKk S k e z
   ·exact qKk S k e z
section
variable{a b:List Nat}
theorem qZi(hb:Sh (2^n-1) b)(nz:g≠0)(lg:g<2^n)(hg':(2^n-1)^^^g∈b):sgl g=false:=by
 cases q:sgl g with
 |false=>rfl
 |true =>
  exfalso;have e:=qNk q nz;rw[e]at hg';exact zEi hb ((hDx nz).mpr lg) hg'
structure Two(S:List Nat)(n:Nat)(a b:List Nat)(g:Nat):Prop where
 ha:Sh (2^n-1) a
 hb:Sh (2^n-1) b
 g1:g∈a
 g2:(2^n-1)^^^g∈b
theorem Two.co(w:Two S n a b g)(r:RR S)(lt:∀s∈S,s<2^n)(he:Spn S e):crB S e g=crB S e ((2^n-1)^^^g):=by
 have l1:=qLt w.ha.pt w.g1 (qD3 n);have l2:=qLt w.hb.pt w.g2 (qD3 n);refine zGn r lt he (qZi w.hb (w.ha.pt.nz _ w.g1) l1 w.g2) (qZi w.ha (w.hb.pt.nz _ w.g2) l2 (by rw[xx];exact w.g1))
theorem Two.kr(w:Two S n a b g)(r:RR S)(lt:∀s∈S,s<2^n)(h1:KR S a)(h2:KR S b):KR S (meF (2^n-1) a b):=by
 have key:∀e,Spn S e->∀x∈meF (2^n-1) a b,crB S e x=crB S e g:=λe he x hx=>by
  rcases qN7.mp hx with ⟨z,_⟩|⟨z,_⟩
  ·exact h1 e he x z g w.g1
  ·rw[w.co r lt he];exact h2 e he x z _ w.g2
 exact λe he x hx y hy=>(key e he x hx).trans (key e he y hy).symm
theorem Two.kb(w:Two S n a b g)(r:RR S)(lt:∀s∈S,s<2^n)(oka:∀x∈a,Gok S x)(okb:∀x∈b,Gok S x)(h1:KB S a)(h2:KB S b):KB S (meF (2^n-1) a b):=by
 have pa:=qHg w.ha w.hb w.g1 w.g2;have pb:=qHg w.hb w.ha w.g2 (by rw[xx];exact w.g1);have pm:=qD1 (2^n-1) a b;have na:=hBb.mp (pa.nodup_iff.mp w.ha.pt.nd);have nb:=hBb.mp (pb.nodup_iff.mp w.hb.pt.nd);have ma:∀x∈keF (2^n-1) a b,x∈a/\x≠g:=λx hx=>⟨pa.mem_iff.mpr (hA6 _ hx),λz=>na.1 (z▸hx)⟩
 have mb:∀x∈keF (2^n-1) b a,x∈b/\x≠(2^n-1)^^^g:=λx hx=>⟨pb.mem_iff.mpr (hA6 _ hx),λz=>nb.1 (z▸hx)⟩
 have pc:∀t:Nat->Bool,odL t (meF (2^n-1) a b)=(odL t (keF (2^n-1) a b) ^^ odL t (keF (2^n-1) b a)):=λt=>by rw[qKm pm,qTt]
 have qa:∀t:Nat->Bool,odL t a=(t g ^^ odL t (keF (2^n-1) a b)):=λt=>qKm pa
 have qb:∀t:Nat->Bool,odL t b=(t ((2^n-1)^^^g) ^^ odL t (keF (2^n-1) b a)):=λt=>qKm pb
 refine⟨λe he=>?_,λt ht=>?_⟩
 ·have e1:=h1.ev e he;have e2:=h2.ev e he;rw[qa]at e1;rw[qb,<-w.co r lt he]at e2;rw[pc];revert e1 e2;cases crB S e g <;> cases odL (crB S e) (keF (2^n-1) a b) <;> cases odL (crB S e) (keF (2^n-1) b a) <;> decide
 ·rw[pc]at ht;obtain⟨e1,s1,c1⟩:=h1.on (λx=>if x=g then odL t (keF (2^n-1) a b) else t x) (by
   rw[qa,hEk rfl,qH9 (u:=t) λx hx=>hEj (ma x hx).2,Bool.xor_self])
  obtain⟨e2,s2,c2⟩:=h2.on (λx=>if x=(2^n-1)^^^g then odL t (keF (2^n-1) b a) else t x) (by
   rw[qb,hEk rfl,qH9 (u:=t) λx hx=>hEj (mb x hx).2,Bool.xor_self])
  have k1:=c1 g w.g1;have k2:=c2 _ w.g2;rw[hEk rfl]at k1 k2;rw[<-w.co r lt s2]at k2;have kk:crB S (e1^^^e2) g=false:=by
   rw[qMl r (oka g w.g1) s1 s2,k1,k2];exact ht
  have sg:=qU7 r (w.ha.pt.nz g w.g1) kk;have s12:=s1.xor s2;have sp:=qC9 (x:=g) (Spn.lt lt s12);have sg':Spn S ((e1^^^e2)&&&((2^n-1)^^^g)):=by
   have:=s12.xor sg;rw[show(e1^^^e2)^^^((e1^^^e2)&&&g)=(e1^^^e2)&&&((2^n-1)^^^g) by
    conv=>lhs;lhs;rw[sp]
    rw[hCl (_&&&g),qAy]]at this
   exact this
  have eq:e1^^^((e1^^^e2)&&&g)=e2^^^((e1^^^e2)&&&((2^n-1)^^^g)):=by
   have:e1=e2^^^(((e1^^^e2)&&&g)^^^((e1^^^e2)&&&((2^n-1)^^^g))):=by
    rw[<-sp,hCl e1 e2,<-hBe,hBv,hBy]
   conv=>lhs;lhs;rw[this]
   rw[hCl (_&&&g),hBe,qAy]
  have zz:∀ {y x h:Nat},x&&&h=0->(y&&&h)&&&x=0:=λ{y x h} z=>by
   rw[Nat.and_assoc,Nat.and_comm h x,z,Nat.and_zero]
  refine⟨e1^^^((e1^^^e2)&&&g),s1.xor sg,λx hx=>?_⟩;rcases hAb.mp (pm.mem_iff.mp hx) with z|z
  ·obtain⟨m1,m2⟩:=ma x z;rw[qMl r (oka x m1) s1 sg,c1 x m1,hEj m2,qOj r (w.ha.pt.nz x m1) (zz (qEn w.ha.pt.di m1 w.g1 m2)),Bool.xor_false]
  ·obtain⟨m1,m2⟩:=mb x z;rw[eq,qMl r (okb x m1) s2 sg',c2 x m1,hEj m2,qOj r (w.hb.pt.nz x m1) (zz (qEn w.hb.pt.di m1 w.g2 m2)),Bool.xor_false]
end
end
section
variable{S:List Nat}{n:Nat}
theorem qN8:∀ {ms:List PE1} {gs:List Nat},x∈foF w ms gs->x∈gs\/∃m∈ms,x∈m.2
 |[],gs,h=>.inl h
 |m :: ms,gs,h=>by
  rcases qN8 (ms:=ms) (gs:=meF w m.2 gs) h with z|⟨q,h1,h2⟩
  ·rcases qN7.mp z with ⟨u,_⟩|⟨u,_⟩
   ·exact .inr ⟨m,hA8,u⟩
   ·exact .inl u
  ·exact .inr ⟨q,hA6 _ h1,h2⟩
theorem qIa(h:mtB w a b=true):a.1=b.1/\b.1≠"whole":=by
 unfold mtB at h;split at h
 ·cases h
 ·rename_i c;have c1:a.1=b.1:=hC0 λz=>c (.inl z)
  exact⟨c1,λz=>c (.inr (c1.trans z))⟩
theorem qXm{w g:Nat}{a b:PE1}(k:a.1=b.1)(nw:b.1≠"whole")(h1:g∈a.2)(h2:w^^^g∈b.2):mtB w a b=true:=by
 unfold mtB;rw[hEj (λz=>z.elim (λy=>y k) λy=>nw (k▸y))];exact hEc.mpr ⟨g,h1,hEf h2⟩
theorem zB8{w:Nat}{a b:PE1}(h:mtB w a b=true):mtB w b a=true:=by
 obtain⟨k1,k2⟩:=qIa h;obtain⟨g,h1,h2⟩:=qP1 h;exact qXm k1.symm (λz=>k2 (k1.symm.trans z)) h2 (by rw[xx];exact h1)
theorem zE2(r:RR S)(lt:∀s∈S,s<2^n){ts:List (List Nat)}{k:Str}(nw:k≠"whole"):∀ {ms:List PE1} {gs:List Nat},MI (2^n-1) ms gs ts->(∀m∈ms,m.1=k/\KiOk S m/\∀g∈m.2,Gok S g)->KiOk S (k,gs)->(∀g∈gs,Gok S g)->KiOk S (k,foF (2^n-1) ms gs)
 |[],_,_,_,h,_=>h
 |m :: ms,gs,mi,hm,h,ok=>by
  obtain⟨m1,m2,m3⟩:=hm m hA8;obtain⟨g,hg,hg'⟩:=mi.co m hA8;have two:Two S n m.2 gs g:=⟨mi.sm m hA8,mi.sh,hg,hg'⟩;refine zE2 r lt nw (ms:=ms) (gs:=meF (2^n-1) m.2 gs) mi.step (λq hq=>hm q (hA6 _ hq)) ⟨λz=>?_,λz=>?_,λz=>absurd z nw⟩ λx hx=>?_
  ·exact two.kr r lt (m2.r (m1.trans z)) (h.r z)
  ·exact two.kb r lt m3 ok (m2.b (m1.trans z)) (h.b z)
  ·rcases qN7.mp hx with ⟨u,_⟩|⟨u,_⟩
   ·exact m3 x u
   ·exact ok x u
structure NI(S:List Nat)(n:Nat)(told rest:List PE1):Prop where
 ki:∀e∈told++rest,KiOk S e
 ok:∀e∈told++rest,∀g∈e.2,Gok S g
 no:∀a∈told,∀b∈told,mtB (2^n-1) a b=false
theorem zE1:foF w [] gs=gs:=rfl
theorem NI.step(r:RR S)(lt:∀s∈S,s<2^n){told rest:List PE1}{e:PE1}(h:JI (2^n-1) told (e :: rest))(c:NI S n told (e :: rest)):NI S n (joS (2^n-1) told e) rest:=by
 have mi:=h.mi;have em:e∈told++e :: rest:=hA7 _ hA8;have mt:∀m∈mtsF (2^n-1) told e,m∈told/\mtB (2^n-1) m e=true:=λm hm=>hAd.mp hm
 have new:KiOk S (e.1,foF (2^n-1) (mtsF (2^n-1) told e) e.2):=by
  cases q:mtsF (2^n-1) told e with
  |nil=>rw[zE1];exact c.ki e em
  |cons m0 l =>
   rw[<-q];have m0m:m0∈mtsF (2^n-1) told e:=by rw[q];exact hA8
   refine zE2 r lt (qIa (mt m0 m0m).2).2 mi (λm hm=>?_) (c.ki e em) (c.ok e em);obtain⟨h1,h2⟩:=mt m hm;exact⟨(qIa h2).1,c.ki m (hAg _ h1),c.ok m (hAg _ h1)⟩
 have cls:∀x,x∈joS (2^n-1) told e++rest->(x∈told++e :: rest)\/x=(e.1,foF (2^n-1) (mtsF (2^n-1) told e) e.2):=λx hx=>by
  rcases hAb.mp hx with z|z
  ·rcases hAb.mp z with u|u
   ·exact .inl (hAg _ (qD7 u).1)
   ·exact .inr (hA3.mp u)
  ·exact .inl (hA7 _ (hA6 _ z))
 have shE:Sh (2^n-1) (foF (2^n-1) (mtsF (2^n-1) told e) e.2):=mi.all.sh;have key:∀a∈rsF (2^n-1) told e,mtB (2^n-1) a (e.1,foF (2^n-1) (mtsF (2^n-1) told e) e.2)=false:=λa ha=>by
  obtain⟨a1,a2⟩:=qD7 ha;cases q:mtB (2^n-1) a (e.1,foF (2^n-1) (mtsF (2^n-1) told e) e.2) with
  |false=>rfl
  |true =>
   obtain⟨k1,k2⟩:=qIa q;obtain⟨g,h1,h2⟩:=qP1 q;rcases qN8 h2 with z|⟨m,hm,z⟩
   ·exact absurd (hAd.mpr ⟨a1,qXm (b:=e) k1 k2 h1 z⟩) a2
   ·obtain⟨m1,m2⟩:=mt m hm;obtain⟨k3,k4⟩:=qIa m2;have:=qXm (w:=2^n-1) (a:=a) (b:=m) (k1.trans k3.symm) (λy=>k4 (k3.symm.trans y)) h1 z;rw[c.no a a1 m m1]at this;cases this
 refine⟨λx hx=>?_,λx hx g hg=>?_,λa ha b hb=>?_⟩
 ·rcases cls x hx with z|z
  ·exact c.ki x z
  ·rw[z];exact new
 ·rcases cls x hx with z|z
  ·exact c.ok x z g hg
  ·rw[z]at hg;rcases qN8 hg with u|⟨m,hm,u⟩
   ·exact c.ok e em g u
   ·exact c.ok m (hAg _ (mt m hm).1) g u
 ·rcases hAb.mp ha with z|z
  ·rcases hAb.mp hb with u|u
   ·exact c.no a (qD7 z).1 b (qD7 u).1
   ·rw[hA3.mp u];exact key a z
  ·rw[hA3.mp z];rcases hAb.mp hb with u|u
   ·cases q:mtB (2^n-1) (e.1,foF (2^n-1) (mtsF (2^n-1) told e) e.2) b with
    |false=>rfl
    |true=>rw[<-zB8 q];exact key b u
   ·rw[hA3.mp u];cases q:mtB (2^n-1) (e.1,foF (2^n-1) (mtsF (2^n-1) told e) e.2) (e.1,foF (2^n-1) (mtsF (2^n-1) told e) e.2) with
    |false=>rfl
    |true =>
     obtain⟨g,h1,h2⟩:=qP1 q;exact(shE.pt.two shE.l3 h1 h2 (zF8 λi hi=>shE.pt.sub h1 hi)).elim
theorem NI.all(r:RR S)(lt:∀s∈S,s<2^n)(h:JI (2^n-1) [] ps)(c:NI S n [] ps):∀i,NI S n (joF (2^n-1) (ps.take i)) (ps.drop i)
 |0=>c
 |i+1=>by
  have ih:=NI.all r lt h c i;have hj:=h.all i;cases hi:ps[i]? with
  |none =>
   have l:ps.length<=i:=List.getElem?_eq_none_iff.mp hi;rw[hDj l,hA5 l]at ih;rw[hA5 vG,hDj vG];exact ih
  |some e =>
   have hl:=qAx hi;have ee:ps[i]=e:=by have:=hA2 hl;rw[hi]at this;exact(hAq this).symm
   rw[hCs hl,ee]at ih hj;rw[qAh hi,qHh];exact NI.step r lt hj ih
theorem zGh(r:RR S)(lt:∀s∈S,s<2^n)(o:One S n)(h3:3<=n)(h12:n<=12):NI S n (jF n S) []:=by
 have sh:Sh (2^n-1) (qB7 n):=⟨qNh n,by rw[qCh];exact h3⟩;have pc:=qTh r lt 10 sh (by rw[qCh];omega) λg hg=>by
  obtain⟨k,hk,e⟩:=hAe.mp ((qLh n).mem_iff.mp hg);exact⟨sh.pt.nz g hg,.inl (by rw[<-e];exact hEf (qDf k))⟩
 have ps:=qKl S 10 sh (by rw[qCh];omega);have ji:=ps.ji;have c0:NI S n [] (paF S 10 (qB7 n)):=⟨λe he=>by
  have:=zCg r lt o (ji.sh e he) (pc.ok e he);rw[<-qKk S 10 e he]at this;exact this,pc.ok,λa ha=>by cases ha⟩
 have:=NI.all r lt ji c0 (paF S 10 (qB7 n)).length;rw[hA5 (hA9 _),hDj (hA9 _)]at this;exact this
theorem zEn(r:RR S)(o:One S n)(h:Sh (2^n-1) gs)(ok:∀g∈gs,Gok S g)(k:KR S gs):shF S gs=[2^gs.length-1]:=by
 have l3:=h.l3;obtain⟨g0,hg0⟩:∃g,gs[0]?=some g:=⟨_,hA2 vG⟩;have full:∀e,Spn S e->phF S gs e=if crB S e g0=true then 2^gs.length-1 else 0:=λe he=>hAh λj=>by
  by_cases c:j<gs.length
  ·have hi:gs[gs.length-1-j]?=some (gs[gs.length-1-j]' vG):=hA2 _;have:=qDp (S:=S) (e:=e) hi;rw[show gs.length-1-(gs.length-1-j)=j by omega,k e he _ (hAc hi) g0 (hAc hg0)]at this;rw[this];cases crB S e g0 with
   |true=>rw[hEk rfl];exact(qQe.mpr c).symm
   |false=>rw[hEj (by decide),hB0]
  ·rw[qCo (qE2 S gs e) vG];split
   ·rw[qCo (qD3 gs.length) vG]
   ·rw[hB0]
 have mem:=hAc hg0;obtain⟨e,h1,h2⟩:=qU6 r o (ok g0 mem) (qLt h.pt mem (qD3 n));have nz:(2^gs.length-1)≠0:=by have:=Nat.one_lt_two_pow (n:=gs.length) vG;omega
 have r1:RR [2^gs.length-1]:=⟨λs hs=>by rw[hA3.mp hs];exact nz,hBz _ _⟩;have sp:∀y,Spn (shF S gs) y↔Spn [2^gs.length-1] y:=λy=>by
  rw[qDc r ok];constructor
  ·rintro⟨e,he,rfl⟩;rw[full e he];split
   ·exact .mem (hA3.mpr rfl)
   ·exact .zero
  ·intro hy;rcases(qCa (l:=[]) (x:=2^gs.length-1)).mp hy with z|z
   ·rw[qJq z];exact⟨0,.zero,qH3 r ok⟩
   ·have z:=qJq z;have:=congrArg (λu=>u^^^(2^gs.length-1)) z;simp only[qAy,hBy]at this;exact⟨e,h1,by rw[full e h1,hEk h2,this]⟩
 have l1:=zDz (qLj S gs) r1 sp;obtain⟨t,et⟩:=hDk.mp l1;have:=qFa (qLj S gs) r1 sp t (by rw[et];exact hA3.mpr rfl);rw[et,hA3.mp this]
theorem zEw(r:RR S)(nd:gs.Nodup)(l3:3<=gs.length)(ok:∀g∈gs,Gok S g)(k:KB S gs):(shF S gs).length+1=gs.length:=by
 have lt:=qWf S gs;have iff:∀T,T<2^gs.length->(Spn (shF S gs) T↔par gs.length T=false):=λT hT=>by
  rw[qDc r ok];constructor
  ·rintro⟨e,he,rfl⟩;rw[qTf];exact k.ev e he
  ·intro hp;have ht:odL (λg=>T.testBit (gs.length-1-gs.idxOf g)) gs=false:=by
    rw[<-qLv (T:=T) λi g hi=>?_]
    ·exact hp
    ·have hl:=qAx hi;have:gs.idxOf g=i:=by
      have e:gs[i]=g:=by have:=hA2 hl;rw[hi]at this;exact(hAq this).symm
      rw[<-e];exact nd.idxOf_getElem i hl
     rw[this]
   obtain⟨e,h1,h2⟩:=k.on _ ht;refine⟨e,h1,hAh λj=>?_⟩;by_cases c:j<gs.length
   ·have hi:gs[gs.length-1-j]?=some (gs[gs.length-1-j]' vG):=hA2 _;have:=qDp (S:=S) (e:=e) hi;rw[show gs.length-1-(gs.length-1-j)=j by omega,h2 _ (hAc hi),nd.idxOf_getElem _ vG]at this;rw[this,show gs.length-1-(gs.length-1-j)=j by omega]
   ·rw[qCo (qE2 S gs e) vG,qCo hT vG]
 have p1:par gs.length (2^0)=true:=by
  obtain⟨m,hm⟩:∃m,gs.length=m+1:=⟨gs.length-1,by omega⟩;rw[hm];clear hm
  induction m with
  |zero=>rfl
  |succ m ih =>
   show((2^0).testBit (m+1) ^^ par (m+1) (2^0))=true;rw[ih,hAi];rfl
 have lt1:2^0<2^gs.length:=hCb (by decide) vG;have n1:¬Spn (shF S gs) (2^0):=λz=>by
  have:=(iff _ lt1).mp z;rw[p1]at this;cases this
 have d1:=(qEm (shF S gs) (2^0)).2 n1;rw[qRn (qLj S gs)]at d1;have d2:dm (zA7 gs.length)<=dm (shF S gs++[2^0]):=qEz λz hz=>by
  obtain⟨i,hi,rfl⟩:=hAe.mp hz;have li:2^i<2^gs.length:=hCb (by decide) (hAv.mp hi);cases q:par gs.length (2^i) with
  |false=>exact qCa.mpr (.inl ((iff _ li).mpr q))
  |true =>
   refine qCa.mpr (.inr ((iff _ (hCg li lt1)).mpr ?_));have lin:∀(m T U:Nat),par m (T^^^U)=(par m T ^^ par m U):=λm T U=>by
    induction m with
    |zero=>rfl
    |succ m ih =>
     show((T^^^U).testBit m ^^ par m (T^^^U))=((T.testBit m ^^ par m T) ^^ (U.testBit m ^^ par m U));rw[ih,hAn];cases T.testBit m <;> cases U.testBit m <;> cases par m T <;> cases par m U <;> rfl
   rw[lin,q,p1];rfl
 have d3:=qZv (A:=shF S gs++[2^0]) (m:=gs.length) λx hx=>by
  rcases hAb.mp hx with z|z
  ·exact lt x z
  ·rw[hA3.mp z];exact lt1
 rw[qU0]at d2;omega
end
noncomputable def hdS(r:List Str):Str:=r.headD ""
def qYj:Sp:=λvs H Q _=>∃(T sh:Addr) (aA:List Str) (rows R:List (List Str)),vs=[.ref T,.ref sh]/\qF9 H T aA rows/\rows.length<=24/\aA.length<=12/\qDx H sh R/\R.length<=12/\(∀r∈R,r≠[])/\∀(T':Addr) (H':Hp),Ext H H'->H T'=none->zC6 H H' T' (R.map hdS) ((shF (dsF (rows.map (maskF aA))) (R.map (maskF aA))).map (rowM (R.map hdS)))->Q (.ref T') H'
section
variable{P:Program}{w:World}{K:PySem.W.Frag}{mg:Str->Option Value}{base:Heap}{f f1 f2 f3 f4:Addr}{fd fd1 fd2 fd3 fd4:FuncData}
theorem zDr:FnScope ["names","masks"] ["names","masks"] (qAc qWl):=fsk
theorem zBd(F:Fun K "table_from" "table_from" qWl f fd)(G1:v9 1 f1 fd1 ["names","mask"] qNa "row_of")
  (G2:v9 2 f2 fd2 ["masks"] qO3 "reduced") (mL:mg "list"=none):v8 3 f fd ["names","masks"] qYh:=by
 refine F.okA zDr λcdv A outer s H vs Q E hr h=>?_
 obtain⟨pn,pm,aA,ms,rfl,hn,ln,hm,lm,q⟩:=h;have hr1:=hr.mono (j:=1) (by decide);refine⟨_,qAe (qAt (qA6 (qAd (qBy qDh rfl mL qCf (pa1 (pv 0))) (qAd
  (qGf (N:=["names","masks"]) (sc:=qAc qWl) (N':=["mask","names"]) (sub:=[none,some 0]) rfl rfl (CmpOk.of (by decide +kernel)) rfl (qAp (qAw G2 hr rfl .nil qAv (pa1 (pv 1))))
   (λC s H fp=>⟨qAm (i:=0) (by show(["mask","names"]:List Str).Nodup;decide) rfl vE,qAz,qAw G1 hr1 rfl .nil qAv (qAd (pv 1) (pa1 (pv 0)))⟩)) qA3)))),?_⟩
 refine⟨_,rfl,pn,_,rfl,.inl (SqL.of hn),λl1 hl1=>?_⟩;have n1:=Ext.new hl1 (.lst (aA.map V.str));refine⟨_,rfl,pm,ms,rfl,n1 _ _ hm,lm,λr M H1 e1 r0 hM pM dM=>?_⟩;have E1:=n1.trans e1;have lM:M.length<=24:=by rw[pM.length_eq];exact hAw (qPo ms) lm
 refine⟨r,rfl,⟨_,SqL.of hM⟩,?_⟩;refine qAq (xs:=M.map iV) (λj ys H2=>Ext H1 H2/\∃as,ys=as.map V.ref/\Paired (λa r=>LsS H2 a r/\H a=none) as ((M.take j).map (rowM aA))) ⟨Ext.refl _,[],rfl,.nil⟩ (λj ys H2 _ h=>SqL.of (h.1 _ _ hM)) ?_ ?_
 ·rintro j v ys H2 hx ⟨e2,as,rfl,pr⟩;obtain⟨x,rfl,hx'⟩:=qB2 hx;have hj:=qAx hx';have la:as.length=_:=pr.length;rw[hA1,hAm]at la;refine⟨sls,iteT (B:=False) ⟨_,rfl,_,rfl,pn,aA,x,rfl,(E1.trans e2) _ _ hn,ln,λr3 H3 e3 r30 h3=>⟨?_,nxt (qAx hx) ⟨e2.trans e3,as++[r3],by rw[hA4];rfl,?_⟩⟩⟩⟩
  ·rw[hA1];exact qAf vG
  ·rw[qAh hx',hA4];exact Paired.snoc (Paired.mapP pr λa t z=>⟨e3 _ _ z.1,z.2⟩) ⟨h3,(E1.trans e2).none r30⟩
 ·rintro ys H2 ⟨e2,as,rfl,pr⟩ b hb;rw[hA1,hA5 (hA9 _)]at pr;have E2:=E1.trans e2;have Xb:=Ext.new hb (.lst (as.map V.ref));refine⟨(by show 2<=sizeLine;decide),λT hT=>?_⟩;have XT:=Xb.trans (Ext.new hT (.tup [V.ref l1,V.ref b]));refine q T M _ (E2.trans XT) ((E2.trans Xb).none hT) ⟨l1,b,upd_same,XT _ _ (e2 _ _ (e1 _ _ upd_same)),hl1,⟨as,(Ext.new hT _) _ _ upd_same,Paired.mapP pr λa t z=>⟨XT _ _ z.1,z.2,qAo z.1 hb⟩⟩,E2.none hb⟩ pM dM
noncomputable abbrev pbN:List Str:=["table","share","groups"]
theorem qY3:FnScope pbN ["table","share"] (qAc qSq):=fsk
theorem zBg(F:Fun K "part_table" "part_table" qSq f fd)(G1:v9 1 f1 fd1 ["names","row"] qSb "mask_of")
  (G2:v9 3 f2 fd2 ["names","masks"] qYh "table_from")
  (G3:v9 4 f3 fd3 ["steps","groups"] qM9 "share_masks")
  (G4:v9 3 f4 fd4 ["table"] qM8 "step_masks"):v8 5 f fd ["table","share"] qYj:=by
 refine F.okA qY3 λcdv A outer s H vs Q E hr h=>?_
 obtain⟨T,sh,aA,rows,R,rfl,ti,lr,n12,⟨bs,hb1,hb2⟩,lR,ne,q⟩:=h;have hr4:=hr.mono (j:=4) (by decide);have hr3:=hr.mono (j:=3) (by decide);have hr1:=hr.mono (j:=1) (by decide);have lb:bs.length=R.length:=hb2.length;obtain⟨ta,tb,hT,hn,_⟩:=id ti;refine⟨_,qAa (qDe (i:=2) (N:=pbN) (sc:=qAc qSq) (N':=["group","table"]) (sub:=[none,some 0]) (qAp (pv 1)) (λC s H fp=>⟨qAz,qAw G1 hr1 rfl .nil qAv (qAd (qBe (show IxR _ (qNz K) from qBq) (pv 1) qAb (λ_ _=>rfl)) (pa1 (pv 0)))⟩) qY3.nd rfl vE)
  (qAe (qAt (qAw G2 hr3 rfl .nil qAv (qAd
   (qA8 (N:=pbN) (sc:=qAc qSq) (N':=["group"]) (sub:=[none]) (qAp (pv 1)) (λC s H fp=>⟨qAz,qBe (show IxR _ (zFl K) from qB0) (pv 0) qAb (λ_ _=>rfl)⟩))
   (pa1 (qAw G3 hr4 rfl .nil qAv (qAd (qAw G4 hr3 rfl .nil qAv (pa1 (pv 0))) (pa1 (pv 2))))))))),?_⟩
 refine⟨_,rfl,sh,rfl,⟨_,SqL.of hb1⟩,?_⟩;refine qAq (xs:=bs.map V.ref) (λj ys H2=>H=H2/\ys=((R.take j).map (maskF aA)).map iV) ⟨rfl,rfl⟩ (λj ys H2 _ h=>by rw[<-h.1];exact SqL.of hb1) ?_ ?_
 ·rintro j v ys H2 hx ⟨rfl,rfl⟩;obtain⟨b,rfl,hb⟩:=qA7 hx;obtain⟨r,hr',hbr⟩:=qAr hb2 hb;have hj:=qAx hr';refine⟨sls,iteT (B:=False) ⟨_,rfl,T,_,_,_,rfl,rfl,SqT.of hT,(by exact qA0 (j:=0) rfl),_,rfl,ta,b,aA,r,rfl,hn,hbr,?_,nxt (qAx hx) ⟨rfl,?_⟩⟩⟩
  ·rw[hA1,hA1,hAm];exact qAf vG
  ·rw[qAh hr',hA4,hA4];rfl
 rintro ys H2 ⟨rfl,rfl⟩ gl hgl;rw[hA1,lb,hA5 (hA9 _)];have X1:=Ext.new hgl (.lst ((R.map (maskF aA)).map iV));have hg1:LsN (upd H gl (.lst ((R.map (maskF aA)).map iV))) gl (R.map (maskF aA)):=upd_same;revert X1 hg1;generalize upd H gl (.lst ((R.map (maskF aA)).map iV))=H1;intro X1 hg1;refine⟨_,rfl,sh,rfl,⟨_,SqL.of (X1 _ _ hb1)⟩,?_⟩;refine qAq (xs:=bs.map V.ref) (λj ys H2=>H1=H2/\ys=((R.take j).map hdS).map V.str) ⟨rfl,rfl⟩ (λj ys H2 _ h=>by rw[<-h.1];exact SqL.of (X1 _ _ hb1)) ?_ ?_
 ·rintro j v ys H2 hx ⟨rfl,rfl⟩;obtain⟨b,rfl,hb⟩:=qA7 hx;obtain⟨r,hr',hbr⟩:=qAr hb2 hb;have hj:=qAx hr';obtain⟨x,r',rfl⟩:∃x r',r=x :: r':=by
   cases r with
   |nil=>exact absurd rfl (ne _ (hAc hr'))
   |cons x r'=>exact⟨x,r',rfl⟩
  refine⟨sls,iteT (B:=False) ⟨_,rfl,b,_,_,_,rfl,rfl,SqL.of (X1 _ _ hbr),(by exact qA0 (j:=0) rfl),?_,nxt (qAx hx) ⟨rfl,?_⟩⟩⟩
  ·rw[hA1,hA1,hAm];exact qAf vG
  ·rw[qAh hr',hA4,hA4];rfl
 rintro ys H2 ⟨rfl,rfl⟩ nl hnl;rw[hA1,lb,hA5 (hA9 _)];have X2:=X1.trans (Ext.new hnl (.lst ((R.map hdS).map V.str)));have hn2:LsS (upd H1 nl (.lst ((R.map hdS).map V.str))) nl (R.map hdS):=upd_same;have hg2:=(Ext.new hnl (.lst ((R.map hdS).map V.str))) _ _ hg1;revert X2 hn2 hg2;generalize upd H1 nl (.lst ((R.map hdS).map V.str))=H2;intro X2 hn2 hg2;refine⟨_,rfl,T,aA,rows,rfl,ti.ext X2,lr,λst M H3 e3 st0 hM pM dM=>?_⟩;rw[show M=dsF (rows.map (maskF aA)) from qK2 pM dM]at hM;have lS:=qP2 (aA:=aA) rows;refine⟨_,rfl,st,gl,_,R.map (maskF aA),rfl,hM,e3 _ _ hg2,zE9,by omega,by rw[hA1];exact lR,λss H4 e4 ss0 hss=>?_⟩;have ls:=qSk (dsF (rows.map (maskF aA))) (R.map (maskF aA));refine⟨nl,ss,R.map hdS,_,rfl,(e3.trans e4) _ _ hn2,by rw[hA1];exact lR,hss,by omega,λT' M' H5 e5 T0 tf pM' dM'=>?_⟩;have eM:M'=shF (dsF (rows.map (maskF aA))) (R.map (maskF aA)):=by
  refine qIo dM' (qDv _) (pM'.trans ?_);exact(hC7 (qB1 _).nd (qRm _).nd).mpr λx=>⟨qFa (qB1 _) (qRm _) (λy=>qBj _ y) x,qFa (qRm _) (qB1 _) (λy=>(qBj _ y).symm) x⟩
 rw[eM]at tf;have E4:=X2.trans (e3.trans e4);exact q T' H5 (E4.trans e5) (E4.none T0) (tf.down E4)
end
abbrev zAo:Stmt:=top 49
abbrev qWu:Stmt:=top 50
abbrev qSu:Stmt:=top 51
theorem qVm:bootBuiltins "int"=some (.type "int"):=by decide +kernel
theorem qUm:∀l:List Nat,(l.map iV).all qIm=true
 |[]=>rfl
 |_ :: l=>by rw[hBm,List.all_cons,qUm l];rfl
def phP(m:Nat)(c:Nat->Bool):Nat:=(((List.range m).filter c).map λl=>2^l).sum
theorem qKh(m:Nat)(c:Nat->Bool)(k:Nat):(phP m c).testBit k=(decide (k<m) && c k):=by
 unfold phP;rw[qE7 _ (hDn.filter _)];cases q:c k with
 |true =>
  rw[Bool.and_true];exact decide_eq_decide.mpr ⟨λh=>hAv.mp (hAd.mp h).1,λh=>hAd.mpr ⟨hAv.mpr h,q⟩⟩
 |false =>
  rw[hDs];exact hEg λh=>by rw[(hAd.mp h).2]at q;cases q
theorem qZc(m:Nat)(c:Nat->Bool):phP m c<2^m:=hB8 _ λi hi=>by rw[qKh,hEg vG];rfl
theorem qW8(m:Nat)(c:Nat->Bool):phP (m+1) c=phP m c ||| (if c m=true then 1 else 0) <<< m:=hAh λi=>by
 rw[hCi,qKh,qKh,Nat.testBit_shiftLeft];by_cases e:i=m
 ·subst e;rw[hEf (hC8 i),hEg (hCv i),hEf (hA9 i),Nat.sub_self];cases c i <;> decide
 ·by_cases l:i<m
  ·rw[hEf (show i<m+1 by omega),hEf l,hEg (show ¬i >= m by omega),Bool.false_and,Bool.or_false]
  ·rw[hEg (show ¬i<m+1 by omega),hEg l,hEf (show i >= m by omega)];have:(if c m=true then 1 else 0:Nat).testBit (i-m)=false:=by
    split
    ·rw[show(1:Nat)=2^0 from rfl,hAi];exact hEg vG
    ·exact hB0 _
   rw[this];rfl
noncomputable def qZk(sm gs:List Nat)(x:Nat):Nat:=phP gs.length λk=>!decide (x&&&gs.getD k 0∈sm)
def qYn:Sp:=λvs H Q _=>∃(p q g:Addr) (N sm gs:List Nat),vs=[.ref p,.ref q,.ref g]/\LsN H p N/\LsN H q sm/\LsN H g gs/\N.length<=12/\gs.length<=12/\∀r H',Ext H H'->H r=none->LsN H' r (redL (N.map (qZk sm gs)))->Q (.ref r) H'
section
variable{P:Program}{w:World}{K:PySem.W.Frag}{mg:Str->Option Value}{base:Heap}{f f1 f2 f3 f4:Addr}{fd fd1 fd2 fd3 fd4:FuncData}
noncomputable abbrev owN:List Str:=["_law_base","_law_sums_here","_law_groups","_law_rows","_law_step","_law_number","_law_place","_law_group"]
theorem qHu:FnScope owN ["_law_base","_law_sums_here","_law_groups"] (qAc zAo):=fsk
theorem zBn(F:Fun K "_law_own" "_law_own" zAo f fd)(G1:v9 1 f1 fd1 ["_law_numbers"] qHp "_law_reduced")(me:mg "enumerate"=none)(mi:mg "int"=none):v8 2 f fd ["_law_base","_law_sums_here","_law_groups"] qYn:=by
 refine F.okA qHu λcdv A outer s H vs Q E hr h=>?_
 obtain⟨p,q,g,N,sm,gs,rfl,hp,hq,hg,lN,lg,q0⟩:=h;refine⟨_,(qAa (v4 3 qHu (qA4 qA3)) (qAa (qBa PassesOwn.never rfl (qAp (pv 0)) (v5 4 qHu) (qAa (v4 5 qHu qAb) (qAa (qBa PassesOwn.never rfl (qFb rfl me (pa1 (pv 2))) (qB5 rfl (qAs (v5 6 qHu) (qAs (v5 7 qHu) qBl))) (qAe (v4 5 qHu (qAg zBb (pv 5) (qAg qCd (qBy qVh rfl mi qVm (pa1 (qDl (show OpR _ (compareOp .NotIn) (rIn K true) from qCe) (qAg qBr (pv 4) (pv 7)) (pv 1) (by with_unfolding_all rfl)))) (pv 6)))))) (qAe (qCp (qEb hB1 hBk hBl qBz (pv 3) (pa1 (pv 5)))))))) (qAe (qAt (qAw G1 hr rfl .nil qAv (pa1 (pv 3))))))),?_⟩;refine⟨hAt _,λro hro=>?_⟩;have X0:=Ext.new hro (.lst []);refine⟨_,rfl,p,rfl,⟨_,SqL.of (X0 _ _ hp)⟩,?_⟩;refine qBg (xs:=N.map iV) (λi σ H'=>∃(x4 x5 x6 x7:Option V),σ=[some (.ref p),some (.ref q),some (.ref g),some (.ref ro),x4,x5,x6,x7]/\Ext H H'/\LsN H' ro ((N.take i).map (qZk sm gs))) ⟨none,none,none,none,rfl,X0,upd_same⟩ (λi σ H' _ h=>by obtain⟨_,_,_,_,_,e,_⟩:=h;exact SqL.of (e _ _ hp)) ?_ ?_
 ·rintro i v σ H' hx ⟨x4,x5,x6,x7,rfl,e,hr1⟩;obtain⟨x,rfl,hx'⟩:=qB2 hx;have hi:=qAx hx';refine⟨_,rfl,g,_,rfl,SqL.of (e _ _ hg),?_⟩;rw[hA1];refine qIk (λj σ H2=>∃(x6 x7:Option V),σ=[some (.ref p),some (.ref q),some (.ref g),some (.ref ro),some (iV x),some (iV (phP j λk=>!decide (x&&&gs.getD k 0∈sm))),x6,x7]/\Ext H' H2) ⟨x6,x7,rfl,Ext.refl _⟩ ?_ ?_ ?_
  ·rintro j σ H2 _ ⟨_,_,_,e2⟩;exact SqL.of ((e.trans e2) _ _ hg)
  ·rintro j σ H2 Tp hj ⟨x6,x7,rfl,e2⟩ hTp;have gj:(gs.map iV).getD j .non=iV (gs.getD j 0):=by
    rw[hAa,hAa,hAl,hA2 hj];rfl
   dsimp only;rw[gj];have Y:=e2.trans (Ext.new hTp (.tup [V.int (j:Nat),iV (gs.getD j 0)]));refine⟨Tp,_,rfl,SqT.of upd_same,rfl,_,_,rfl,_,_,rfl,rfl,?_⟩;refine⟨_,rfl,_,rfl,_,rfl,_,_,rfl,rfl,_,rfl,q,_,rfl,.inl (SqL.of ((e.trans Y) _ _ hq)),rfl,qUm _,.inr ⟨_,rfl,?_⟩⟩;have ek:inV ((λi j=>V.int (Builtin.bitAnd i j)) (x:Int) ((gs.getD j 0:Nat):Int)) (sm.map iV)=decide (x&&&gs.getD j 0∈sm):=by
    dsimp only;rw[qCl];exact qGl _ _
   rw[hEk rfl,ek];refine⟨_,rfl,_,_,rfl,rfl,⟨by omega,by omega,by split <;> decide⟩,_,_,rfl,rfl,?_⟩;have ev:(if (!decide (x&&&gs.getD j 0∈sm))=true then (1:Int) else 0)=(((if (!decide (x&&&gs.getD j 0∈sm))=true then 1 else 0:Nat):Nat):Int):=by split <;> rfl
   have ev2:V.int (Builtin.bitOr ((phP j λk=>!decide (x&&&gs.getD k 0∈sm):Nat):Int) ((if (!decide (x&&&gs.getD j 0∈sm))=true then (1:Int) else 0)*2^(((j:Nat):Int)).toNat))=iV (phP (j+1) λk=>!decide (x&&&gs.getD k 0∈sm)):=by
    rw[ev,qPb,qOl,qW8]
   refine⟨some (V.int (j:Nat)),some (iV (gs.getD j 0)),?_,Y⟩;rw[<-ev2];rfl
  ·rintro σ H2 ⟨x6,x7,rfl,e2⟩;refine⟨_,rfl,.inl ⟨rfl,_,SqL.of (e2 _ _ hr1)⟩,_,rfl,ro,_,_,rfl,rfl,e2 _ _ hr1,by rw[hA1,hA1,hAm];exact qAf vG,?_⟩;refine⟨_,_,_,_,rfl,(e.trans e2).over hro _,?_⟩;unfold LsN;rw[upd_same,qAh hx',hA4,hA4];rfl
 ·rintro σ H' ⟨x4,x5,x6,x7,rfl,e,hr1⟩;rw[hA1,hA5 (hA9 _)]at hr1;refine⟨_,rfl,ro,_,gs.length,rfl,hr1,by rw[hA1];omega,λy hy=>?_,λr H2 e2 r0 h2=>q0 r H2 (e.trans e2) (e.none r0) h2⟩;obtain⟨x,_,rfl⟩:=hAe.mp hy;exact qZc _ _
end
def qZh(m x:Nat):Bool:=decide (((List.range m).filter λk=>x.testBit k).length % 2=1)
noncomputable def qV1(own:List Nat)(m:Nat):Str:=if own=[2^m-1] then "ring" else if own.any (qZh m)=true then "whole" else if own.length+1=m then "bundle" else "whole"
def qYp:Sp:=λvs H Q _=>∃(p:Addr) (own:List Nat) (m:Nat),vs=[.ref p,iV m]/\LsN H p own/\own.length<=12/\m<=12/\∀H',Ext H H'->Q (.str (qV1 own m)) H'
section
variable{P:Program}{w:World}{K:PySem.W.Frag}{mg:Str->Option Value}{base:Heap}{f f1 f2 f3 f4:Addr}{fd fd1 fd2 fd3 fd4:FuncData}
noncomputable abbrev kiN:List Str:=["_law_own_here","_law_many","_law_row_here"]
theorem qY4:FnScope kiN ["_law_own_here","_law_many"] (qAc qWu):=fsk
theorem zBq(F:Fun K "_law_kind" "_law_kind" qWu f fd)(ml:mg "len"=none)(mr:mg "range"=none):v8 1 f fd ["_law_own_here","_law_many"] qYp:=by
 refine F.okA qY4 λcdv A outer s H vs Q E hr h=>?_
 obtain⟨p,own,m,rfl,hp,lo,m12,q⟩:=h;refine⟨_,(qAa (qBo (qAn (qZg (qPk hr)) (pv 0) (qA4 (pa1 (qAg qCw (qAg qCd qAb (pv 1)) qAb))) (qAu _)) (qAe (qAt qCv)) qA1) (qAa (qBa PassesOwn.never rfl (qAp (pv 0)) (v7 2 qY4) (qAe (qBo (qAn qB8 (qAg qBb (qAj qAl rfl ml hAy (pa1 (qA8 (N:=kiN) (sc:=qAc qWu) (N':=["_law_k","_law_row_here"]) (sub:=[none,some 2]) (qBd rfl mr (pa1 (pv 1))) (λC s H fp=>⟨qBk (qAn qB8 (qAg qBr (qAg qFq (pv 1) (pv 0)) qAb) qAb (qAu _)),pv 0⟩)))) qAb) qAb (qAu _)) (qAe (qAt qCv)) qA1))) (qAa (qBo (qAn qB8 (qAj qAl rfl ml hAy (pa1 (pv 0))) (qAg qCw (pv 1) qAb) (qAu _)) (qAe (qAt qCv)) qA1) (qAe (qAt qCv))))),?_⟩;have lz:(own.map iV).length=own.length:=hA1 _;refine⟨_,rfl,_,rfl,_,_,rfl,rfl,⟨by omega,by omega,by decide⟩,_,_,rfl,rfl,(by show 1<=sizeLine;decide),λl0 hl0=>?_⟩;have p1:=hCz (n:=m);have ev:(λi j:Int=>V.int (i-j)) (1*2^((m:Int)).toNat) 1=iV (2^m-1):=by
  show V.int _=V.int _;rw[qBt];congr 1;omega
 rw[ev];have X0:=Ext.new hl0 (.lst [iV (2^m-1)]);have hp0:=X0 _ _ hp;have hl1:LsN (upd H l0 (.lst [iV (2^m-1)])) l0 [2^m-1]:=upd_same;revert hp0 hl1 X0;generalize upd H l0 (.lst [iV (2^m-1)])=H1;intro X0 hp0 hl1;refine⟨_,_,.lst (SqL.of hp0) (qIn own),.lst (SqL.of hl1) (qIn [2^m-1]),qE9 own,qE9 [2^m-1],_,rfl,?_⟩;rw[show PyData.eqv (.list (own.map λn:Nat=>PyData.int (n:Int))) (.list ([2^m-1].map λn:Nat=>PyData.int (n:Int)))=decide (own=[2^m-1]) from qKz _ _];have q':∀H',Ext H1 H'->∀k,qV1 own m=k->Q (.str k) H':=λH' e k hk=>by rw[<-hk];exact q H' (X0.trans e)
 refine qBw (λc=>q' _ (Ext.refl _) _ ?_) (λc=>?_)
 ·unfold qV1;rw[hEk (hEi c)]
 have c1:own≠[2^m-1]:=λz=>c (hEf z)
 refine⟨_,rfl,p,rfl,⟨_,SqL.of hp0⟩,?_⟩;refine qBg (xs:=own.map iV) (λi σ H'=>∃(x2:Option V),σ=[some (.ref p),some (iV m),x2]/\Ext H1 H'/\(own.take i).any (qZh m)=false) ⟨none,rfl,Ext.refl _,rfl⟩ (λi σ H' _ h=>by obtain⟨_,_,e,_⟩:=h;exact SqL.of (e _ _ hp0)) ?_ ?_
 ·rintro i v σ H' hx ⟨x2,rfl,e,no⟩;obtain⟨x,rfl,hx'⟩:=qB2 hx;refine⟨_,rfl,(m:Int),rfl,by omega,by omega,?_⟩;refine qDy (lo:=0) (n:=((m:Int)).toNat) (λj ys H2=>H'=H2/\ys=((List.range j).filter λk=>x.testBit k).map iV) ⟨rfl,rfl⟩ ?_ ?_
  ·rintro j ys H2 hj ⟨rfl,rfl⟩;have lf:=hAz (λk=>x.testBit k) (List.range j);rw[hB4]at lf;refine⟨sls,?_⟩;refine⟨_,rfl,_,rfl,_,_,rfl,rfl,(by show(0:Int)<=_;omega),_,_,rfl,rfl,rfl,_,rfl,?_⟩;have key:(decide (V.int (Builtin.bitAnd ((x:Int) / 2^(0+(j:Int)).toNat) 1)=V.int 1)=true)↔x.testBit j=true:=by
    rw[hEl,V.int.injEq,show(0+(j:Int))=((j:Nat):Int) by omega,hB7,qEe];cases x.testBit j <;> simp
   refine qBw (λcc=>⟨_,rfl,?_⟩) (λcc=>?_)
   ·refine⟨by rw[hA1];exact qAf vG,nxt hj ⟨rfl,?_⟩⟩;rw[hCk,hBr,hA4,hCo (by exact key.mp cc),show(0+(j:Int))=((j:Nat):Int) by omega];rfl
   ·refine nxt hj ⟨rfl,?_⟩;rw[hCk,hBr,hCp (λz=>cc (key.mpr z)),hDw,hCc]
  rintro ys H2 ⟨rfl,rfl⟩ l hl;rw[hB7];have X1:=Ext.new hl (.lst (((List.range m).filter λk=>x.testBit k).map iV));refine⟨l,_,rfl,.inl (SqL.of upd_same),_,_,rfl,rfl,(by show(0:Int)<_;decide),rfl,_,rfl,?_⟩;have key2:(decide (V.int (((((List.range m).filter λk=>x.testBit k).map iV).length:Nat) % (2:Int))=V.int 1)=true)↔qZh m x=true:=by
   unfold qZh;rw[hEl,V.int.injEq,hA1,hEl];omega
  refine qBw (λcc=>q' _ (e.trans X1) _ ?_) (λcc=>?_)
  ·unfold qV1;rw[hEj c1,hEk (hEc.mpr ⟨x,hAc hx',key2.mp cc⟩)]
  ·refine⟨_,rfl,e.trans X1,?_⟩;rw[qAh hx',List.any_append,no];show(qZh m x || false)=false;cases z:qZh m x with
   |false=>rfl
   |true=>exact absurd (key2.mpr z) cc
 ·rintro σ H' ⟨x2,rfl,e,no⟩;rw[lz,hA5 (hA9 _)]at no;refine⟨_,rfl,p,_,rfl,.inl (SqL.of (e _ _ hp0)),_,rfl,_,_,rfl,rfl,rfl,_,rfl,?_⟩;have key3:(decide (V.int (((own.map iV).length:Nat):Int)=V.int ((m:Int)-1))=true)↔own.length+1=m:=by
   rw[hEl,V.int.injEq,lz];omega
  have n2:¬own.any (qZh m)=true:=by rw[no];decide
  refine qBw (λcc=>q' _ e _ ?_) (λcc=>q' _ e _ ?_)
  ·unfold qV1;rw[hEj c1,hEj n2,hEk (key3.mp cc)]
  ·unfold qV1;rw[hEj c1,hEj n2,hEj λz=>cc (key3.mpr z)]
end
end My
namespace L2
open PySem PySem.Spec PyProof.Rows
section
variable{X:Cx}{es:List Expr}{ta:TE}{t:TA}
theorem qRh(ha:PE X (.Tuple es' c p) ta)(hr:PA X es t):PA X (.Tuple es' c p :: es) (qQ9 ta t):=qAd ha hr rfl
theorem zC9{j}(ha:PE X (.Constant c j p) ta)(hr:PA X es t):PA X (.Constant c j p :: es) (qQ9 ta t):=qAd ha hr rfl
theorem qLy(ha:PE X (.Name x p) ta)(hr:PA X es t):PA X (.Name x p :: es) (qQ9 ta t):=qAd ha hr rfl
theorem zF7{o}(ha:PE X (.BinOp a o b p) ta)(hr:PA X es t):PA X (.BinOp a o b p :: es) (qQ9 ta t):=qAd ha hr rfl
end
end L2
namespace My
open PySem L2
abbrev Pr2:=Int×Int
theorem qGx:∀ {as:List α} {bs:List β} (k:Nat),Paired R as bs->Paired R (as.eraseIdx k) (bs.eraseIdx k)
 |_,_,_,.nil=>.nil
 |_,_,0,.cons _ t=>t
 |_,_,k+1,.cons h t=>.cons h (qGx k t)
theorem qH6:∀ {as:List α} {bs:List β} (k:Nat),Paired R as bs->Paired R (as.take k) (bs.take k)
 |_,_,0,_=>.nil
 |_,_,_+1,.nil=>.nil
 |_,_,k+1,.cons h t=>.cons h (qH6 k t)
theorem qMf(f:α->β):∀(l:List α) (k:Nat),(l.map f).eraseIdx k=(l.eraseIdx k).map f
 |[],_=>rfl
 |_ :: _,0=>rfl
 |a :: l,k+1=>congrArg (f a :: ·) (qMf f l k)
theorem qFf.oth(h:qFf H p net)(ho:H o=some (.lst xs))(ne:p≠o):qFf (upd H o u) p net:=by
 obtain⟨as,h1,h2⟩:=h;exact⟨as,by rw[qAk ne];exact h1,Paired.mapP h2 λa t z=>by rw[qAk (λe=>by rw[e,ho]at z;cases z)];exact z⟩
theorem qBn.oth(h:qBn H p es)(ho:H o=some (.lst xs))(ne:p≠o):qBn (upd H o u) p es:=by
 obtain⟨as,h1,h2⟩:=h;exact⟨as,by rw[qAk ne];exact h1,Paired.mapP h2 λa t z=>by rw[qAk (λe=>by rw[e,ho]at z;cases z)];exact z⟩
theorem qBn.pop(k:Nat)(h1:H p=some (.lst (as.map V.ref)))(h2:Paired (λa e=>H a=some (.tup (enV e))) as es):qBn (upd H p (.lst ((as.map V.ref).eraseIdx k))) p (es.eraseIdx k):=by
 refine⟨as.eraseIdx k,by rw[upd_same,qMf],Paired.mapP (qGx k h2) λa t z=>by rw[qAk (λe=>by rw[e,h1]at z;cases z)];exact z⟩
theorem qBn.cat(h1:qBn H p es)(h2:qBn H l fs):∃xs ys,H p=some (.lst xs)/\H l=some (.lst ys)/\xs.length=es.length/\ys.length=fs.length/\(H r=none->qBn (upd H r (.lst (xs++ys))) r (es++fs)):=by
 obtain⟨as,a1,a2⟩:=h1;obtain⟨bs,b1,b2⟩:=h2;refine⟨_,_,a1,b1,by rw[hA1];exact a2.length,by rw[hA1];exact b2.length,λr0=>⟨as++bs,by rw[upd_same,hA4],?_⟩⟩;have:∀ {a:Addr} {o:HO},H a=some o->upd H r (.lst (as.map V.ref++bs.map V.ref)) a=some o:=λh=>Ext.new r0 _ _ _ h
 exact qGq (Paired.mapP a2 λa t z=>this z) (Paired.mapP b2 λa t z=>this z)
theorem qY2{j n:Nat}(h:j<n):seqIndex? (j:Int) n=some j:=by
 have:=PySem.StrLaws.seqIndex_nonneg (i:=(j:Int)) (n:=n) vG vG;rw[hB7]at this;exact this
theorem qTw(x:Int)(h:0<n):∃j:Nat,j<n/\x % (n:Int)=(j:Int):=by
 have h1:=hBj x (show(n:Int)≠0 by omega);have h2:=hBc x (show(0:Int)<(n:Int) by omega);exact⟨(x % (n:Int)).toNat,by omega,by omega⟩
def dEn(e:Pr2):PyData:=.tuple [.int e.1,.int e.2]
theorem qP9:∀xs:List Pr2,PyData.canLayAll0 (xs.map dEn)=true/\PyData.depthAll (xs.map dEn)<=1
 |[]=>⟨rfl,by decide⟩
 |x :: r=>by
  obtain⟨h1,h2⟩:=qP9 r;refine⟨?_,?_⟩
  ·show(true && PyData.canLayAll0 (r.map dEn))=true;rw[h1];rfl
  ·show max 1 (PyData.depthAll (r.map dEn))<=1;omega
theorem qNj(xs:List Pr2):SeqAt.shaped (.list (xs.map dEn))=true:=by
 obtain⟨h3,h4⟩:=qP9 xs;show(PyData.canLayAll0 (xs.map dEn) && decide (PyData.depthAll (xs.map dEn)+1<=64))=true;rw[h3,hEf vG];rfl
theorem qUx:∀ {as:List Addr} {es:List Pr2},Paired (λa e=>H a=some (.tup (enV e))) as es->DRs K H (as.map V.ref) (es.map dEn)
 |_,_,.nil=>.nil
 |_,_,.cons h t=>.cons (.tup (SqT.of h) (.cons (.int _) (.cons (.int _) .nil))) (qUx t)
theorem qR5:∀n,n<20->((toString ((n:Nat):Int):String):Str).length<=4/\((n:Nat):Int).natAbs.log2<1920:=by decide +kernel
def qYr(K:PySem.W.Frag):Sp:=λvs H Q _=>∃(a:Addr) (ns:List Int),vs=[.ref a,.int 1]/\SqL K H a (ns.map V.int)/\∀r net H',Ext H H'->H r=none->qFf H' r net->net.length<=12->Tx (net.map (·.1))->qEc (net.map (·.1))->Q (.ref r) H'
structure GI(H:Hp)(a:Addr)(i:Nat)(σ:St)(H':Hp)(B m:Int)(np:Addr)(es:List Pr2):Prop where
 st:∃x5 x6 x7 x8 x9:Option V,σ=[some (.ref a),some (.int 1),some (.int B),some (.ref np),some (.int m),x5,x6,x7,x8,x9,none,none,none,none]
 ext:Ext H H'
 np0:H np=none
 es0:qBn H' np es
 l3:3<=es.length
 le:es.length<=3+4*i
 m3:3<=m
 me:m<=3+2*i
 ins:∀e∈es,qVx m e
structure GW(H:Hp)(a:Addr)(aA:List Str)(k:Nat)(σ:St)(H':Hp)(B m:Int)(od fo nm:Addr)(es:List Pr2)(net:List Tr):Prop where
 st:∃(np:Addr) (x5 x6 x7 x8 x9 x13:Option V),σ=[some (.ref a),some (.int 1),some (.int B),some (.ref np),some (.int m),x5,x6,x7,x8,x9,some (.ref nm),some (.ref od),some (.ref fo),x13]
 ext:Ext H H'
 od0:H od=none
 fo0:H fo=none
 ne:od≠fo
 no:nm≠od
 nf:nm≠fo
 hn:LsS H' nm aA
 es0:qBn H' od es
 nt:qFf H' fo net
 lk:es.length=k
 ln:net.length+k=aA.length
 fst:net.map (·.1)=aA.take net.length
 ins:∀e∈es,qVx m e
theorem qVx.mono(h:qVx m e)(l:m<=m'):qVx m' e:=⟨⟨h.1.1,by have:=h.1.2;omega⟩,h.2.1,by have:=h.2.2;omega⟩
section
variable{P:Program}{w:World}{K:PySem.W.Frag}{mg:Str->Option Value}{base:Heap}{f f1 f2 f3:Addr}{fd fd1 fd2 fd3:FuncData}
noncomputable abbrev glN:List Str:=["_law_script","_law_at","_law_big_here","_law_net_here","_law_most","_law_k","_law_way","_law_spot","_law_one","_law_other","_law_names_here","_law_order","_law_found","_law_two"]
theorem qDj:FnScope glN ["_law_script","_law_at"] (qAc qWw):=fsk
theorem zBt(F:Fun K "_law_glued" "_law_glued" qWw f fd)
  (G1:v9 2 f1 fd1 ["_law_script","_law_k"] (qRb K) "_law_big")
  (G2:v9 1 f2 fd2 ["_law_big_here","_law_many"] qJu "_law_names")
  (ml:mg "len"=none) (mr:mg "range"=none) (mso:mg "sorted"=none) (mmi:mg "min"=none) (mL:mg "list"=none) (mtu:mg "tuple"=none) (mst:mg "str"=none):v8 3 f fd ["_law_script","_law_at"] (qYr K):=by
 refine F.okA qDj λcdv A outer s H vs Q E hr2 h=>?_
 obtain⟨a,ns,rfl,hS,q⟩:=h;have hr1:=hr2.mono (j:=1) (by decide);refine⟨_,(qAa (v4 2 qDj (qAw G1 hr2 rfl .nil qAv (qAd (pv 0) (pa1 (qAg qA9 (pv 1) qAb))))) (qAa (v4 3 qDj (qA4 (qRh (qA6 (zC9 qAb (zC9 qAb qA3))) (qRh (qA6 (zC9 qAb (zC9 qAb qA3))) (qRh (qA6 (zC9 qAb (zC9 qAb qA3))) qA3))))) (qAa (v4 4 qDj qAb) (qAa (qBa PassesOwn.never rfl (qBd rfl mr (pa1 (qAg qA9 qAb (qAg qBb (pv 2) qAb)))) (v5 5 qDj) (qAa (v4 6 qDj (qAg qBb (qAg qA5 (pv 2) qAb) qAb)) (qAa (v4 7 qDj (qAg qBb (qAg qA5 (pv 2) qAb) (qAj qAl rfl ml hAy (pa1 (pv 3))))) (qAa (v4 2 qDj (qAg qA5 (qAg qA5 (pv 2) qAb) (qAj qAl rfl ml hAy (pa1 (pv 3))))) (qAa (qGw (qEb hB1 PySem.F.slot_list_pop PySem.F.type_list_pop qP0 (pv 3) (pa1 (pv 7))) (qB5 rfl (qAs (v5 8 qDj) (qAs (v5 9 qDj) qBl)))) (qAe (qBo (PW.pt (qI9 (qAn qB8 (pv 6) qAb (qAu _)) (qGd (qAn qFs (qAj qAl rfl ml hAy (pa1 (pv 3))) qAb (qAu _))))) (qAa (v4 3 qDj (qAg qCi (pv 3) (qA4 (qRh (qA6 (qLy (pv 8) (qLy (pv 4) qA3))) (qRh (qA6 (qLy (pv 8) (zF7 (qAg qA9 (pv 4) qAb) qA3))) (qRh (qA6 (qLy (pv 4) (zF7 (qAg qA9 (pv 4) qAb) qA3))) (qRh (qA6 (qLy (pv 4) (qLy (pv 9) qA3))) (qRh (qA6 (zF7 (qAg qA9 (pv 4) qAb) (qLy (pv 9) qA3))) qA3)))))))) (qAe (qLu (i:=4) qDj.nd rfl vE qAb qQb))) (qAe (qBo (qAn qB8 (pv 6) qAb (qAu _)) (qAa (v4 3 qDj (qAg qCi (pv 3) (qA4 (qRh (qA6 (qLy (pv 8) (qLy (pv 4) qA3))) (qRh (qA6 (qLy (pv 4) (qLy (pv 9) qA3))) qA3))))) (qAe (qLu (i:=4) qDj.nd rfl vE qAb qQb))) (qAe (qBo (qAn qB8 (pv 6) qAb (qAu _)) (qAe (v4 3 qDj (qAg qCi (pv 3) (qA4 (qRh (qA6 (qLy (pv 8) (qLy (pv 9) qA3))) (qRh (qA6 (qLy (pv 8) (qLy (pv 9) qA3))) qA3)))))) (qAe (v4 3 qDj (qAg qCi (pv 3) (qA4 (qRh (qA6 (qLy (pv 8) (qLy (pv 9) qA3))) qA3)))))))))))))))) (qAa (v4 10 qDj (qAj qDg rfl mso qBs (pa1 (qAw G2 hr1 rfl .nil qAv (qAd (qAw G1 hr2 rfl .nil qAv (qAd (pv 0) (pa1 (qAg qA9 (pv 1) qAb)))) (pa1 (qAj (qF5 rfl) rfl mmi qF7 (qAd qAb (pa1 (qAj qAl rfl ml hAy (pa1 (pv 3)))))))))))) (qAa (v4 11 qDj (qBy qDh rfl mL qCf (pa1 (qFp qNf (pv 3) qH2 (qH1 qAb))))) (qAa (v4 12 qDj (qA4 qA3)) (qAa (qKb PassesOwn.never (qAn (qL0 (qPk hr2)) (pv 11) (qA4 qA3) (qAu _)) (qAa (v4 13 qDj (qEb hB1 PySem.F.slot_list_pop PySem.F.type_list_pop qP0 (pv 11) (pa1 (qAg qBb (pv 2) (qAj qAl rfl ml hAy (pa1 (pv 11))))))) (qAa (v4 2 qDj (qAg qA5 (pv 2) (qAg qA9 (qAj qAl rfl ml hAy (pa1 (pv 11))) qAb))) (qAe (qCp (qEb hB1 hBk hBl qBz (pv 12) (pa1 (qAg qTk (qA6 (pa1 (qBe qB0 (pv 10) (qAj qAl rfl ml hAy (pa1 (pv 12))) (λ_ _=>rfl)))) (qBy qF2 rfl mtu qFe (pa1 (qAj qDg rfl mso qBs (pa1 (qA8 (N:=glN) (sc:=qAc qWw) (N':=["_law_point"]) (sub:=[none]) (zD6 (pv 13)) (λC s H fp=>⟨qAz,(qAg qEx qCv (qBy qMp rfl mst qMs (pa1 (pv 0))))⟩)))))))))))))) (qAe (qAt (pv 12))))))))))),?_⟩;refine⟨_,rfl,_,rfl,_,_,rfl,rfl,a,ns,_,rfl,hS,by decide,by decide,λB0=>?_⟩;refine⟨(by show 2<=sizeLine;decide),λT1 hT1=>⟨(by show 2<=sizeLine;decide),λT2 hT2=>⟨(by show 2<=sizeLine;decide),λT3 hT3=>⟨(by show 3<=sizeLine;decide),λnp hnp=>?_⟩⟩⟩⟩;have X1:=Ext.new hT1 (.tup (enV (0,1)));have X2:=Ext.new hT2 (.tup (enV (1,2)));have X3:=Ext.new hT3 (.tup (enV (0,2)));have X4:=Ext.new hnp (.lst [V.ref T1,V.ref T2,V.ref T3]);have E4:=X1.trans (X2.trans (X3.trans X4));have np0:H np=none:=(X1.trans (X2.trans X3)).none hnp;have en0:qBn (upd (upd (upd (upd H T1 (.tup (enV (0,1)))) T2 (.tup (enV (1,2)))) T3 (.tup (enV (0,2)))) np (.lst [V.ref T1,V.ref T2,V.ref T3])) np [(0,1),(1,2),(0,2)] :=
  ⟨[T1,T2,T3],upd_same,.cons ((X2.trans (X3.trans X4)) _ _ upd_same) (.cons ((X3.trans X4) _ _ upd_same) (.cons (X4 _ _ upd_same) .nil))⟩
 have i0:=hBj B0 (show(3:Int)≠0 by decide);have i1:=hBc B0 (show(0:Int)<3 by decide);refine⟨_,rfl,_,_,rfl,rfl,(by show(0:Int)<_;decide),_,_,rfl,rfl,2+B0 % 3,rfl,by omega,by omega,qB3 (lo:=0) (n:=(2+B0 % 3).toNat) (λi σ H'=>∃B m np es,GI H a i σ H' B m np es)
  ⟨B0,3,np,_,⟨none,none,none,none,none,rfl⟩,E4,np0,en0,by decide,by decide,by decide,by decide,λe he=>?_⟩ ?_ ?_⟩
 ·have:∀e∈[((0:Int),(1:Int)),(1,2),(0,2)],(0<=e.1/\e.1<3)/\0<=e.2/\e.2<3:=by decide
  exact this e he
 ·clear en0 E4 np0 X4 X3 X2 X1 hnp hT3 hT2 hT1;rintro i σ H' hi ⟨B,m,np,es,⟨x5,x6,x7,x8,x9,rfl⟩,ext,np0,es0,l3,le,m3,me,ins⟩;obtain⟨as,ea1,ea2⟩:=id es0;have la:as.length=es.length:=ea2.length;have lm:(as.map V.ref).length=es.length:=by rw[hA1];exact la
  have i4:i<4:=by omega
  clear hi i0 i1;refine⟨_,rfl,_,_,rfl,rfl,⟨by decide,by decide⟩,_,_,rfl,rfl,(by show(0:Int)<_;decide),?_⟩;refine⟨_,rfl,_,_,rfl,rfl,⟨by decide,by decide⟩,_,rfl,np,_,rfl,.inl (SqL.of ea1),_,_,rfl,rfl,(by rw[lm];omega),?_⟩;refine⟨_,rfl,_,_,rfl,rfl,⟨by decide,by decide⟩,_,rfl,np,_,rfl,.inl (SqL.of ea1),_,_,rfl,rfl,⟨by rw[lm];omega,by rw[lm];omega⟩,?_⟩;obtain⟨j,hj,ej⟩:=qTw (B / 12) (n:=(as.map V.ref).length) vG;have hja:j<as.length:=by omega
  have gj:(as.map V.ref)[j]?=some (V.ref as[j]):=by rw[hAl,hA2 hja];rfl
  obtain⟨e,he,hbe⟩:=qAr ea2 (hA2 hja);have hin:=ins e (hAc he);refine⟨_,rfl,.inl ⟨rfl,_,SqL.of ea1⟩,_,rfl,np,_,(j:Int),j,_,rfl,(by show [V.int (B / 12 % (((as.map V.ref).length:Nat):Int))]=_;rw[ej]),ea1,by omega,by omega,qY2 hj,gj,?_⟩;have P1:=qBn.pop j ea1 ea2;have E1:=ext.over np0 (.lst ((as.map V.ref).eraseIdx j));have hb1:upd H' np (.lst ((as.map V.ref).eraseIdx j)) as[j]=some (.tup (enV e)):=by
   rw[qAk (λz=>by rw[z,ea1]at hbe;cases hbe)];exact hbe
  have lj:j<es.length:=by omega
  have le1:(es.eraseIdx j).length=es.length-1:=List.length_eraseIdx_of_lt lj;have in1:∀x∈es.eraseIdx j,qVx m x:=λx hx=>ins x (List.mem_of_mem_eraseIdx hx)
  refine⟨as[j],_,rfl,SqT.of hb1,rfl,_,_,rfl,_,_,rfl,rfl,?_⟩;revert P1 E1 hb1;generalize upd H' np (.lst ((as.map V.ref).eraseIdx j))=H1;generalize es.eraseIdx j=fs at le1 in1 ⊢;intro P1 E1 hb1;obtain⟨xs1,ys1,hx1,_,lx1,_⟩:=qBn.cat (r:=np) P1 P1;obtain⟨h11,h12⟩:=hin.1;obtain⟨h21,h22⟩:=hin.2;have fin:∀(gs:List Pr2) (m':Int) (L:Addr) (H2:Hp) (w5 w6 w7 w8 w9:Option V),Ext H1 H2->qBn H2 L gs->1<=gs.length->gs.length<=5->m<=m'->m'<=m+2->(∀e∈gs,qVx m' e)->∃xs ys,H2 np=some (.lst xs)/\H2 L=some (.lst ys)/\xs.length+ys.length<=sizeLine/\∀r,H2 r=none->GI H a (i+1) [some (.ref a),some (.int 1),some (.int (B / 12 / (((as.map V.ref).length:Nat):Int))),some (.ref r),some (.int m'),w5,w6,w7,w8,w9,none,none,none,none] (upd H2 r (.lst (xs++ys))) (B / 12 / (((as.map V.ref).length:Nat):Int)) m' r (fs++gs):=by
   intro gs m' L H2 w5 w6 w7 w8 w9 e2 hg g1 g5 mm mm2 gi;obtain⟨xs,ys,h1,h2,l1,l2,_⟩:=qBn.cat (r:=np) (P1.ext e2) hg;refine⟨xs,ys,h1,h2,hB9 (qAf vG),λr r0=>?_⟩;obtain⟨xs',ys',h1',h2',_,_,k⟩:=qBn.cat (r:=r) (P1.ext e2) hg;rw[h1]at h1';rw[h2]at h2';cases h1';cases h2';exact⟨⟨_,_,_,_,_,rfl⟩,E1.trans (e2.trans (Ext.new r0 _)),(E1.trans e2).none r0,k r0,by rw[hAf];omega,by rw[hAf];omega,by omega,by omega,λx hx=>(hAb.mp hx).elim (λz=>(in1 x z).mono mm) (λz=>gi x z)⟩
  have two:2<=sizeLine:=by decide
  have fa:∀ {p:Pr2->Prop} {x:Pr2} {l:List Pr2},p x->(∀y∈l,p y)->∀y∈x :: l,p y:=λh t=>List.forall_mem_cons.mpr ⟨h,t⟩
  have f0:∀ {p:Pr2->Prop},∀y∈([]:List Pr2),p y:=λ_ h=>nomatch h
  have om:∀c d:Int,0<=c->c<d->0<=m+c/\m+c<m+d:=λc d _ _=>by omega
  have ou:∀d:Int,0<=d->(0<=e.1/\e.1<m+d)/\0<=e.2/\e.2<m+d:=λd _=>by omega
  have v0:0<=m/\m<m+2:=by omega
  have v1:=om 1 2 (by decide) (by decide);obtain⟨u1,u2⟩:=ou 2 (by decide);have w0:0<=m/\m<m+1:=by omega
  obtain⟨w1,w2⟩:=ou 1 (by decide);refine⟨_,rfl,rfl,_,rfl,?_⟩;refine qBw (λc=>?c1) (λc=>?c2)
  case' c1 =>
   refine⟨_,rfl,np,_,rfl,.inl (SqL.of hx1),_,_,rfl,rfl,_,rfl,?_⟩;refine qBw (λc2=>?c3) (λc2=>?c4)
  case' c2=>refine qG5 ?_
  case c3 =>
   refine⟨_,rfl,_,rfl,_,rfl,two,λT1 hT1=>⟨_,rfl,_,rfl,_,_,rfl,rfl,two,λT2 hT2=>⟨_,rfl,_,rfl,_,_,rfl,rfl,two,λT3 hT3=>⟨_,rfl,_,rfl,two,λT4 hT4=>⟨_,rfl,_,_,rfl,rfl,_,rfl,two,λT5 hT5=>⟨(by show 5<=sizeLine;decide),λL hL=>?_⟩⟩⟩⟩⟩⟩;have Y1:=Ext.new hT1 (.tup (enV (e.1,m)));have Y2:=Ext.new hT2 (.tup (enV (e.1,m+1)));have Y3:=Ext.new hT3 (.tup (enV (m,m+1)));have Y4:=Ext.new hT4 (.tup (enV (m,e.2)));have Y5:=Ext.new hT5 (.tup (enV (m+1,e.2)));have Y6:=Ext.new hL (.lst [V.ref T1,V.ref T2,V.ref T3,V.ref T4,V.ref T5]);obtain⟨xs,ys,k1,k2,k3,k4⟩:=fin [(e.1,m),(e.1,m+1),(m,m+1),(m,e.2),(m+1,e.2)] (m+2) L _ (some (.int (0+(i:Int)))) (some (.int (B / 3 % 4))) (some (.int (B / 12 % (((as.map V.ref).length:Nat):Int)))) (some (.int e.1)) (some (.int e.2)) (Y1.trans (Y2.trans (Y3.trans (Y4.trans (Y5.trans Y6)))))
    ⟨[T1,T2,T3,T4,T5],upd_same,.cons ((Y2.trans (Y3.trans (Y4.trans (Y5.trans Y6)))) _ _ upd_same) (.cons ((Y3.trans (Y4.trans (Y5.trans Y6))) _ _ upd_same) (.cons ((Y4.trans (Y5.trans Y6)) _ _ upd_same) (.cons ((Y5.trans Y6) _ _ upd_same) (.cons (Y6 _ _ upd_same) .nil))))⟩ (by show 1<=5;decide) (by show 5<=5;decide) vG vG (fa ⟨u1,v0⟩ (fa ⟨u1,v1⟩ (fa ⟨v0,v1⟩ (fa ⟨v0,u2⟩ (fa ⟨v1,u2⟩ f0)))))
   refine⟨np,L,xs,ys,rfl,rfl,k1,k2,k3,λr r0=>⟨_,rfl,_,_,rfl,rfl,_,_,_,_,k4 r r0⟩⟩
  all_goals
   refine⟨_,rfl,rfl,_,rfl,?_⟩;refine qBw (λd=>?_) (λd=>?_)
   ·refine⟨_,rfl,_,rfl,_,rfl,two,λT1 hT1=>⟨_,rfl,_,rfl,two,λT2 hT2=>⟨two,λL hL=>?_⟩⟩⟩;have Y1:=Ext.new hT1 (.tup (enV (e.1,m)));have Y2:=Ext.new hT2 (.tup (enV (m,e.2)));have Y3:=Ext.new hL (.lst [V.ref T1,V.ref T2]);obtain⟨xs,ys,k1,k2,k3,k4⟩:=fin [(e.1,m),(m,e.2)] (m+1) L _ (some (.int (0+(i:Int)))) (some (.int (B / 3 % 4))) (some (.int (B / 12 % (((as.map V.ref).length:Nat):Int)))) (some (.int e.1)) (some (.int e.2)) (Y1.trans (Y2.trans Y3))
     ⟨[T1,T2],upd_same,.cons ((Y2.trans Y3) _ _ upd_same) (.cons (Y3 _ _ upd_same) .nil)⟩ (by show 1<=2;decide) (by show 2<=5;decide) vG vG (fa ⟨w1,w0⟩ (fa ⟨w0,w2⟩ f0))
    exact⟨np,L,xs,ys,rfl,rfl,k1,k2,k3,λr r0=>⟨_,rfl,_,_,rfl,rfl,_,_,_,_,k4 r r0⟩⟩
   refine⟨_,rfl,rfl,_,rfl,?_⟩;refine qBw (λd2=>?_) (λd2=>?_)
   ·refine⟨_,rfl,_,rfl,_,rfl,two,λT1 hT1=>⟨_,rfl,_,rfl,two,λT2 hT2=>⟨two,λL hL=>?_⟩⟩⟩;have Y1:=Ext.new hT1 (.tup (enV (e.1,e.2)));have Y2:=Ext.new hT2 (.tup (enV (e.1,e.2)));have Y3:=Ext.new hL (.lst [V.ref T1,V.ref T2]);obtain⟨xs,ys,k1,k2,k3,k4⟩:=fin [(e.1,e.2),(e.1,e.2)] m L _ (some (.int (0+(i:Int)))) (some (.int (B / 3 % 4))) (some (.int (B / 12 % (((as.map V.ref).length:Nat):Int)))) (some (.int e.1)) (some (.int e.2)) (Y1.trans (Y2.trans Y3))
     ⟨[T1,T2],upd_same,.cons ((Y2.trans Y3) _ _ upd_same) (.cons (Y3 _ _ upd_same) .nil)⟩ (by show 1<=2;decide) (by show 2<=5;decide) vG vG (fa hin (fa hin f0))
    exact⟨np,L,xs,ys,rfl,rfl,k1,k2,k3,λr r0=>⟨_,_,_,_,k4 r r0⟩⟩
   ·refine⟨_,rfl,_,rfl,_,rfl,two,λT1 hT1=>⟨(by show 1<=sizeLine;decide),λL hL=>?_⟩⟩;have Y1:=Ext.new hT1 (.tup (enV (e.1,e.2)));have Y3:=Ext.new hL (.lst [V.ref T1]);obtain⟨xs,ys,k1,k2,k3,k4⟩:=fin [(e.1,e.2)] m L _ (some (.int (0+(i:Int)))) (some (.int (B / 3 % 4))) (some (.int (B / 12 % (((as.map V.ref).length:Nat):Int)))) (some (.int e.1)) (some (.int e.2)) (Y1.trans Y3)
     ⟨[T1],upd_same,.cons (Y3 _ _ upd_same) .nil⟩ (by show 1<=1;decide) (by show 1<=5;decide) vG vG (fa hin f0)
    exact⟨np,L,xs,ys,rfl,rfl,k1,k2,k3,λr r0=>⟨_,_,_,_,k4 r r0⟩⟩
 ·clear en0 E4 np0 X4 X3 X2 X1 hnp hT3 hT2 hT1;rintro σ H' ⟨B,m,np,es,⟨x5,x6,x7,x8,x9,rfl⟩,ext,np0,es0,l3,le,m3,me,ins⟩;obtain⟨as,ea1,ea2⟩:=id es0;have la:as.length=es.length:=ea2.length;have lm:(as.map V.ref).length=es.length:=by rw[hA1];exact la
  have n4:(2+B0 % 3).toNat<=4:=by omega
  have m11:m<=11:=by omega
  clear i0 i1 n4 me;refine⟨_,rfl,_,rfl,_,_,rfl,rfl,a,ns,_,rfl,ext.sqL hS,by decide,by decide,λB1=>?_⟩;refine⟨_,rfl,np,_,rfl,.inl (SqL.of ea1),_,_,rfl,?_⟩;obtain⟨n,en,n12,n3,ne12⟩:∃n:Nat,(if (((as.map V.ref).length:Nat):Int)<12 then (((as.map V.ref).length:Nat):Int) else 12)=(n:Int)/\n<=12/\3<=n/\n=(es.take 12).length:=by
   rw[hAm];by_cases c:(((as.map V.ref).length:Nat):Int)<12
   ·rw[hEk c];exact⟨_,rfl,by omega,by omega,by omega⟩
   ·rw[hEj c];exact⟨12,rfl,by omega,by omega,by omega⟩
  rw[en];refine⟨B1,(n:Int),rfl,by omega,by omega,λnr ss H2 e2 nr0 hss lss tx ndc=>?_⟩;have nd0:ss.Nodup:=ndc vG;refine⟨nr,ss,rfl,SqL.of hss,by omega,λnm aA hnm pm srt=>?_⟩;have nd:aA.Nodup:=pm.symm.nodup nd0;have rn:qEc aA:=qS4 srt nd;have txn:Tx aA:=λx hx=>tx x (pm.mem_iff.mp hx)
  have lnm:aA.length=n:=by rw[pm.length_eq,lss];omega
  have Z2:=Ext.new hnm (.lst (aA.map V.str));have E2:=ext.trans (e2.trans Z2);have hn2:LsS (upd H2 nm (.lst (aA.map V.str))) nm aA:=upd_same;have ea2':=Paired.mapP ea2 λa t z=>(e2.trans Z2) _ _ z
  have ea1':=(e2.trans Z2) _ _ ea1;revert E2 hn2 ea2' ea1';generalize upd H2 nm (.lst (aA.map V.str))=H3;intro E2 hn2 ea2' ea1';refine⟨_,rfl,_,rfl,np,_,rfl,SqL.of ea1',λl1 hl1=>?_⟩;rw[show qX5 (as.map V.ref) none (some 12)=(as.take 12).map V.ref by rw[List.map_take];exact qU4 (as.map V.ref) 12];have Z3:=Ext.new hl1 (.lst ((as.take 12).map V.ref));refine⟨l1,_,rfl,.inl (SqL.of upd_same),λod hod=>?_⟩;have Z4:=Ext.new hod (.lst ((as.take 12).map V.ref));refine⟨hAt _,λfo hfo=>?_⟩;have Z5:=Ext.new hfo (.lst []);have Z35:=Z3.trans (Z4.trans Z5);refine⟨λk σ H6=>∃B od fo nm es net,GW H a aA k σ H6 B m od fo nm es net,⟨n,B,od,fo,nm,es.take 12,[],⟨np,x5,x6,x7,x8,x9,none,rfl⟩,E2.trans Z35,(E2.trans Z3).none hod,(E2.trans (Z3.trans Z4)).none hfo,?_,?_,?_,Z35 _ _ hn2,⟨as.take 12,Z5 _ _ upd_same,?_⟩,⟨[],upd_same,.nil⟩,ne12.symm,by rw[lnm];exact Nat.zero_add _,rfl,λe he=>ins e (hDe he)⟩,?_⟩
  ·intro z;rw[<-z,upd_same]at hfo;cases hfo
  ·intro z;rw[<-z,Z3 _ _ hn2]at hod;cases hod
  ·intro z;rw[<-z,(Z3.trans Z4) _ _ hn2]at hfo;cases hfo
  ·exact qH6 12 (Paired.mapP ea2' λa t z=>Z35 _ _ z)
  clear Z35 Z5 Z4 Z3 hfo hod hl1 ea1' ea2' hn2 E2 es0 ea1 ea2 la lm en e2 hss Z2 hnm ext l3 le ne12;rintro k σ H6 ⟨B,od,fo,nm,es,net,⟨np,x5,x6,x7,x8,x9,x13,rfl⟩,ext,od0,fo0,ne,no,nf,hn,es0,nt,lk,ln,fst,ins⟩;obtain⟨as,ea1,ea2⟩:=id es0;have la:as.length=es.length:=ea2.length;refine⟨_,rfl,hAt _,λl0 hl0=>?_⟩;have X0:=Ext.new hl0 (.lst []);have pr0:=Paired.mapP ea2 λa t z=>X0 _ _ z
  have od1:=X0 _ _ ea1;refine⟨_,_,.lst (SqL.of od1) (qUx pr0),.lst (SqL.of upd_same) .nil,qNj es,(by decide +kernel),_,rfl,?_⟩;have hn0:=X0 _ _ hn;have nt0:=nt.ext X0;have E0:=ext.trans X0;revert pr0 od1 hn0 nt0 E0;generalize upd H6 l0 (.lst [])=H7;intro pr0 od1 hn0 nt0 E0;refine qBw (λc=>⟨λσ' H'=>∃m',m'<k/\∃B od fo nm es net,GW H a aA m' σ' H' B m od fo nm es net,λ_ _ h=>h,?_⟩) (λc=>?_)
  ·have lp:0<es.length:=List.length_pos_iff.mpr λz=>by
    rw[z]at c;revert c
    decide +kernel
   have lm:(as.map V.ref).length=es.length:=by rw[hA1];exact la
   obtain⟨j,hj,ej⟩:=qTw B (n:=(as.map V.ref).length) vG;have hja:j<as.length:=by omega
   have gj:(as.map V.ref)[j]?=some (V.ref as[j]):=by rw[hAl,hA2 hja];rfl
   obtain⟨e,he,hbe⟩:=qAr pr0 (hA2 hja);have hin:=ins e (hAc he);refine⟨_,rfl,.inl ⟨rfl,_,SqL.of od1⟩,_,rfl,_,rfl,od,_,rfl,.inl (SqL.of od1),_,_,rfl,rfl,(by rw[lm];omega),od,_,(j:Int),j,_,rfl,(by show [V.int (B % (((as.map V.ref).length:Nat):Int))]=_;rw[ej]),od1,by omega,by omega,qY2 hj,gj,?_⟩;have P1:=qBn.pop j od1 pr0;have E1:=E0.over od0 (.lst ((as.map V.ref).eraseIdx j));have hb1:upd H7 od (.lst ((as.map V.ref).eraseIdx j)) as[j]=some (.tup (enV e)):=by
    rw[qAk (λz=>by rw[z,od1]at hbe;cases hbe)];exact hbe
   have hn1:LsS (upd H7 od (.lst ((as.map V.ref).eraseIdx j))) nm aA:=by unfold LsS;rw[qAk no];exact hn0
   have nt1:=nt0.oth (u:=.lst ((as.map V.ref).eraseIdx j)) od1 (Ne.symm ne);have lj:j<es.length:=by omega
   have le1:(es.eraseIdx j).length=es.length-1:=List.length_eraseIdx_of_lt lj;have in1:∀x∈es.eraseIdx j,qVx m x:=λx hx=>ins x (List.mem_of_mem_eraseIdx hx)
   revert P1 E1 hb1 hn1 nt1;generalize upd H7 od (.lst ((as.map V.ref).eraseIdx j))=H8;generalize es.eraseIdx j=fs at le1 in1 ⊢;intro P1 E1 hb1 hn1 nt1;obtain⟨bs,eb1,eb2⟩:=id P1;have lb:bs.length=fs.length:=eb2.length;obtain⟨ds,ed1,ed2⟩:=id nt1;have ld:ds.length=net.length:=ed2.length;refine⟨_,rfl,_,rfl,od,_,rfl,.inl (SqL.of eb1),_,_,rfl,rfl,_,_,rfl,rfl,⟨by rw[hA1];omega,by rw[hA1];omega⟩,?_⟩;have lnn:net.length<aA.length:=by omega
   have gn:atI (aA.map V.str) (((ds.map V.ref).length:Nat):Int)=some (.str aA[net.length]):=by
    rw[hA1,ld];exact qA0 (by rw[hAl,hA2 lnn];rfl)
   refine⟨_,rfl,.inl ⟨rfl,_,SqL.of ed1⟩,_,rfl,_,rfl,fo,_,rfl,.inl (SqL.of ed1),nm,_,_,_,rfl,rfl,SqL.of hn1,gn,(by show 1<=sizeLine;decide),λT1 hT1=>?_⟩;have Y1:=Ext.new hT1 (.tup [V.str aA[net.length]]);refine⟨_,rfl,as[j],rfl,⟨_,SqT.of (Y1 _ _ hb1)⟩,?_⟩;refine qM6 (xs:=enV e) (λi ys H9=>upd H8 T1 (.tup [V.str aA[net.length]])=H9/\∃l:List Str,ys=l.map V.str/\l.length=i) ⟨rfl,[],rfl,rfl⟩ (λi ys H9 _ h=>by rw[<-h.1];exact SqT.of (Y1 _ _ hb1)) ?_ ?_
   ·rintro i x ys H9 hx ⟨rfl,l,rfl,ll⟩;have hi:i<2:=(hAp.mp hx).1;obtain⟨v,rfl,v0,v1⟩:∃v:Int,x = .int v/\0<=v/\v<m:=by
     match i,hi,hx with
     |0,_,hx=>cases hx;exact⟨_,rfl,hin.1.1,hin.1.2⟩
     |1,_,hx=>cases hx;exact⟨_,rfl,hin.2.1,hin.2.2⟩
    obtain⟨u,rfl⟩:=Int.eq_ofNat_of_zero_le v0;obtain⟨s1,s2⟩:=qR5 u vG;have s3:(1:Nat)+4<=sizeLine:=by decide
    refine⟨sls,iteT (B:=False) ⟨_,rfl,_,rfl,s2,_,_,rfl,rfl,hAw (Nat.add_le_add_left s1 _) s3,⟨by rw[hA1];exact qAf vG,nxt hi ⟨rfl,l++[_],by rw[hA4];rfl,by rw[hAf,ll];rfl⟩⟩⟩⟩
   rintro ys H9 ⟨rfl,l,rfl,ll⟩ L2 hL2;have Y2:=Y1.trans (Ext.new hL2 (.lst (l.map V.str)));have ll2:l.length=2:=ll;refine⟨L2,l,rfl,SqL.of upd_same,by omega,λS ss hS' perm srt=>?_⟩;have Y4:=Y2.trans (Ext.new hS' (.lst (ss.map V.str)));refine⟨S,_,rfl,.inl ⟨SqL.of upd_same,λT2 hT2=>?_⟩⟩;have lss:ss.length=2:=by rw[perm.length_eq];exact ll2
   obtain⟨x,y,rfl⟩:∃x y,ss=[x,y]:=by
    match ss,lss with
    |[x,y],_=>exact⟨x,y,rfl⟩
   have Y5:=Y4.trans (Ext.new hT2 (.tup ([x,y].map V.str)));have t1:upd H8 T1 (.tup [V.str aA[net.length]]) T1=some (.tup [V.str aA[net.length]]):=upd_same;have t15:=Ext.new hT2 (.tup ([x,y].map V.str)) _ _ (Ext.new hS' (.lst ([x,y].map V.str)) _ _ (Ext.new hL2 (.lst (l.map V.str)) _ _ t1));refine⟨T1,T2,_,_,rfl,rfl,SqT.of t15,SqT.of upd_same,vI,(by show 3<=sizeLine;decide),(λz=>by cases z),λ_ T3 hT3=>?_⟩;have Y6:=Y5.trans (Ext.new hT3 (.tup (trV (aA[net.length],x,y))));refine⟨fo,_,_,rfl,rfl,Y6 _ _ ed1,?_,?_⟩
   ·rw[hA1];exact qAf vG
   ·refine⟨k-1,by omega,_,od,fo,nm,fs,net++[(aA[net.length],x,y)],⟨_,_,_,_,_,_,_,rfl⟩,(E1.trans Y6).over fo0 _,od0,fo0,ne,no,nf,by unfold LsS;rw[qAk nf];exact Y6 _ _ hn1,(P1.ext Y6).oth (Y6 _ _ ed1) ne,qFf.snoc ed1 ed2 Y6 upd_same,by omega,by rw[hAf];show _+1+_=_;omega,?_,in1⟩;rw[hA4,fst,hAf];show _=aA.take (net.length+1);rw[qAh (hA2 lnn)];rfl
  ·have e0:es=[]:=by
    cases es with
    |nil=>rfl
    |cons x r=>exact absurd rfl c
   subst e0;have k0:k=0:=lk.symm;subst k0;have fn:net.map (·.1)=aA:=by rw[fst];exact hA5 vG
   exact⟨_,rfl,q fo net _ E0 fo0 nt0 vG (by rw[fn];exact txn) (by rw[fn];exact rn)⟩
end
def qSc(K:PySem.W.Frag)(Pb:Addr):Sp:=λvs H Q _=>∃(a:Addr) (ns:List Int),vs=[.ref a,.int 1]/\SqL K H a (ns.map V.int)/\TabW H Pb lpB qB/\∀(T na ba:Addr) (aA:List Str) (N:List Nat) (H':Hp),ExtB Pb H H'->H' T=some (.tup [.ref na,.ref ba])->LsS H' na aA->LsN H' ba N->qEc aA->Tx aA->aA.length<=12->N.length<=12->(∀x∈N,x<2^aA.length)->Lrr N->(3<=aA.length->One N aA.length)->TabW H' Pb lpB qB->Q (.ref T) H'
section
variable{P:Program}{w:World}{K:PySem.W.Frag}{mg:Str->Option Value}{base:Heap}{f f1 f2 f3 f4 f5 f6 f7 Pb:Addr}{fd fd1 fd2 fd3 fd4 fd5 fd6 fd7:FuncData}
noncomputable abbrev trN:List Str:=["_law_script","_law_at","_law_net_here","_law_heaps","_law_table"]
theorem qWh:FnScope trN ["_law_script","_law_at"] (qAc qLo):=fsk
theorem qXg(F:Fun K "_law_tree" "_law_tree" qLo f fd)
  (G1:v9 2 f1 fd1 ["_law_script","_law_k"] (qRb K) "_law_big")
  (G2:v9 3 f2 fd2 ["_law_script","_law_at"] (qYr K) "_law_glued")
  (G3:v9 3 f3 fd3 ["_law_base","_law_many"] (qSg Pb) "_law_blocks")
  (G4:v9 1 f4 fd4 ["_law_numbers"] qHp "_law_reduced")
  (G5:v9 1 f5 fd5 ["_law_net_here"] qNc "_law_even")
  (G6:v9 5 f6 fd6 ["_law_script","_law_at"] (qYu K Pb) "_law_block")
  (G7:v9 1 f7 fd7 ["_law_names_here","_law_row_here"] qSf "_law_mask")
  (ml:mg "len"=none):v8 6 f fd ["_law_script","_law_at"] (qSc K Pb):=by
 refine F.okA qWh λcdv A outer s H vs Q E hr h=>?_
 obtain⟨a,ns,rfl,hS,tw,q⟩:=h;have hr1:=hr.mono (j:=1) (by decide);have hr2:=hr.mono (j:=2) (by decide);have hr3:=hr.mono (j:=3) (by decide);refine⟨_,(qAa (qTb (qBo (qAn qB8 (qAg qBb (qAg qA5 (qAw G1 hr2 rfl .nil qAv (qAd (pv 0) (pa1 (qAg qA9 (pv 1) qAb)))) qAb) qAb) qAb (qAu _)) (qAa (v4 2 qWh (qAw G2 hr3 rfl .nil qAv (qAd (pv 0) (pa1 (pv 1))))) (qAa (v4 3 qWh (qAw G3 hr3 rfl .nil qAv (qAd (qAw G4 hr1 rfl .nil qAv (pa1 (qAw G5 hr1 rfl .nil qAv (pa1 (pv 2))))) (pa1 (qAj qAl rfl ml hAy (pa1 (pv 2))))))) (qAe (qBo (qAn qB8 (qAj qAl rfl ml hAy (pa1 (pv 3))) qAb (qAu _)) (qAe (qAt (qA6 (qAd (qA8 (N:=trN) (sc:=qAc qLo) (N':=["_law_tie"]) (sub:=[none]) (qAp (pv 2)) (λC s H fp=>⟨qAz,(qBe (show IxR _ (qNz K) from qBq) (pv 0) qAb (λ_ _=>rfl))⟩)) (pa1 (qAw G4 hr1 rfl .nil qAv (pa1 (qAw G5 hr1 rfl .nil qAv (pa1 (pv 2)))))))))) qA1)))) qA1)) (qAa (v6 4 qWh (qAw G6 hr rfl .nil qAv (qAd (pv 0) (pa1 (pv 1))))) (qAe (qAt (qA6 (qAd (qBe qBq (pv 4) qAb (λ_ _=>rfl)) (pa1 (qAw G4 hr1 rfl .nil qAv (pa1 (qA8 (N:=trN) (sc:=qAc qLo) (N':=["_law_row_here","_law_table"]) (sub:=[none,some 4]) (qAp (qBe qBq (pv 4) qAb (λ_ _=>rfl))) (λC s H fp=>⟨qAz,(qAw G7 hr1 rfl .nil qAv (qAd (qBe (show IxR _ (qNz K) from qBq) (pv 1) qAb (λ_ _=>rfl)) (pa1 (pv 0))))⟩))))))))))),?_⟩;refine⟨λσ' H'=>∃x2 x3:Option V,σ'=[some (.ref a),some (.int 1),x2,x3,none]/\ExtB Pb H H'/\SqL K H' a (ns.map V.int)/\TabW H' Pb lpB qB,?_,?_⟩
 ·refine⟨_,rfl,_,rfl,_,_,rfl,rfl,a,ns,_,rfl,hS,by decide,by decide,λB=>?_⟩;refine⟨_,_,rfl,rfl,⟨by decide,by decide⟩,_,_,rfl,rfl,(by show(0:Int)<_;decide),rfl,_,rfl,?_⟩;refine qBw (λc=>?_) (λc=>⟨none,none,rfl,λ_ _ _ h=>h,hS,tw⟩);refine⟨_,rfl,_,rfl,a,ns,rfl,hS,λnp net H1 e1 np0 nt ln tx rs=>?_⟩;refine⟨_,rfl,np,net,rfl,nt,ln,λev F0 Kp ps' H2 e2 ev0 hev pok ei kw=>?_⟩;have lF:F0.length<=12:=by have:=ei.len;omega
  refine⟨ev,F0,net.length,rfl,hev,by omega,λx hx=>(ei.f1 x hx).1,λrd H3 e3 rd0 hrd=>?_⟩;have E23:=e2.trans e3;obtain⟨as,hn,pr⟩:=id (nt.ext E23);have la:as.length=net.length:=pr.length;have E3:=e1.trans E23;have tw3:=My.TabW.extE tw E3;refine⟨_,rfl,np,_,rfl,.inl (SqL.of hn),rd,redL F0,_,rfl,hrd,hAw (qEj _) lF,by rw[hA1];omega,tw3,λhp hs H4 eB hp0 hhp pm tw4=>?_⟩;obtain⟨ps3,hP3⟩:=My.TabW.tb tw3;have EB4:ExtB Pb H H4:=λc o n h=>eB c o n (E3 c o h)
  have hS4:SqL K H4 a (ns.map V.int):=zFk hP3 eB (Ext.sqL E3 hS);have ne4:∀ {a:Addr} {o:HO},H3 a=some o->(∀ps,o≠.tbl ps)->H4 a=some o:=λ{a o} h n=>eB _ _ (λz=>by
   rw[z,hP3]at h;exact n _ (hAq h).symm) h
  refine⟨_,rfl,hp,_,rfl,.inl (SqL.of hhp),rfl,_,rfl,?_⟩;refine qBw (λc2=>?_) (λc2=>⟨_,_,rfl,EB4,hS4,tw4⟩);have hn4:=ne4 hn (λ_ z=>by cases z);have pr4:Paired (λa t=>H4 a=some (.tup (trV t))) as net:=Paired.mapP pr λa t z=>ne4 z (λ_ z=>by cases z)
  refine⟨_,rfl,np,rfl,⟨_,SqL.of hn4⟩,?_⟩;refine qHl (λt=>t.1) hn4 pr4 ln (λa t ha C B c=>⟨sls,?_⟩) ?_
  ·exact iteT (B:=B H4) ⟨_,rfl,a,_,_,_,rfl,rfl,SqT.of ha,(by exact qA0 (j:=0) rfl),c⟩
  intro na hna;have n5:=Ext.new hna (.lst ((net.map λt=>t.1).map V.str));refine⟨_,rfl,np,net,rfl,⟨as,n5 _ _ hn4,Paired.mapP pr4 λa t z=>n5 _ _ z⟩,ln,λev2 F2 Kp2 ps2 H6 e6 ev20 hev2 pok2 ei2 kw2=>?_⟩;have lF2:F2.length<=12:=by have:=ei2.len;omega
  refine⟨ev2,F2,net.length,rfl,hev2,by omega,λx hx=>(ei2.f1 x hx).1,λrd2 H7 e7 rd20 hrd2=>?_⟩;refine⟨(by show 2<=sizeLine;decide),λT hT=>?_⟩;have n8:=Ext.new hT (.tup [V.ref na,V.ref rd2]);have X:=n5.trans (e6.trans (e7.trans n8));refine q T na rd2 (net.map (·.1)) (redL F2) _ (EB4.trans X.toB) upd_same ((e6.trans (e7.trans n8)) _ _ upd_same) (n8 _ _ hrd2) rs tx (by rw[hA1];exact ln) (hAw (qEj _) lF2) (λx hx=>?_) (qFn _) (λn3=>?_) (My.TabW.extE tw4 X)
  ·rw[hA1];exact Spn.lt (λx hx=>(ei2.f1 x hx).1) (qEi x hx)
  ·rw[hA1]at n3;have ln1:(as.map V.ref).length=net.length:=by rw[hA1,la]
   have c3:(((hs.map iV).length:Nat):Int)=1:=V.int.inj (hEi c2);rw[hA1]at c3;obtain⟨h0,eh⟩:=hDk.mp (show hs.length=1 by omega);rw[eh,ln1]at pm;have o:=zC0 (qFn F0) (λx hx=>Spn.lt (λx hx=>(ei.f1 x hx).1) (qEi x hx)) vG (.inr pm.symm);rw[hA1];exact o.of λy=>by rw[qJ9,qJ9];exact qUq (qD8 rs) pok pok2 ei ei2 y
 ·rintro σ' H1 ⟨x2,x3,rfl,EB1,hS1,tw1⟩;refine⟨_,rfl,_,rfl,a,ns,rfl,hS1,tw1,λT0 aA rows H2 eB ti bl tx tw2=>?_⟩;obtain⟨ta,tb,hT,hn,hb⟩:=id ti;have tok:=bl.tok;have nd:aA.Nodup:=qD8 tok.rn;obtain⟨bs,hb1,hb2⟩:=id hb;have lb:bs.length=rows.length:=hb2.length;have l16:=tok.lr;refine⟨_,rfl,T0,_,_,_,rfl,rfl,SqT.of hT,(by exact qA0 (j:=0) rfl),?_⟩;refine⟨_,rfl,T0,_,_,_,rfl,rfl,SqT.of hT,(by exact qA0 (j:=1) rfl),tb,rfl,⟨_,SqL.of hb1⟩,?_⟩;refine qAq (xs:=bs.map V.ref) (λi ys H3=>Ext H2 H3/\ys=((rows.take i).map (qD2 aA)).map iV) ⟨Ext.refl _,rfl⟩ (λi ys H3 _ h=>SqL.of (h.1 _ _ hb1)) ?_ ?_
  ·rintro i x ys H3 hx ⟨e3,rfl⟩;obtain⟨b,rfl,hb'⟩:=qA7 hx;obtain⟨r,hr',hbr⟩:=qAr hb2 hb';have hi:=qAx hr';obtain⟨z,rfl⟩:=tok.rw r (hAc hr');have sub:∀n∈rowL aA z,n∈aA:=λn hn=>by obtain⟨i,_,h,_⟩:=qBf.mp hn;exact hAc h
   have lr12:(rowL aA z).length<=12:=by
    unfold rowL;have:=hCf (λi=>if z.testBit i=true then aA[i]? else none) (List.range aA.length);rw[hB4]at this;have:=tok.ln;omega
   refine⟨sls,iteT (B:=False) ⟨_,rfl,T0,_,_,_,rfl,rfl,SqT.of (e3 _ _ hT),(by exact qA0 (j:=0) rfl),_,rfl,ta,b,aA,rowL aA z,rfl,e3 _ _ hn,e3 _ _ hbr,sub,tok.ln,lr12,λH4 e4=>⟨by rw[hA1,hA1,hAm];exact qAf vG,nxt (qAx hx) ⟨e3.trans e4,?_⟩⟩⟩⟩;rw[qAh hr',hA4,hA4];rfl
  ·rintro ys H3 ⟨e3,rfl⟩ ml' hml;rw[hA1,lb,hA5 (hA9 _)];have n4:=Ext.new hml (.lst ((rows.map (qD2 aA)).map iV));have lt:=tok.masks.1;refine⟨ml',rows.map (qD2 aA),aA.length,rfl,upd_same,by rw[hA1];omega,lt,λrd H5 e5 rd0 hrd=>?_⟩;refine⟨(by show 2<=sizeLine;decide),λT hT'=>?_⟩;have n8:=Ext.new hT' (.tup [V.ref ta,V.ref rd]);have X:=e3.trans (n4.trans (e5.trans n8));have l8:=bl.l8;refine q T ta rd aA _ _ ((EB1.trans eB).trans X.toB) upd_same (X _ _ hn) (n8 _ _ hrd) tok.rn tx tok.ln (hAw (qEj _) (by rw[hA1];omega)) (λx hx=>Spn.lt lt (qEi x hx)) (qFn _) (λn3=>(show One _ _ from ⟨bl.on,bl.no1⟩).of λy=>(qJ9 y).symm) (My.TabW.extE tw2 X)
end
abbrev PaE:=Str×List (List Str)
def PaT(H:Hp)(t:Addr)(e:PaE):Prop:=∃G,H t=some (.tup [.str e.1,.ref G])/\qDx H G e.2
theorem PaT.ext(h:PaT H t e)(x:Ext H H'):PaT H' t e:=by
 obtain⟨G,h1,h2⟩:=h;exact⟨G,x _ _ h1,h2.ext x⟩
theorem qUl(xs:List (List α))(i:Nat):(xs.take i).flatten.length<=xs.flatten.length:=by
 have:(xs.take i++xs.drop i).flatten.length=xs.flatten.length:=by rw[List.take_append_drop]
 rw[List.flatten_append,hAf]at this;omega
theorem qMe{α:Type}{xs:List (List α)}{i:Nat}{x:List α}(h:xs[i]?=some x):(xs.take (i+1)).flatten=(xs.take i).flatten++x:=by
 rw[qAh h,List.flatten_append];simp
theorem qIl{R:List (List Str)}:(R.map λr=>r.map V.str).flatten=R.flatten.map V.str:=by
 rw[List.map_flatten]
theorem qFc{H:Hp}:∀ {as:List Addr} {R:List (List Str)},Paired (λa r=>H a=some (.lst (r.map V.str))) as R->Paired (λa xs=>H a=some (.lst xs)) as (R.map λr=>r.map V.str)
 |_,_,.nil=>.nil
 |_,_,.cons h t=>.cons h (qFc t)
theorem qT2{α:Type}{f:α->V}{l:List α}{i:Nat}{v:V}(h:(l.map f)[i]?=some v):∃a,v=f a/\l[i]?=some a:=by
 rw[hAl]at h;cases e:l[i]? with
 |none=>rw[e]at h;cases h
 |some a=>rw[e]at h;exact⟨a,(hAq h).symm,rfl⟩
theorem qHc(i:Nat):(List.replicate (i+1) true).map V.bl=(List.replicate i true).map V.bl++[V.bl true]:=by
 rw[List.replicate_succ',hA4];rfl
theorem qJ8(n:Nat):(List.replicate n true).all id=true:=by
 rw[hE0];intro x hx;rw[List.eq_of_mem_replicate hx];rfl
def qNb:Sp:=λvs H Q _=>∃(p:Addr) (as:List Addr) (xss:List (List V)),vs=[.ref p]/\H p=some (.lst (as.map V.ref))/\Paired (λa xs=>H a=some (.lst xs)) as xss/\xss.flatten.length<=5000/\∀r H',Ext H H'->H r=none->H' r=some (.lst xss.flatten)->Q (.ref r) H'
structure PaOk(es:List PaE):Prop where
 ln:es.length<=10
 kd:∀e∈es,e.1 = "ring"\/e.1 = "bundle"\/e.1 = "whole"
 l3:∀e∈es,3<=e.2.length
 l12:∀e∈es,e.2.length<=12
 rw:∀e∈es,∀r∈e.2,r≠[]/\r.length<=12/\Tx r
def qYv:Sp:=λvs H Q _=>∃(L:Addr) (ts:List Addr) (es:List PaE),vs=[.ref L]/\H L=some (.lst (ts.map V.ref))/\Paired (PaT H) ts es/\PaOk es/\∀H',Ext H H'->Q (.bl true) H'
section
variable{P:Program}{w:World}{K:PySem.W.Frag}{mg:Str->Option Value}{base:Heap}{f f1 f2 f3:Addr}{fd fd1 fd2 fd3:FuncData}
noncomputable abbrev flN:List Str:=["_law_rows","_law_found","_law_row_here"]
theorem qPg:FnScope flN ["_law_rows"] (qAc qSs):=fsk
theorem qXh(F:Fun K "_law_flat" "_law_flat" qSs f fd):v8 1 f fd ["_law_rows"] qNb:=by
 refine F.okA qPg λcdv A outer s H vs Q E hr h=>?_
 obtain⟨p,as,xss,rfl,hp,pr,lz,q⟩:=h;refine⟨_,(qAa (v4 1 qPg (qA4 qA3)) (qAa (qBa PassesOwn.never rfl (qAp (pv 0)) (v5 2 qPg) (qAe (v4 1 qPg (qAg qCi (pv 1) (pv 2))))) (qAe (qAt (pv 1))))),?_⟩;refine⟨hAt _,λfo hfo=>?_⟩;have X1:=Ext.new hfo (.lst []);have la:=pr.length;refine⟨_,rfl,p,rfl,⟨_,SqL.of (X1 _ _ hp)⟩,?_⟩;refine qBg (xs:=as.map V.ref) (λi σ H'=>∃(fo:Addr) (x2:Option V),σ=[some (.ref p),some (.ref fo),x2]/\Ext H H'/\H fo=none/\H' fo=some (.lst (xss.take i).flatten)) ⟨fo,none,rfl,X1,hfo,upd_same⟩ (λi σ H' _ h=>by obtain⟨_,_,_,e,_⟩:=h;exact SqL.of (e _ _ hp)) ?_ ?_
 ·rintro i v σ H' hx ⟨fo,x2,rfl,e,fo0,hf⟩;obtain⟨a,rfl,ha⟩:=qA7 hx;obtain⟨xs,hxs,hax⟩:=qAr pr ha;have l1:=qUl xss (i+1);rw[qMe hxs,hAf]at l1;refine⟨_,rfl,_,rfl,fo,a,_,_,rfl,rfl,hf,e _ _ hax,hB9 (qDo vG),λr hr'=>?_⟩;exact⟨r,_,rfl,e.trans (Ext.new hr' _),e.none hr',by rw[upd_same,qMe hxs]⟩
 ·rintro σ H' ⟨fo,x2,rfl,e,fo0,hf⟩;rw[hA1,la,hA5 (hA9 _)]at hf;exact⟨_,rfl,q fo H' e fo0 hf⟩
noncomputable abbrev arN:List Str:=["_law_found","_law_kind_here","_law_share"]
theorem zAl:FnScope arN ["_law_found"] (qAc qRe):=fsk
theorem zBz(F:Fun K "_law_are_parts" "_law_are_parts" qRe f fd)(G1:v9 1 f1 fd1 ["_law_rows"] qNb "_law_flat")
  (mi:mg "isinstance"=none) (mal:mg "all"=none) (mL:mg "list"=none) (mtu:mg "tuple"=none) (mst:mg "str"=none) (ml:mg "len"=none):v8 2 f fd ["_law_found"] qYv:=by
 refine F.okA zAl λcdv A outer s H vs Q E hr h=>?_
 obtain⟨L,ts,es,rfl,hL,pr,ok,q⟩:=h;have lt:=pr.length;have l10:=ok.ln;refine⟨_,(qAa (qBo (PW.pt (qN0 (qGv (qD9 (qAj qC6 rfl mi qC8 (qAd (pv 0) (pa1 (qH5 (v:=.ty "list") rfl mL qCf rfl)))))) (qLs (qGv (qD9 (qAj (qF6 rfl) rfl mal qF8 (pa1 (qA8 (N:=arN) (sc:=qAc qRe) (N':=["_law_part"]) (sub:=[none]) (qAp (pv 0)) (λC s H fp=>⟨qAz,(qPt (qAj (show qCm _ _ (λxs H Q=>∃x t c b,xs=[x,V.ty c]/\TyOf K H x t/\PySem.W.kitOne K t (.type c)=some b/\Q (.bl b) H) from qC6) rfl mi qC8 (qAd (pv 0) (pa1 (qH5 (v:=.ty "tuple") rfl mtu qFe rfl)))) (qTg (qDl qB8 (qAj (show qCm _ _ (λxs H Q=>∃p ys,xs=[V.ref p]/\(SqL K H p ys\/SqT K H p ys)/\Q (.int ys.length) H) from qAl) rfl ml hAy (pa1 (pv 0))) qAb (qAu _))))⟩))))))))) (qAe (qAt qG3)) qA1) (qAa (qBa PassesOwn.never rfl (qAp (pv 0)) (qB5 rfl (qAs (v5 1 zAl) (qAs (v5 2 zAl) qBl))) (qAa (qBo (PW.pt (qN0 (qAn qCe (pv 1) (qA4 (qAd qCv (qAd qCv (pa1 qCv)))) (by with_unfolding_all rfl)) (qN0 (qGv (qD9 (qAj qC6 rfl mi qC8 (qAd (pv 2) (pa1 (qH5 (v:=.ty "list") rfl mL qCf rfl)))))) (qLs (qAn qFs (qAj qAl rfl ml hAy (pa1 (pv 2))) qAb (qAu _)))))) (qAe (qAt qG3)) qA1) (qAa (qBo (qGv (qD9 (qAj (qF6 rfl) rfl mal qF8 (pa1 (qA8 (N:=arN) (sc:=qAc qRe) (N':=["_law_row_here"]) (sub:=[none]) (qAp (pv 2)) (λC s H fp=>⟨qAz,(qPt (qAj (show qCm _ _ (λxs H Q=>∃x t c b,xs=[x,V.ty c]/\TyOf K H x t/\PySem.W.kitOne K t (.type c)=some b/\Q (.bl b) H) from qC6) rfl mi qC8 (qAd (pv 0) (pa1 (qH5 (v:=.ty "list") rfl mL qCf rfl)))) (qTg (qDl (show OpR _ _ (zF4 K true) from qL0 (qPk hr)) (pv 0) (qA4 qA3) (qAu _))))⟩)))))) (qAe (qAt qG3)) qA1) (qAe (qBo (qGv (qD9 (qAj (qF6 rfl) rfl mal qF8 (pa1 (qA8 (N:=arN) (sc:=qAc qRe) (N':=["_law_name"]) (sub:=[none]) (qAp (qAw G1 hr rfl .nil qAv (pa1 (pv 2)))) (λC s H fp=>⟨qAz,(qAj (show qCm _ _ (λxs H Q=>∃x t c b,xs=[x,V.ty c]/\TyOf K H x t/\PySem.W.kitOne K t (.type c)=some b/\Q (.bl b) H) from qC6) rfl mi qC8 (qAd (pv 0) (pa1 (qH5 (v:=.ty "str") rfl mst qMs rfl))))⟩)))))) (qAe (qAt qG3)) qA1))))) (qAe (qAt qG3)))),?_⟩;refine⟨_,rfl,_,_,_,true,rfl,.lst hL,qFy _ _,true,rfl,qG5 ?_⟩;refine⟨_,rfl,L,rfl,⟨_,SqL.of hL⟩,?_⟩;refine qAq (xs:=ts.map V.ref) (λi ys H'=>H'=H/\ys=(List.replicate i true).map V.bl) ⟨rfl,rfl⟩ (λi ys H' _ h=>by rw[h.1];exact SqL.of hL) ?_ ?_
 ·rintro i v ys H' hx ⟨rfl,rfl⟩;obtain⟨a,rfl,ha⟩:=qA7 hx;obtain⟨e,he,G,h1,h2⟩:=qAr pr ha;have hi:=qAx ha;refine⟨sls,iteT (B:=False) ⟨_,rfl,_,_,_,true,rfl,.tup h1,qFy _ _,_,rfl,iteT ?_⟩⟩;refine⟨_,rfl,a,_,rfl,.inr (SqT.of h1),rfl,by rw[hA1,hDo];exact qAf vG,nxt (qAx hx) ⟨rfl,?_⟩⟩;rw[qHc];rfl
 rintro ys H' ⟨rfl,rfl⟩ r hr1;rw[hA1];have X1:=Ext.new hr1 (.lst ((List.replicate ts.length true).map V.bl));refine⟨r,List.replicate ts.length true,rfl,SqL.of upd_same,_,rfl,?_⟩;rw[qJ8];refine qG5 ?_;refine⟨_,rfl,L,rfl,⟨_,SqL.of (X1 _ _ hL)⟩,?_⟩;refine qBg (xs:=ts.map V.ref) (λi σ H2=>∃(x1 x2:Option V),σ=[some (.ref L),x1,x2]/\Ext H' H2) ⟨none,none,rfl,X1⟩ (λi σ H2 _ h=>by obtain⟨_,_,_,e⟩:=h;exact SqL.of (e _ _ hL)) ?_ ?_
 ·rintro i v σ H2 hx ⟨x1,x2,rfl,e2⟩;obtain⟨a,rfl,ha⟩:=qA7 hx;obtain⟨e,he,G,h1,bs,hb1,hb2⟩:=qAr pr ha;have em:=hAc he;have l3:=ok.l3 e em;have l12:=ok.l12 e em;have lb:bs.length=e.2.length:=hb2.length;refine⟨a,_,rfl,SqT.of (e2 _ _ h1),rfl,_,_,rfl,_,_,rfl,rfl,?_⟩;refine⟨_,rfl,(by show 3<=sizeLine;decide),λkl hkl=>?_⟩;have Y1:=e2.trans (Ext.new hkl (.lst [V.str "ring",V.str "bundle",V.str "whole"]));refine⟨kl,_,rfl,.inl (SqL.of upd_same),rfl,rfl,_,rfl,?_⟩;have kin:inV (.str e.1) [V.str "ring",V.str "bundle",V.str "whole"]=true:=by
   rcases ok.kd e em with z|z|z <;> rw[z] <;> decide +kernel
  rw[hEk rfl,kin];refine qG5 ?_;have hG:=Y1 _ _ hb1;refine⟨_,rfl,_,_,_,true,rfl,.lst hG,qFy _ _,true,rfl,qG5 ?_⟩;refine⟨_,rfl,G,_,rfl,.inl (SqL.of hG),_,_,rfl,rfl,_,rfl,?_⟩;rw[show decide ((((bs.map V.ref).length:Nat):Int)<3)=false by rw[hA1];exact hEg vG];refine qG5 ?_;refine⟨_,rfl,G,rfl,⟨_,SqL.of hG⟩,?_⟩;refine qAq (xs:=bs.map V.ref) (λj ys H3=>Ext H' H3/\ys=(List.replicate j true).map V.bl) ⟨Y1,rfl⟩ (λj ys H3 _ h=>SqL.of (h.1 _ _ hb1)) ?_ ?_
  ·rintro j v ys H3 hy ⟨e3,rfl⟩;obtain⟨b,rfl,hb⟩:=qA7 hy;obtain⟨row,hrow,hbr⟩:=qAr hb2 hb;have hj:=qAx hb;obtain⟨rne,_,rtx⟩:=ok.rw e em row (hAc hrow);refine⟨sls,iteT (B:=False) ⟨_,rfl,_,_,_,true,rfl,.lst (e3 _ _ hbr),qFy _ _,_,rfl,iteT ?_⟩⟩;refine⟨_,rfl,hAt _,λl0 hl0=>?_⟩;have Z0:=e3.trans (Ext.new hl0 (.lst []));refine⟨_,_,qMj (Z0 _ _ hbr),qMj (r:=[]) upd_same,qI3 λx hx=>(rtx x hx).1.sm.ok,(by decide +kernel),by rw[hA1,hDo];exact qAf vG,nxt (qAx hy) ⟨Z0,?_⟩⟩;rw[qHc,qKy,hEg rne];rfl
  rintro ys H3 ⟨e3,rfl⟩ r2 hr2;rw[hA1];have Y2:=e3.trans (Ext.new hr2 (.lst ((List.replicate bs.length true).map V.bl)));refine⟨r2,List.replicate bs.length true,rfl,SqL.of upd_same,_,rfl,?_⟩;rw[qJ8];refine qG5 ?_;have fl:((e.2.map λr=>r.map V.str).flatten).length<=1000:=by
   rw[List.length_flatten,hB6];have:∀(R:List (List Str)),(∀r∈R,r.length<=12)->(R.map (List.length∘λr=>r.map V.str)).sum<=12*R.length:=by
    intro R
    induction R with
    |nil=>intro _;exact hAt _
    |cons r R ih =>
     intro h;have h1:=h r hA8;have h2:=ih λx hx=>h x (hA6 _ hx)
     rw[hBm,hCy,hC9];show(r.map V.str).length+_<=_;rw[hA1];omega
   have:=this e.2 λr hr=>(ok.rw e em r hr).2.1
   omega
  refine⟨_,rfl,G,bs,e.2.map λr=>r.map V.str,rfl,Y2 _ _ hb1,?_,hAw fl (by decide),λfr H4 e4 fr0 hfr=>?_⟩
  ·exact qFc (Paired.mapP hb2 λa r z=>Y2 _ _ z)
  rw[qIl]at hfr fl;rw[hA1]at fl;refine⟨fr,rfl,⟨_,SqL.of hfr⟩,?_⟩;refine qAq (xs:=e.2.flatten.map V.str) (λj ys H5=>H4=H5/\ys=(List.replicate j true).map V.bl) ⟨rfl,rfl⟩ (λj ys H5 _ h=>by rw[<-h.1];exact SqL.of hfr) ?_ ?_
  ·rintro j v ys H5 hy ⟨rfl,rfl⟩;obtain⟨x,rfl,hx'⟩:=qT2 hy;have hj:=qAx hx';refine⟨sls,iteT (B:=False) ⟨_,rfl,_,_,_,true,rfl,.str x,qFy _ _,by rw[hA1,hDo];exact qAf vG,nxt (qAx hy) ⟨rfl,?_⟩⟩⟩;rw[qHc]
  rintro ys H5 ⟨rfl,rfl⟩ r3 hr3;refine⟨r3,List.replicate _ true,rfl,SqL.of upd_same,_,rfl,?_⟩;rw[qJ8];refine qG5 ?_;exact⟨_,_,rfl,Y2.trans (e4.trans (Ext.new hr3 _))⟩
 ·rintro σ H2 ⟨x1,x2,rfl,e2⟩;exact q H2 e2
end
end My
namespace L2
open PySem PySem.Spec PyProof.Rows PySem.SeqAt
def zGy(K:PySem.W.Frag):R2:=λx y H Q=>∃ds d,DR K H y (.list ds)/\DR K H x d/\shaped (.list ds)=true/\shaped d=true/\Q (.bl (ds.any λz=>PyData.eqv z d)) H
theorem zEb(hu:X.A.units+65<cLine):OpR X (compareOp .In) (zGy X.K):=by
 intro aB s σ H x y v u Q I rx ry h;obtain⟨ds,d,hy,hx,sy,sx,q⟩:=h;obtain⟨a1,r1⟩:=DR.reads I hx rx;obtain⟨a2,r2⟩:=DR.reads I hy ry;exact in_list_reads r2 r1 (hFi sy) (hFi sx) (room_in_shaped sx hu) ⟨.bl _,H,I,rfl,q⟩
end L2
namespace My
open PySem L2
theorem qQ0(x:List Str):∀R:List (List Str),((R.map qG2).any λz=>PyData.eqv z (qG2 x))=decide (x∈R)
 |[]=>rfl
 |r :: R=>by
  rw[hBm,hEb,qQ0 x R,qKy];by_cases c:r=x
  ·rw[hEf c,hEf (show x∈r :: R by rw[c];exact hA8)];rfl
  ·rw[hEg c,Bool.false_or];exact decide_eq_decide.mpr ⟨λz=>hA6 _ z,λz=>(hAj.mp z).resolve_left λy=>c y.symm⟩
noncomputable def qE3(aA r:List Str):List Str:=aA.filter λx=>!decide (x∈r)
def qYw:Sp:=λvs H Q _=>∃(pn L:Addr) (aA:List Str) (ts:List Addr) (es:List PaE),vs=[.ref pn,.ref L]/\LsS H pn aA/\aA.length<=12/\SOk aA/\H L=some (.lst (ts.map V.ref))/\Paired (PaT H) ts es/\PaOk es/\(∀e∈es,∀r∈e.2,e.1≠"whole"->∀o∈es,qE3 aA r∈o.2->o.1≠e.1)/\∀H',Ext H H'->Q (.bl true) H'
section
variable{P:Program}{w:World}{K:PySem.W.Frag}{mg:Str->Option Value}{base:Heap}{f f1 f2 f3 f4:Addr}{fd fd1 fd2 fd3 fd4:FuncData}
noncomputable abbrev apN:List Str:=["_law_names_here","_law_found","_law_kind_here","_law_share","_law_row_here","_law_rest","_law_beyond"]
theorem qI4:FnScope apN ["_law_names_here","_law_found"] (qAc qSu):=fsk
theorem zB0(F:Fun K "_law_apart" "_law_apart" qSu f fd):v8 1 f fd ["_law_names_here","_law_found"] qYw:=by
 refine F.okA qI4 λcdv A outer s H vs Q E hr h=>?_
 obtain⟨pn,L,aA,ts,es,rfl,hn,n12,okn,hL,pr,ok,ap,q⟩:=h;refine⟨_,(qAa (qBa PassesOwn.never rfl (qAp (pv 1)) (qB5 rfl (qAs (v5 2 qI4) (qAs (v5 3 qI4) qBl))) (qAe (qBa PassesOwn.never rfl (qAp (pv 3)) (v7 4 qI4) (qAa (v6 5 qI4 (qA8 (N:=apN) (sc:=qAc qSu) (N':=["_law_name","_law_row_here"]) (sub:=[none,some 4]) (qAp (pv 0)) (λC s H fp=>⟨qBk (qAn (show OpR _ (compareOp .NotIn) (rIn K true) from qCe) (pv 0) (pv 1) (by with_unfolding_all rfl)),pv 0⟩))) (qAa (qDe (i:=6) (N:=apN) (sc:=qAc qSu) (N':=["_law_other","_law_rest"]) (sub:=[none,some 5]) (qAp (pv 1)) (λC s H fp=>⟨qBk (qAn (show OpR _ (compareOp .In) (zGy K) from zEb (qY5 hr)) (pv 1) (qBe (show IxR _ (qNz K) from qBq) (pv 0) qAb (λ_ _=>rfl)) (by with_unfolding_all rfl)),qBe (show IxR _ (qNz K) from qBq) (pv 0) qAb (λ_ _=>rfl)⟩) qI4.nd rfl vE) (qAe (qBo (PW.pt (qI9 (qAn qFr (pv 2) qCv (qAu _)) (qGd (qAn qDs (pv 2) (pv 6) (by with_unfolding_all rfl))))) (qAe (qAt qG3)) qA1))))))) (qAe (qAt qG3))),?_⟩;have lt:=pr.length;have l10:=ok.ln;refine⟨_,rfl,L,rfl,⟨_,SqL.of hL⟩,?_⟩;refine qBg (xs:=ts.map V.ref) (λi σ H2=>∃(x2 x3 x4 x5 x6:Option V),σ=[some (.ref pn),some (.ref L),x2,x3,x4,x5,x6]/\Ext H H2) ⟨none,none,none,none,none,rfl,Ext.refl _⟩ (λi σ H2 _ h=>by obtain⟨_,_,_,_,_,_,e⟩:=h;exact SqL.of (e _ _ hL)) ?_ ?_
 ·rintro i v σ H2 hx ⟨x2,x3,x4,x5,x6,rfl,e2⟩;obtain⟨a,rfl,ha⟩:=qA7 hx;obtain⟨e,he,G,h1,bs,hb1,hb2⟩:=qAr pr ha;have em:=hAc he;refine⟨a,_,rfl,SqT.of (e2 _ _ h1),rfl,_,_,rfl,_,_,rfl,rfl,?_⟩;refine⟨_,rfl,G,rfl,⟨_,SqL.of (e2 _ _ hb1)⟩,?_⟩;refine qBg (xs:=bs.map V.ref) (λj σ H3=>∃(x4 x5 x6:Option V),σ=[some (.ref pn),some (.ref L),some (.str e.1),some (.ref G),x4,x5,x6]/\Ext H H3) ⟨_,_,_,rfl,e2⟩ (λj σ H3 _ h=>by obtain⟨_,_,_,_,e⟩:=h;exact SqL.of (e _ _ hb1)) ?_ (λσ H3 h=>by
   obtain⟨x4,x5,x6,rfl,e3⟩:=h;exact⟨_,_,_,_,_,rfl,e3⟩)
  rintro j v σ H3 hy ⟨x4,x5,x6,rfl,e3⟩;obtain⟨b,rfl,hb⟩:=qA7 hy;obtain⟨r,hr',hbr⟩:=qAr hb2 hb;have rm:=hAc hr';refine⟨_,rfl,pn,rfl,⟨_,SqL.of (e3 _ _ hn)⟩,?_⟩;refine qAq (xs:=aA.map V.str) (λk ys H4=>H3=H4/\ys=((aA.take k).filter λx=>!decide (x∈r)).map V.str) ⟨rfl,rfl⟩ (λk ys H4 _ h=>by rw[<-h.1];exact SqL.of (e3 _ _ hn)) ?_ ?_
  ·rintro k v ys H4 hx ⟨rfl,rfl⟩;obtain⟨x,hx',rfl⟩:∃x,aA[k]?=some x/\V.str x=v:=by
    rw[hAl]at hx;cases c:aA[k]? with
    |none=>rw[c]at hx;cases hx
    |some y=>rw[c]at hx;exact⟨y,rfl,hAq hx⟩
   have lf:=hAz (λx=>!decide (x∈r)) (aA.take k);have lk:=List.length_take_le k aA;have lk2:(aA.take k).length<=aA.length:=by rw[hAm];omega
   refine⟨sls,?_⟩;refine⟨_,rfl,_,rfl,b,_,rfl,.inl (SqL.of (e3 _ _ hbr)),rfl,qF0 r,_,rfl,?_⟩;rw[hEk rfl,qIi];refine qBw (λcc=>?_) (λcc=>?_)
   ·refine⟨_,rfl,by rw[hA1];exact qAf vG,nxt (qAx hx) ⟨rfl,?_⟩⟩;rw[qAh hx',hBr,hCo (by exact cc),hDw,hA4];rfl
   ·refine nxt (qAx hx) ⟨rfl,?_⟩;rw[qAh hx',hBr,hCp (p:=λx=>!decide (x∈r)) cc,hDw,hCc]
  rintro ys H4 ⟨rfl,rfl⟩ rl hrl;rw[hA1,hA5 (hA9 _)];have hrest:LsS (upd H3 rl (.lst ((aA.filter λx=>!decide (x∈r)).map V.str))) rl (qE3 aA r):=upd_same;have E4:=e3.trans (Ext.new hrl (.lst ((aA.filter λx=>!decide (x∈r)).map V.str)));have okr:SOk (qE3 aA r):=λx hx=>okn x (hAd.mp hx).1
  revert hrest E4;generalize upd H3 rl (.lst ((aA.filter λx=>!decide (x∈r)).map V.str))=H4;intro hrest E4;refine⟨_,rfl,L,rfl,⟨_,SqL.of (E4 _ _ hL)⟩,?_⟩;refine qAq (xs:=ts.map V.ref) (λk ys H5=>H4=H5/\ys=(((es.take k).filter λo=>decide (qE3 aA r∈o.2)).map (·.1)).map V.str) ⟨rfl,rfl⟩ (λk ys H5 _ h=>by rw[<-h.1];exact SqL.of (E4 _ _ hL)) ?_ ?_
  ·rintro k v ys H5 hx ⟨rfl,rfl⟩;obtain⟨c,rfl,hc⟩:=qA7 hx;obtain⟨o,ho,G2,g1,cs,g2,g3⟩:=qAr pr hc;have om:=hAc ho;have ra:qDx H4 G2 o.2:=⟨cs,E4 _ _ g2,Paired.mapP g3 λa t z=>E4 _ _ z⟩;have oko:∀r∈o.2,SOk r:=λr hr x hx=>((ok.rw o om r hr).2.2 x hx).1.sm.ok
   have lf:=hAz (λo:PaE=>decide (qE3 aA r∈o.2)) (es.take k);have lk2:(es.take k).length<=es.length:=by rw[hAm];omega
   refine⟨sls,?_⟩;refine⟨_,rfl,_,rfl,c,_,_,_,rfl,rfl,SqT.of (E4 _ _ g1),(by exact qA0 (j:=1) rfl),_,_,qK1 ra,qMj hrest,qE8 oko,qI3 okr,_,rfl,?_⟩;rw[qQ0];refine qBw (λcc=>?_) (λcc=>?_)
   ·refine⟨_,rfl,c,_,_,_,rfl,rfl,SqT.of (E4 _ _ g1),(by exact qA0 (j:=0) rfl),by rw[hA1,hA1];exact qAf vG,nxt (qAx hx) ⟨rfl,?_⟩⟩;rw[qAh ho,hBr,hCo (by exact cc),hDw,hA4,hA4];rfl
   ·refine nxt (qAx hx) ⟨rfl,?_⟩;rw[qAh ho,hBr,hCp (p:=λo:PaE=>decide (qE3 aA r∈o.2)) cc,hDw,hCc]
  rintro ys H5 ⟨rfl,rfl⟩ bl hbl;rw[hA1,lt,hA5 (hA9 _)];have E5:=E4.trans (Ext.new hbl (.lst (((es.filter λo=>decide (qE3 aA r∈o.2)).map (·.1)).map V.str)));refine⟨_,rfl,rfl,_,rfl,?_⟩;refine qBw (λcc=>?_) (λcc=>?_)
  ·have nw:e.1≠"whole":=λz=>by rw[z]at cc;revert cc;decide +kernel
   refine⟨_,rfl,_,rfl,bl,_,rfl,.inl (SqL.of upd_same),rfl,qF0 _,_,rfl,?_⟩;rw[hEj (by decide),qIi];have no:decide (e.1∈(es.filter λo=>decide (qE3 aA r∈o.2)).map (·.1))=false:=hEg λz=>by
    obtain⟨o,ho,eq⟩:=hAe.mp z;obtain⟨o1,o2⟩:=hAd.mp ho;exact ap e em r rm nw o o1 (hEi o2) eq
   rw[no];exact qG5 ⟨_,_,_,rfl,E5⟩
  ·exact qG5 ⟨_,_,_,rfl,E5⟩
 ·rintro σ H2 ⟨x2,x3,x4,x5,x6,rfl,e2⟩;exact q H2 e2
end
end My
namespace L2
open PySem PySem.Spec PyProof.Rows PySem.W PySem.SeqAt PySem.MeetsSeq
theorem qP4:∀a:List (List Str),qId a a=false
 |[]=>rfl
 |x :: r=>by unfold qId;rw[hEk rfl];exact qP4 r
theorem qKp:∀a b:List (List Str),qId a b=true\/a=b\/qId b a=true
 |[],[]=>.inr (.inl rfl)
 |[],_ :: _=>.inl rfl
 |_ :: _,[]=>.inr (.inr rfl)
 |x :: r,y :: t=>by
  unfold qId;by_cases e:x=y
  ·subst e;rw[hEk rfl,hEk rfl];rcases qKp r t with h|h|h
   ·exact .inl h
   ·exact .inr (.inl (by rw[h]))
   ·exact .inr (.inr h)
  ·rw[hEj e,hEj (λz=>e z.symm)];rcases qIc x y with h|h|h
   ·exact .inl h
   ·exact absurd h e
   ·exact .inr (.inr h)
theorem qGj:∀a b c:List (List Str),qId a b=true->qId b c=true->qId a c=true
 |[],b,[],h,h'=>by
  cases b with
  |nil=>exact h
  |cons _ _=>cases h'
 |[],_,_ :: _,_,_=>rfl
 |_ :: _,[],_,h,_=>by cases h
 |_ :: _,_ :: _,[],_,h'=>by cases h'
 |x :: r,y :: t,z :: u,h,h'=>by
  unfold qId at h h' ⊢;by_cases e1:x=y
  ·subst e1;rw[hEk rfl]at h;by_cases e2:x=z
   ·subst e2;rw[hEk rfl]at h' ⊢;exact qGj r t u h h'
   ·rw[hEj e2]at h' ⊢;exact h'
  ·rw[hEj e1]at h;by_cases e2:y=z
   ·subst e2;rw[hEj e1];exact h
   ·rw[hEj e2]at h';have q:=qFw _ _ _ h h';rw[hEj (λe=>by rw[e,qN9]at q;cases q)];exact q
theorem qL5(a b:List (List Str))(h:qId a b=true):qId b a=false:=by
 cases q:qId b a with
 |false=>rfl
 |true=>have:=qGj a b a h q;rw[qP4]at this;cases this
def zHm(ts:List (List (List Str)))(i j:Nat):Bool:=qId (ts.getD i []) (ts.getD j [])
theorem qXq(ts:List (List (List Str))):Ordr (zHm ts):=⟨λa b h=>qL5 _ _ h,λa b c h h'=>by
 have h1:qId (ts.getD b []) (ts.getD a [])=false:=h;have h2:qId (ts.getD c []) (ts.getD b [])=false:=h';show qId (ts.getD c []) (ts.getD a [])=false;rcases qKp (ts.getD a []) (ts.getD b []) with q|q|q
 ·rcases qKp (ts.getD b []) (ts.getD c []) with r|r|r
  ·exact qL5 _ _ (qGj _ _ _ q r)
  ·rw[<-r];exact h1
  ·rw[h2]at r;cases r
 ·rw[q];exact h2
 ·rw[h1]at q;cases q⟩
theorem zAd(s:Shared){R:Nat->Nat->Bool}(o:Ordr R)(n:Nat):(qIt n R).Perm (List.range n)/\∀i j,i<j->j<n->R ((qIt n R).getD j 0) ((qIt n R).getD i 0)=false:=by
 by_cases h2:n<2
 ·have e:qIt n R=List.range n:=hEk h2;rw[e];exact⟨hDg _,λi j _ hj=>absurd hj vG⟩
 ·have key:∀s:Shared,Gd n (qVy R (kas_sort n))/\SPk R (qVy R (kas_sort n)) n:=λs=>by
   have w:=qOc (s:=s) (n:=n) (R:=R) (cmp:=λi j C s'=>i<n/\j<n/\C (R i j) s') (Q:=λp _=>Gd n p/\SPk R p n) (Q':=λp _=>p=qVy R (kas_sort n)/\Gd n p/\SPk R p n) (λi j C hi hj h=>⟨hi,hj,h⟩) (kas_sort n) (qNg o (λi j C hi hj h=>⟨hi,hj,h⟩) vG λp g sp=>⟨g,sp⟩) λa e q=>⟨e,q⟩
   have run:∀(t:KasT (Array Nat)) (Q:Array Nat->Shared->Prop),t.kasWp (λi j C s'=>i<n/\j<n/\C (R i j) s') Q s->Q (qVy R t) s:=by
    intro t
    induction t with
    |ret a=>intro Q h;exact h
    |ask i j k ih=>intro Q h;exact ih _ Q h.2.2
   have:=run _ _ w;exact this.2
  obtain⟨g,sp⟩:=key s;have e:qIt n R=(qVy R (kas_sort n)).toList:=hEj h2;rw[e];refine⟨hC5.mp g,λi j hij hj=>?_⟩;have h:=sp i j hij hj;have gd:∀k,(qVy R (kas_sort n)).getD k 0=(qVy R (kas_sort n)).toList.getD k 0:=λk=>by
   rw[hCd,hAa,hBi]
  rw[gd,gd]at h;exact h
end L2
namespace My
open PySem L2
theorem qTz(nd:aA.Nodup)(x:Nat):maskF aA (rowL aA x)=rv aA.length x:=by
 rw[<-qNu,qEl nd (qLq _ _)]
theorem qJf(nd:aA.Nodup)(N:List Nat):(N.map (rowL aA)).map (maskF aA)=N.map (rv aA.length):=by
 rw[hB6];exact hBg λx _=>qTz nd x
noncomputable def toE(aA:List Str)(e:PE1):PaE:=(e.1,e.2.map (rowM aA))
noncomputable def told(aA:List Str)(S:List Nat):List PaE:=(srtL aA (jF aA.length S)).map (toE aA)
theorem qR7(pm:(qIt J.length (ltJ aA J)).Perm (List.range J.length)):(srtL aA J).length=J.length/\∀e∈srtL aA J,e∈J:=by
 refine⟨by unfold srtL;rw[hA1,pm.length_eq,hB4],λe he=>?_⟩;unfold srtL at he;obtain⟨i,hi,rfl⟩:=hAe.mp he;have:i<J.length:=hAv.mp (pm.mem_iff.mp hi);rw[hAa,hA2 this];exact hBn this
theorem qZ9(tx:Tx aA)(S:List Nat)(h3:3<=aA.length)(h12:aA.length<=12)(pm:(qIt (jF aA.length S).length (ltJ aA (jF aA.length S))).Perm (List.range (jF aA.length S).length)) :
  PaOk (told aA S)/\(∀e∈told aA S,∀r∈e.2,∀x∈r,x∈aA):=by
 obtain⟨jok,_,_⟩:=zCk S h3 h12;obtain⟨sl,sm⟩:=qR7 pm;have p1:=hCz (n:=aA.length);have key:∀e∈told aA S,∃e',e=toE aA e'/\Sh (2^aA.length-1) e'.2/\(e'.1 = "ring"\/e'.1 = "bundle"\/e'.1 = "whole"):=λe he=>by
  obtain⟨e',h,rfl⟩:=hAe.mp he;exact⟨e',rfl,jok.sh e' (sm e' h),jok.kd e' (sm e' h)⟩
 refine⟨⟨?_,λe he=>?_,λe he=>?_,λe he=>?_,λe he r hr=>?_⟩,λe he r hr x hx=>?_⟩
 ·unfold told;rw[hA1,sl];exact jok.ln
 ·obtain⟨e',rfl,_,k⟩:=key e he;exact k
 ·obtain⟨e',rfl,s,_⟩:=key e he;show 3<=(e'.2.map _).length;rw[hA1];exact s.l3
 ·obtain⟨e',rfl,s,_⟩:=key e he;show(e'.2.map _).length<=12;rw[hA1];exact hAw (s.pt.len (n:=aA.length) vG) h12
 ·obtain⟨e',rfl,s,_⟩:=key e he;obtain⟨g,hg,rfl⟩:=hAe.mp hr;have gl:g<2^aA.length:=by have:=qR3 hg;rw[s.pt.su]at this;omega
  obtain⟨n,rest,e1,_⟩:=qFm (aA:=aA) (s.pt.nz g hg) gl;refine⟨(λz=>by rw[e1]at z;cases z),?_,λx hx=>tx x (qHb hx)⟩;unfold rowM;have:=hCf (λi=>if g.testBit (aA.length-1-i)=true then aA[i]? else none) (List.range aA.length);rw[hB4]at this;omega
 ·obtain⟨e',rfl,s,_⟩:=key e he;obtain⟨g,hg,rfl⟩:=hAe.mp hr;exact qHb hx
def Dsc(l:List Nat):Prop:=l.Pairwise λa b=>b<=a
theorem qWd(n:Nat):Dsc (qB7 n):=by
 refine List.pairwise_iff_getElem.mpr λi j hi hj hij=>?_
 rw[qCh]at hi hj;have gi:=qHa hi;have gj:=qHa hj;rw[hA2 (by rw[qCh];exact hi)]at gi;rw[hA2 (by rw[qCh];exact hj)]at gj;rw[hAq gi,hAq gj];exact hBd (by decide) vG
theorem qN5(S:List Nat):∀(k:Nat) {gs:List Nat},Dsc gs->∀e∈paF S k gs,Dsc e.2
 |0,gs,h,e,he=>by cases he
 |k+1,gs,h,e,he=>by
  unfold paF at he;split at he
  ·rw[hA3.mp he];exact h
  ·rcases hAb.mp he with z|z
   ·exact qN5 S k (qDv _) e z
   ·exact qN5 S k (qDv _) e z
theorem qUi(w:Nat):∀(ms:List PE1) {gs:List Nat},Dsc gs->Dsc (foF w ms gs)
 |[],_,h=>h
 |m :: ms,gs,_=>qUi w ms (qDv _)
theorem zCj(w:Nat)(ps:List PE1)(h:∀e∈ps,Dsc e.2):∀e∈joF w ps,Dsc e.2:=by
 have:∀i,∀e∈joF w (ps.take i),Dsc e.2:=by
  intro i
  induction i with
  |zero=>intro e he;cases he
  |succ i ih =>
   cases hi:ps[i]? with
   |none =>
    have l:ps.length<=i:=List.getElem?_eq_none_iff.mp hi;rw[hA5 l]at ih;rw[hA5 vG];exact ih
   |some e0 =>
    rw[qAh hi,qHh];intro e he;unfold joS at he;rcases hAb.mp he with z|z
    ·exact ih e (qD7 z).1
    ·rw[hA3.mp z];exact qUi w _ (h e0 (hAc hi))
 have q:=this ps.length;rw[hA5 (hA9 _)]at q;exact q
theorem zEx(n:Nat)(S:List Nat):∀e∈jF n S,Dsc e.2:=zCj _ _ (qN5 S 10 (qWd n))
theorem qLr(rn:qEc aA)(g:Nat):qEc (rowM aA g):=by
 have:=qUj (f:=λi=>if g.testBit (aA.length-1-i)=true then aA[i]? else none) (g:=λi=>aA[i]?) (λi=>by
  by_cases c:g.testBit (aA.length-1-i)=true
  ·exact .inr (hEk c)
  ·exact .inl (hEj c)) (List.range aA.length)
 rw[qUk]at this;exact List.Pairwise.sublist this rn
theorem qW1(nd:aA.Nodup)(hg:g<2^aA.length)(hh:h<2^aA.length)(e:rowM aA g=rowM aA h):g=h:=by
 rw[<-qEl nd hg,<-qEl nd hh,e]
theorem qS3(rn:qEc aA)(hg:g<2^aA.length):aA.filter (λx=>!decide (x∈rowM aA g))=rowM aA ((2^aA.length-1)^^^g):=by
 have nd:=qD8 rn;refine qJ7 (List.Pairwise.sublist hCa rn) (qLr rn _) λx=>?_
 rw[hAd];show _↔x∈rowM aA ((2^aA.length-1)^^^g);rw[qEy (z:=(2^aA.length-1)^^^g)];have key:∀ {i:Nat},i<aA.length->((2^aA.length-1)^^^g).testBit (aA.length-1-i)=!g.testBit (aA.length-1-i):=λ{i} hi=>by
  rw[hAn,hC4,hEf vG];cases g.testBit (aA.length-1-i) <;> rfl
 constructor
 ·rintro⟨h1,h2⟩;obtain⟨i,hi,e⟩:=List.mem_iff_getElem.mp h1;have gx:aA[i]?=some x:=by rw[hA2 hi,e]
  refine⟨i,hi,gx,?_⟩;rw[key hi];cases q:g.testBit (aA.length-1-i) with
  |false=>rfl
  |true=>rw[hEf (qEy.mpr ⟨i,hi,gx,q⟩)]at h2;cases h2
 ·rintro⟨i,hi,gx,hb⟩;refine⟨hAc gx,?_⟩;rw[key hi]at hb;rw[hEg λz=>by
   obtain⟨j,hj,gy,hb'⟩:=qEy.mp z;rw[qTu nd gy gx]at hb';rw[hb']at hb;cases hb];rfl
theorem zF1(m x y:Nat):rv m x&&&rv m y=rv m (x&&&y):=hAh λj=>by
 rw[hAr,qB4,qB4,qB4,hAr];cases decide (j<m) <;> simp
theorem qTs(t:Nat->Bool):∀l:List Nat,odL t l=decide ((l.filter t).length % 2=1)
 |[]=>rfl
 |g :: l=>by
  show(t g ^^ odL t l)=_;rw[qTs t l];cases c:t g with
  |true =>
   rw[hCo c,hC9];by_cases d:(l.filter t).length % 2=1
   ·rw[hEf d,hEg vG];rfl
   ·rw[hEg d,hEf vG];rfl
  |false=>rw[hCp (by rw[c];decide),Bool.false_xor]
theorem zB5(m x:Nat):qZh m x=par m (rv m x):=by
 have h:=qLv (t:=x.testBit) (T:=rv m x) (gs:=List.range m) λi g hi=>by
  have l:=qAx hi;rw[hB4]at l ⊢;rw[hD3 l]at hi;cases hi;rw[qB4,hEf vG,hBw,show m-1-(m-1-i)=i by omega]
 rw[hB4]at h;rw[h,qTs];rfl
theorem qUt(xs:List Nat)(y:Nat):Spn (dsF xs) y↔Spn xs y:=by
 rw[<-qBj xs y];exact⟨Spn.mono λx hx=>.mem (qMh.mp hx),Spn.mono λx hx=>.mem (qMh.mpr hx)⟩
theorem zCo{S:List Nat}(r:RR S){gs:List Nat}(ok:∀g∈gs,Gok S g){L:List Nat}(hL:∀x∈L,Spn S x)(t:Nat):Spn (L.map (phF S gs)) t↔∃e,Spn L e/\phF S gs e=t:=by
 constructor
 ·intro h
  induction h with
  |zero=>exact⟨0,.zero,qH3 r ok⟩
  |add hm _ ih =>
   obtain⟨e,h1,h2⟩:=ih;obtain⟨s,hs,rfl⟩:=hAe.mp hm;exact⟨s^^^e,.add hs h1,by rw[qH4 r ok (hL s hs) (Spn.mono hL h1),h2]⟩
 ·rintro⟨e,h,rfl⟩
  induction h with
  |zero=>rw[qH3 r ok];exact .zero
  |add hm h ih =>
   rw[qH4 r ok (hL _ hm) (Spn.mono hL h)];exact .add (hAu hm) ih
theorem zEd{N:List Nat}{n:Nat}(lt:∀x∈N,x<2^n)(o:One N n):One (dsF (N.map (rv n))) n:=by
 have lr:∀x∈N.map (rv n),x<2^n:=λx hx=>by obtain⟨y,_,rfl⟩:=hAe.mp hx;exact qLq _ y
 refine⟨λi hi=>?_,λi hs=>?_⟩
 ·obtain⟨e,h1,h2⟩:=o.on (n-1-i) vG;refine⟨rv n e,(qUt _ _).mpr ((qCc lt (Spn.lt lt h1)).mpr h1),?_⟩;rw[qB4,hEf hi,hBw];exact h2
 ·have h:=(qUt _ _).mp hs;have li:i<n:=(Nat.pow_lt_pow_iff_right (by decide)).mp (Spn.lt lr h);have e:rv n (2^(n-1-i))=2^i:=by rw[qSz vG,show n-1-(n-1-i)=i by omega]
  rw[<-e]at h;exact o.no _ ((qCc lt (hCb (by decide) vG)).mp h)
noncomputable def ownF(N:List Nat)(aA:List Str)(R:List (List Str)):List Nat:=redL (N.map (qZk (sumF N) (R.map (qD2 aA))))
structure KiT(aA:List Str)(N S:List Nat)(es:List PaE):Prop where
 ap:∀e∈es,∀r∈e.2,e.1≠"whole"->∀o∈es,qE3 aA r∈o.2->o.1≠e.1
 kd:∀e∈es,qV1 (ownF N aA e.2) e.2.length=e.1
 rs:∀e∈es,Srt ((shF S (e.2.map (maskF aA))).map (rowM (e.2.map hdS)))
 rp:∀e∈es,((ownF N aA e.2).map (rowL (e.2.map hdS))).Perm ((shF S (e.2.map (maskF aA))).map (rowM (e.2.map hdS)))
section
variable{aA:List Str}{N gs:List Nat}
theorem qUg{g:Nat}(nz:g≠0)(lt:g<2^aA.length):aA[aA.length-1-g.log2]?=some (hdS (rowM aA g)):=by
 obtain⟨n,rest,e,h⟩:=qFm nz lt;rw[e];exact h
theorem qOh(rn:qEc aA)(pt:Pt (2^aA.length-1) gs)(d:Dsc gs):qEc ((gs.map (rowM aA)).map hdS):=by
 rw[hB6];refine hBp.mpr (hBx (λ{a b} ha hb h=>?_) (List.Pairwise.and d pt.di));obtain⟨le,z⟩:=h;have la:=qLt pt ha (qD3 aA.length);have lb:=qLt pt hb (qD3 aA.length);have na:=pt.nz a ha;have nb:=pt.nz b hb;have lg:b.log2<a.log2:=by
  have h1:b.log2<=a.log2:=by
   refine Nat.le_of_not_lt λq=>?_
   have:=(hDx na).mp q;have h2:2^b.log2<=b:=qV6 (hBo nb);omega
  refine Nat.lt_of_le_of_ne h1 λe=>?_
  have t1:=hBo na;have t2:=hBo nb;rw[e]at t2;exact qBp z t1 t2
 have l1:a.log2<aA.length:=(hDx na).mpr la;exact qJ6 rn (i:=aA.length-1-a.log2) (j:=aA.length-1-b.log2) vG (qUg na la) (qUg nb lb)
theorem qZe(rn:qEc aA)(lt:∀x∈N,x<2^aA.length){S:List Nat}(r:RR S)(spS:∀y,Spn S y↔Spn (N.map (rv aA.length)) y)(o:One S aA.length)(pt:Pt (2^aA.length-1) gs)(ok:∀g∈gs,Gok S g) :
  (∀x∈ownF N aA (gs.map (rowM aA)),x<2^gs.length)/\((ownF N aA (gs.map (rowM aA))).map (rv gs.length)).Perm (shF S gs):=by
 have nd:=qD8 rn;have gl:∀g∈gs,g<2^aA.length:=λg hg=>qLt pt hg (qD3 _)
 have eL:(gs.map (rowM aA)).map (qD2 aA)=gs.map (rv aA.length):=by
  rw[hB6];refine hBg λg hg=>?_
  obtain⟨a,b⟩:=qKo nd (qD8 (qLr rn g)) λn hn=>qHb hn
  rw[qEl nd (gl g hg)]at b;show qD2 aA (rowM aA g)=_;rw[<-qJ4 a,b]
 have each:∀x∈N,rv gs.length (qZk (sumF N) (gs.map (rv aA.length)) x)=phF S gs (rv aA.length x):=λx hx=>hAh λj=>by
  rw[qB4];unfold qZk;rw[qKh,hA1];by_cases c:j<gs.length
  ·have hi:gs[gs.length-1-j]?=some (gs[gs.length-1-j]' vG):=hA2 _;generalize hg:gs[gs.length-1-j]' vG=g at hi;have gm:=hAc hi;have h1:=qDp (S:=S) (e:=rv aA.length x) hi;rw[show gs.length-1-(gs.length-1-j)=j by omega]at h1;rw[h1,hEf c,hEf vG,hBw,hBw];have gd:(gs.map (rv aA.length)).getD (gs.length-1-j) 0=rv aA.length g:=by
    rw[hAa,hAl,hi];rfl
   rw[gd];have he:Spn S (rv aA.length x):=(spS _).mpr (.mem (hAu hx));have key:x&&&rv aA.length g∈sumF N↔crB S (rv aA.length x) g=false:=by
    rw[qZx r o (pt.nz g gm) he,spS,qB9,<-qCc lt (hDa Nat.and_le_left (lt x hx)),<-zF1,qJ4 (gl g gm)]
   cases q:crB S (rv aA.length x) g with
   |false=>rw[hEf (key.mpr q)];rfl
   |true=>rw[hEg λz=>by rw[key.mp z]at q;cases q];rfl
  ·rw[hEg c,Bool.false_and,qCo (qE2 _ gs _) vG]
 have lm:∀y∈N.map (qZk (sumF N) (gs.map (rv aA.length))),y<2^gs.length:=λy hy=>by
  obtain⟨x,_,rfl⟩:=hAe.mp hy;have:=qZc (gs.map (rv aA.length)).length λk=>!decide (x&&&(gs.map (rv aA.length)).getD k 0∈sumF N)
  rw[hA1]at this;unfold qZk;rw[hA1];exact this
 obtain⟨gm,e⟩:=qDk _ lm;unfold ownF;rw[eL];refine⟨λx hx=>(gm x hx).1,?_⟩;rw[e];have e2:(N.map (qZk (sumF N) (gs.map (rv aA.length)))).map (rv gs.length)=(N.map (rv aA.length)).map (phF S gs):=by
  rw[hB6,hB6];exact hBg each
 rw[e2];have sp:∀t,Spn (red ((N.map (rv aA.length)).map (phF S gs))) t↔Spn (shF S gs) t:=λt=>by
  rw[qBj,zCo r ok (λx hx=>(spS x).mpr (.mem hx)),qDc r ok];exact exists_congr λy=>and_congr_left λ_=>(spS y).symm
 exact(hC7 (qB1 _).nd (qLj _ gs).nd).mpr λz=>⟨qFa (qB1 _) (qLj _ gs) sp z,qFa (qLj _ gs) (qB1 _) (λy=>(sp y).symm) z⟩
theorem zAu(m:Nat):rv m (2^m-1)=2^m-1:=hAh λj=>by
 rw[qB4,hC4,hC4];by_cases c:j<m
 ·rw[hEf c,hEf vG];rfl
 ·rw[hEg c];rfl
theorem zEo{S own:List Nat}{n:Nat}(r:RR S)(o:One S n){e:PE1}(h:Sh (2^n-1) e.2)(ok:∀g∈e.2,Gok S g)(ki:KiOk S e)(kd:e.1 = "ring"\/e.1 = "bundle"\/e.1 = "whole")(lo:∀x∈own,x<2^e.2.length)(pm:(own.map (rv e.2.length)).Perm (shF S e.2)):qV1 own e.2.length=e.1:=by
 have l3:=h.l3;have ll:=pm.length_eq;rw[hA1]at ll;unfold qV1;rcases kd with z|z|z
 ·have h1:=zEn r o h ok (ki.r z);rw[h1]at pm;have h2:=List.perm_singleton.mp pm;obtain⟨x,ex⟩:=hDk.mp (show own.length=1 by rw[ll,h1];rfl);rw[ex,hBm,List.map_nil,List.cons.injEq]at h2;have:x=2^e.2.length-1:=by
   have lx:=lo x (by rw[ex];exact hA3.mpr rfl);rw[<-qJ4 lx,h2.1,zAu]
  rw[hEk (by rw[ex,this]),z]
 ·have kb:=ki.b z;have h1:=zEw r h.pt.nd l3 ok kb;rw[hEj (λq=>by rw[q]at ll;simp at ll;omega),hEj (λq=>?_),hEk vG,z];obtain⟨x,hx,hb⟩:=hEc.mp q;rw[zB5]at hb;obtain⟨t,ht,et⟩:=(qDc r ok _).mp (.mem (pm.mem_iff.mp (hAu (f:=rv e.2.length) hx)));rw[<-et,qTf,kb.ev t ht]at hb;cases hb
 ·obtain⟨w1,w2⟩:=ki.w z;rw[hEj (λq=>by rw[q]at ll;exact w1 ll.symm)];split
  ·exact z.symm
  ·rw[hEj vG,z]
theorem zGf(rn:qEc aA)(lt:∀x∈N,x<2^aA.length)(on:One N aA.length)(h3:3<=aA.length)(h12:aA.length<=12)(pm:(qIt (jF aA.length (dsF (N.map (rv aA.length)))).length (ltJ aA (jF aA.length (dsF (N.map (rv aA.length)))))).Perm (List.range (jF aA.length (dsF (N.map (rv aA.length)))).length)):KiT aA N (dsF (N.map (rv aA.length))) (told aA (dsF (N.map (rv aA.length)))):=by
 have nd:=qD8 rn;have o:=zEd lt on;have r:=qRm (N.map (rv aA.length));have spS:=qUt (N.map (rv aA.length));have ls:∀s∈dsF (N.map (rv aA.length)),s<2^aA.length:=λs hs=>qS7 (λx hx=>by obtain⟨y,_,rfl⟩:=hAe.mp hx;exact qLq _ y) s (qMh.mp hs)
 revert o r spS ls pm;generalize dsF (N.map (rv aA.length))=S;intro pm o r spS ls;have ni:=zGh r ls o h3 h12;obtain⟨jok,_,_⟩:=zCk S h3 h12;have dsc:=zEx aA.length S;obtain⟨_,sm⟩:=qR7 (aA:=aA) pm;have tm:∀e∈told aA S,∃e'∈jF aA.length S,e=toE aA e':=λe he=>by
  unfold told at he;obtain⟨e',h,rfl⟩:=hAe.mp he;exact⟨e',sm e' h,rfl⟩
 have mem:∀ {e:PE1},e∈jF aA.length S->e∈jF aA.length S++[]:=λ{e} h=>hAg _ h
 have gl:∀ {e:PE1},e∈jF aA.length S->∀g∈e.2,g<2^aA.length:=λ{e} he g hg=>qLt (jok.sh e he).pt hg (qD3 _)
 have eF:∀ {e:PE1},e∈jF aA.length S->(e.2.map (rowM aA)).map (maskF aA)=e.2:=λ{e} he=>by
  rw[hB6];refine(hBg λg hg=>?_).trans (List.map_id _);exact qEl nd (gl he g hg)
 refine⟨λe he rr hr nw o' ho hm hk=>?_,λe he=>?_,λe he=>?_,λe he=>?_⟩
 ·obtain⟨e1,h1,rfl⟩:=tm e he;obtain⟨e2,h2,rfl⟩:=tm o' ho;obtain⟨g,hg,rfl⟩:=hAe.mp hr;unfold qE3 at hm;rw[qS3 rn (gl h1 g hg)]at hm;obtain⟨h,hh,eq⟩:=hAe.mp hm;have:=qW1 nd (gl h2 h hh) (qOw (gl h1 g hg)) eq;rw[this]at hh;have hk:e2.1=e1.1:=hk;have q:=qXm (w:=2^aA.length-1) (a:=e1) (b:=e2) hk.symm (λz=>nw (hk.symm.trans z)) hg hh;rw[ni.no e1 h1 e2 h2]at q;cases q
 ·obtain⟨e1,h1,rfl⟩:=tm e he;have okg:=ni.ok e1 (mem h1);obtain⟨a,b⟩:=qZe rn lt r spS o (jok.sh e1 h1).pt okg;show qV1 (ownF N aA (e1.2.map (rowM aA))) (e1.2.map (rowM aA)).length=e1.1;rw[hA1];exact zEo r o (jok.sh e1 h1) okg (ni.ki e1 (mem h1)) (jok.kd e1 h1) a b
 ·obtain⟨e1,h1,rfl⟩:=tm e he;show Srt ((shF _ ((e1.2.map (rowM aA)).map (maskF aA))).map (rowM ((e1.2.map (rowM aA)).map hdS)));rw[eF h1];have fr:=qOh rn (jok.sh e1 h1).pt (dsc e1 h1);refine qWz fr (qLj _ _) (λz hz=>?_) (qDv _);rw[hA1,hA1];exact qWf _ _ z hz
 ·obtain⟨e1,h1,rfl⟩:=tm e he;show((ownF N aA (e1.2.map (rowM aA))).map (rowL ((e1.2.map (rowM aA)).map hdS))).Perm ((shF _ ((e1.2.map (rowM aA)).map (maskF aA))).map (rowM ((e1.2.map (rowM aA)).map hdS)));rw[eF h1];obtain⟨a,b⟩:=qZe rn lt r spS o (jok.sh e1 h1).pt (ni.ok e1 (mem h1));have lf:((e1.2.map (rowM aA)).map hdS).length=e1.2.length:=by rw[hA1,hA1]
  have e3:(ownF N aA (e1.2.map (rowM aA))).map (rowL ((e1.2.map (rowM aA)).map hdS))=((ownF N aA (e1.2.map (rowM aA))).map (rv e1.2.length)).map (rowM ((e1.2.map (rowM aA)).map hdS)):=by
   revert lf;generalize (e1.2.map (rowM aA)).map hdS=fs;intro lf;rw[hB6];refine hBg λx _=>?_
   rw[<-qNu,lf];rfl
  rw[e3];exact b.map _
end
theorem zD0{k n:Nat}{A:Around}(hr:Room k A)(h:n<=100):A.units+n<cLine:=by have:=hr.un;omega
def Kq(H H':Hp):Prop:=∀b o,H b=some o->(∀ps,o≠.tbl ps)->H' b=some o
theorem zHn{P:Addr}{H H':Hp}{lp:Pos}{qq:Str}(t:TabW H P lp qq)(e:ExtB P H H'):Kq H H':=λb o h n=>by
 obtain⟨ps,hP⟩:=My.TabW.tb t;exact e b o (λz=>by rw[z,hP]at h;exact n ps (hAq h).symm) h
theorem Kq.ls{H H':Hp}{l:Addr}{xs:List Str}(k:Kq H H')(h:LsS H l xs):LsS H' l xs:=k _ _ h (λ_ z=>by cases z)
theorem Kq.ln{H H':Hp}{l:Addr}{xs:List Nat}(k:Kq H H')(h:LsN H l xs):LsN H' l xs:=k _ _ h (λ_ z=>by cases z)
theorem Kq.tab{H H':Hp}{T:Addr}{aA:List Str}{rs:List (List Str)}(k:Kq H H')(h:qF9 H T aA rs):qF9 H' T aA rs:=by
 obtain⟨a,b,h1,h2,bs,h3,h4⟩:=h;exact⟨a,b,k _ _ h1 (λ_ z=>by cases z),k.ls h2,bs,k _ _ h3 (λ_ z=>by cases z),Paired.mapP h4 λa r z=>k.ls z⟩
theorem qY8{H:Hp}{aA:List Str}:∀ {Z:List Zt} {X:List PE1},Paired (PrZ H aA) Z X->Paired (PaT H) (Z.map (·.1)) (X.map (toE aA))
 |_,_,.nil=>.nil
 |_,_,@Paired.cons _ _ _ z e Z X h t=>.cons ⟨z.2.1,h.1,z.2.2,h.2.1,h.2.2⟩ (qY8 t)
theorem zDd(Z:List Zt):(Z.map λz=>V.ref z.1)=(Z.map (·.1)).map V.ref:=by rw[hB6];rfl
def qWb(K:PySem.W.Frag)(Pp Pb:Addr):Sp:=λvs H Q _=>∃(a:Addr) (ns:List Int),vs=[.ref a]/\SqL K H a (ns.map V.int)/\ns.length<=63/\H Pp=some (.tbl #[])/\H Pb=some (.tbl #[])/\Pp≠Pb/\∀H',Q (.bl true) H'
section
variable{P:Program}{w:World}{K:PySem.W.Frag}{mg:Str->Option Value}{base:Heap}{f f1 f2 f3 f4 f5 f6 f7 f8 f9 f10 f11 Pp Pb:Addr}{fd fd1 fd2 fd3 fd4 fd5 fd6 fd7 fd8 fd9 fd10 fd11:FuncData}
noncomputable abbrev laN:List Str:=["_law_script","_law_names_here","_law_base","_law_sums_here","_law_handed","_law_found","_law_kind_here","_law_share","_law_own_here","_law_firsts","_law_due","_law_asked","_law_turn","_law_told"]
theorem qFk:FnScope laN ["_law_script"] (qAc qMz):=fsk
theorem zEf(F:Fun K "law" "law" qMz f fd)
  (G1:v9 6 f1 fd1 ["_law_script","_law_at"] (qSc K Pb) "_law_tree")
  (G2:v9 16 f2 fd2 ["table"] (qR8 Pp) "parts")
  (G3:v9 1 f3 fd3 ["_law_names_here","_law_number"] qSe "_law_row")
  (G4:v9 2 f4 fd4 ["_law_found"] qYv "_law_are_parts")
  (G5:v9 1 f5 fd5 ["_law_names_here","_law_found"] qYw "_law_apart")
  (G6:v9 1 f6 fd6 ["_law_rows"] qNb "_law_flat")
  (G7:v9 2 f7 fd7 ["_law_base","_law_sums_here","_law_groups"] qYn "_law_own")
  (G8:v9 1 f8 fd8 ["_law_names_here","_law_row_here"] qSf "_law_mask")
  (G9:v9 5 f9 fd9 ["table","share"] qYj "part_table")
  (G10:v9 1 f10 fd10 ["_law_base"] qSd "_law_sums")
  (G11:v9 1 f11 fd11 ["_law_own_here","_law_many"] qYp "_law_kind")
  (ml:mg "len"=none) (mL:mg "list"=none) (mr:mg "range"=none) (mal:mg "all"=none) (mso:mg "sorted"=none):v8 17 f fd ["_law_script"] (qWb K Pp Pb):=by
 refine F.okA qFk λcdv A outer s H vs Q E hr h=>?_
 obtain⟨a,ns,rfl,hS,hl,hPp,hPb,ne,q⟩:=h;have hr1:=hr.mono (j:=1) (by decide);have hr2:=hr.mono (j:=2) (by decide);have hr5:=hr.mono (j:=5) (by decide);have hr6:=hr.mono (j:=6) (by decide);have u64:=zD0 (n:=64) hr (by decide);have two:2<=sizeLine:=by decide
 refine⟨_,(qAa (qGw (qAw G1 hr6 rfl .nil qAv (qAd (pv 0) (pa1 qAb))) (qB5 rfl (qAs (v7 1 qFk) (qAs (v5 2 qFk) qBl)))) (qAa (qBo (qAn qFs (qAj qAl rfl ml hAy (pa1 (pv 1))) qAb (qAu _)) (qAe (qAt qG3)) qA1) (qAa (v4 3 qFk (qAw G10 hr1 rfl .nil qAv (pa1 (pv 2)))) (qAa (v4 4 qFk (qA6 (qAd (qBy qDh rfl mL qCf (pa1 (pv 1))) (pa1 (qA8 (N:=laN) (sc:=qAc qMz) (N':=["_law_step","_law_names_here"]) (sub:=[none,some 1]) (qAp (pv 2)) (λC s H fp=>⟨qAz,(qAw G3 hr1 rfl .nil qAv (qAd (pv 1) (pa1 (pv 0))))⟩)))))) (qAa (v4 5 qFk (qAw G2 hr rfl .nil qAv (pa1 (pv 4)))) (qAa (qBo (PW.pt (qN0 (qGv (qD9 (qAw G4 hr2 rfl .nil qAv (pa1 (pv 5))))) (qLs (qGv (qD9 (qAw G5 hr1 rfl .nil qAv (qAd (pv 1) (pa1 (pv 5))))))))) (qAe (qAt qG3)) qA1) (qAa (qBa PassesOwn.never rfl (qAp (pv 5)) (qB5 rfl (qAs (v5 6 qFk) (qAs (v5 7 qFk) qBl))) (qAa (qBo (qGv (qD9 (qAj (qF6 rfl) rfl mal qF8 (pa1 (qA8 (N:=laN) (sc:=qAc qMz) (N':=["_law_name","_law_names_here"]) (sub:=[none,some 1]) (qAp (qAw G6 hr1 rfl .nil qAv (pa1 (pv 7)))) (λC s H fp=>⟨qAz,qDl (show OpR _ (compareOp .In) (rIn K false) from qDs) (pv 0) (pv 1) (by with_unfolding_all rfl)⟩)))))) (qAe (qAt qG3)) qA1) (qAa (v4 8 qFk (qAw G7 hr2 rfl .nil qAv (qAd (pv 2) (qAd (pv 3) (pa1 (qA8 (N:=laN) (sc:=qAc qMz) (N':=["_law_row_here","_law_names_here"]) (sub:=[none,some 1]) (qAp (pv 7)) (λC s H fp=>⟨qAz,(qAw G8 hr1 rfl .nil qAv (qAd (pv 1) (pa1 (pv 0))))⟩))))))) (qAa (v6 9 qFk (qA8 (N:=laN) (sc:=qAc qMz) (N':=["_law_row_here"]) (sub:=[none]) (qAp (pv 7)) (λC s H fp=>⟨qAz,qBe (show IxR _ (zFl K) from qB0) (pv 0) qAb (λ_ _=>rfl)⟩))) (qAa (v4 10 qFk (qA6 (qAd (pv 9) (pa1 (qAj (qF3 (zD0 (n:=2) hr (by decide))) rfl mso qBs (pa1 (qA8 (N:=laN) (sc:=qAc qMz) (N':=["_law_row_here","_law_firsts"]) (sub:=[none,some 9]) (qAp (pv 8)) (λC s H fp=>⟨qAz,(qAw G3 hr1 rfl .nil qAv (qAd (pv 1) (pa1 (pv 0))))⟩)))))))) (qAa (qDe (i:=11) (N:=laN) (sc:=qAc qMz) (N':=["_law_row_here"]) (sub:=[none]) (qAp (pv 7)) (λC s H fp=>⟨qAz,qBy (show qCm _ _ (zHi K) from qDh) rfl mL qCf (pa1 (pv 0))⟩) qFk.nd rfl vE) (qAe (qBa PassesOwn.never rfl (qBd rfl mr (pa1 qAb)) (v5 12 qFk) (qAa (v4 13 qFk (qAw G9 hr5 rfl .nil qAv (qAd (pv 4) (pa1 (pv 11))))) (qAa (qBo (PW.pt (qN0 (qAn (qL0 u64) (pv 13) (pv 10) (qAu _)) (qN0 (qAn (qL0 u64) (pv 11) (pv 7) (qAu _)) (qLs (qAn qFr (pv 6) (qAw G11 hr1 rfl .nil qAv (qAd (pv 8) (pa1 (qAj qAl rfl ml hAy (pa1 (pv 7)))))) (qAu _)))))) (qAe (qAt qG3)) qA1) (qAa (qCp (zD9 hB1 PySem.F.slot_list_clear PySem.F.type_list_clear qXn (qBe qBq (pv 13) qAb (λ_ _=>rfl)))) (qAe (qCp (qEb hB1 hBk hBl qBz (qBe qBq (pv 13) qAb (λ_ _=>rfl)) (pa1 qCv))))))))))))))) (qAe (qAt (qDl (qZg u64) (pv 4) (qA6 (qAd (pv 1) (pa1 (qA8 (N:=laN) (sc:=qAc qMz) (N':=["_law_step","_law_names_here"]) (sub:=[none,some 1]) (qAp (pv 2)) (λC s H fp=>⟨qAz,(qAw G3 hr1 rfl .nil qAv (qAd (pv 1) (pa1 (pv 0))))⟩))))) (qAu _))))))))))),?_⟩;refine⟨_,rfl,a,ns,rfl,hS,.inl hPb,λT0 na ba aA N H1 eB1 hT0 hna hba rn tx n12 lN lt lr one _=>?_⟩;refine⟨T0,_,rfl,SqT.of hT0,rfl,_,_,rfl,_,_,rfl,rfl,?_⟩;have tw1:TabW H1 Pp lpP qL:=.inl (eB1 Pp _ ne hPp);have nd:aA.Nodup:=qD8 rn;clear eB1 hPp hPb hT0 hS;refine⟨_,rfl,na,_,rfl,.inl (SqL.of hna),_,_,rfl,rfl,_,rfl,?_⟩;refine qBw (λc=>q _) (λc=>?_);have n3:3<=aA.length:=by
  have c':¬(((aA.map V.str).length:Nat):Int)<3:=λz=>c (hEf z)
  rw[hA1]at c';omega
 have on:=one n3;refine⟨_,rfl,ba,N,rfl,hba,lN,λsa H2 e2 sa0 hsa=>?_⟩;have hna2:=e2 _ _ hna;have hba2:=e2 _ _ hba;have tw2:=My.TabW.extE tw1 e2;clear hna hba tw1 e2 sa0 c one;refine⟨_,rfl,na,_,rfl,.inl (SqL.of hna2),λl1 hl1=>?_⟩;have X1:=Ext.new hl1 (.lst (aA.map V.str));refine⟨_,rfl,ba,rfl,⟨_,SqL.of (X1 _ _ hba2)⟩,?_⟩;refine qAq (xs:=N.map iV) (λj ys H'=>Ext (upd H2 l1 (.lst (aA.map V.str))) H'/\∃as:List Addr,ys=as.map V.ref/\Paired (LsS H') as ((N.take j).map (rowL aA))) ⟨Ext.refl _,[],rfl,.nil⟩ (λj ys H' _ h=>SqL.of (h.1 _ _ (X1 _ _ hba2))) ?_ ?_
 ·rintro j v ys H' hx ⟨e2,as,rfl,pr⟩;obtain⟨x,rfl,hx'⟩:=qB2 hx;have hj:=qAx hx';have la:=pr.length;rw[hA1,hAm]at la;refine⟨sls,iteT (B:=False) ⟨_,rfl,_,rfl,na,aA,x,rfl,(X1.trans e2) _ _ hna2,n12,λr3 H3 e3 r30 h3=>⟨?_,nxt (qAx hx) ⟨e2.trans e3,as++[r3],by rw[hA4];rfl,?_⟩⟩⟩⟩
  ·rw[hA1];exact qAf vG
  ·rw[qAh hx',hA4];exact Paired.snoc (Paired.mapP pr λa t z=>e3 _ _ z) h3
 rintro ys H' ⟨e2,as,rfl,pr⟩ rb hrb;rw[hA1,hA5 (hA9 _)]at pr;have Xrb:=Ext.new hrb (.lst (as.map V.ref));refine⟨two,λT hT=>?_⟩;have XT:=Ext.new hT (.tup [V.ref l1,V.ref rb]);have E4:=X1.trans (e2.trans (Xrb.trans XT));have ti:qF9 (upd (upd H' rb (.lst (as.map V.ref))) T (.tup [V.ref l1,V.ref rb])) T aA (N.map (rowL aA)):=⟨l1,rb,upd_same,(e2.trans (Xrb.trans XT)) _ _ upd_same,as,XT _ _ upd_same,Paired.mapP pr λa t z=>(Xrb.trans XT) _ _ z⟩;have tw4:=My.TabW.extE tw2 E4;have hna4:=E4 _ _ hna2;have hba4:=E4 _ _ hba2;have hsa4:=E4 _ _ hsa;revert ti tw4 hna4 hba4 hsa4;clear E4 XT Xrb X1;generalize upd (upd H' rb (.lst (as.map V.ref))) T (.tup [V.ref l1,V.ref rb])=H4;intro ti tw4 hna4 hba4 hsa4;clear pr e2 hrb hT hl1 hna2 hba2 hsa tw2;refine⟨_,rfl,T,aA,N.map (rowL aA),rfl,ti,by rw[hA1];omega,n3,n12,tw4,λL Z H5 eB L0 hL pz nz Ln tw5=>?_⟩;have k5:=zHn tw4 eB;rw[qJf nd]at pz;have pp:=qY8 pz;rw[zDd]at hL;have pm:=(zAd s (qXq (zDb aA (jF aA.length (dsF (N.map (rv aA.length)))))) (jF aA.length (dsF (N.map (rv aA.length)))).length).1;obtain⟨ok,sub⟩:=qZ9 tx (dsF (N.map (rv aA.length))) n3 n12 pm;have kt:=zGf rn lt on n3 n12 pm;have hes:(srtL aA (jF aA.length (dsF (N.map (rv aA.length))))).map (toE aA)=told aA (dsF (N.map (rv aA.length))):=rfl;rw[hes]at pp;have ti5:=k5.tab ti;have hna5:=k5.ls hna4;have hba5:=k5.ln hba4;have hsa5:=k5.ln hsa4;clear pz nz Ln tw5 k5 eB hes pm L0 ti tw4 hna4 hba4 hsa4;generalize told aA (dsF (N.map (rv aA.length)))=es at pp ok sub kt;obtain⟨S,hS⟩:∃S,S=dsF (N.map (rv aA.length)):=⟨_,rfl⟩;rw[<-hS]at kt;generalize Z.map (·.1)=ts at hL pp;have okn:SOk aA:=λx hx=>(tx x hx).1.sm.ok
 have lts:=pp.length;have l10:=ok.ln;refine⟨_,rfl,L,ts,es,rfl,hL,pp,ok,λH6 e6=>⟨true,rfl,qG5 ?_⟩⟩;refine⟨_,rfl,_,rfl,na,L,aA,ts,es,rfl,e6 _ _ hna5,n12,okn,e6 _ _ hL,Paired.mapP pp λa t z=>z.ext e6,ok,kt.ap,λH7 e7=>⟨true,rfl,qG5 ?_⟩⟩;have E7:=e6.trans e7;have pp7:=Paired.mapP pp λa t z=>PaT.ext z E7
 have hL7:=E7 _ _ hL;have ti7:=ti5.ext E7;have hna7:=E7 _ _ hna5;have hba7:=E7 _ _ hba5;have hsa7:=E7 _ _ hsa5;clear pp hL ti5 hna5 hba5 hsa5 E7 e6 e7;have okR:∀r∈N.map (rowL aA),SOk r:=λr hr' x hx=>by
  obtain⟨y,_,rfl⟩:=hAe.mp hr';obtain⟨i,_,h,_⟩:=qBf.mp hx;exact okn x (hAc h)
 refine⟨_,rfl,L,rfl,⟨_,SqL.of hL7⟩,?_⟩;refine qBg (xs:=ts.map V.ref) (λi σ H'=>∃x6 x7 x8 x9 x10 x11 x12 x13:Option V,σ=[some (.ref a),some (.ref na),some (.ref ba),some (.ref sa),some (.ref T),some (.ref L),x6,x7,x8,x9,x10,x11,x12,x13]/\Ext H7 H') ⟨_,_,_,_,_,_,_,_,rfl,Ext.refl _⟩ (λi σ H' _ h=>by
  obtain⟨_,_,_,_,_,_,_,_,_,e⟩:=h;exact SqL.of (e _ _ hL7)) ?_ ?_
 ·rintro i v σ H8 hx ⟨x6,x7,x8,x9,x10,x11,x12,x13,rfl,e8⟩;obtain⟨t,rfl,ht⟩:=qA7 hx;obtain⟨e,he,G,h1,bs,hb1,hb2⟩:=qAr (Paired.mapP pp7 λa t z=>PaT.ext z e8) ht;have em:=hAc he;have l12:=ok.l12 e em;have l3:=ok.l3 e em;have lbs:bs.length=e.2.length:=hb2.length;have rwk:=ok.rw e em;have oke:∀r∈e.2,SOk r:=λr hr x hx=>((rwk r hr).2.2 x hx).1.sm.ok
  refine⟨t,_,rfl,SqT.of h1,rfl,_,_,rfl,_,_,rfl,rfl,?_⟩;have lfl:e.2.flatten.length<=144:=by
   have:∀R:List (List Str),(∀r∈R,r.length<=12)->R.flatten.length<=12*R.length:=by
    intro R
    induction R with
    |nil=>intro _;exact hA9 _
    |cons r R ih =>
     intro h;rw[List.flatten_cons,hAf,hC9];have h1:=h r hA8;have h2:=ih λx hx=>h x (hA6 _ hx)
     omega
   have:=this e.2 λr hr=>(rwk r hr).2.1
   omega
  refine⟨_,rfl,G,bs,_,rfl,hb1,qFc hb2,by rw[qIl,hA1];omega,λfl H9 e9 fl0 hfl=>?_⟩;rw[qIl]at hfl;refine⟨fl,rfl,⟨_,SqL.of hfl⟩,?_⟩;have hna9:=(e8.trans e9) _ _ hna7;refine qAq (xs:=e.2.flatten.map V.str) (λj ys H'=>H9=H'/\ys=(List.replicate j true).map V.bl) ⟨rfl,rfl⟩ (λj ys H' _ h=>by rw[<-h.1];exact SqL.of hfl) ?_ ?_
  ·rintro j v ys H' hx2 ⟨rfl,rfl⟩;obtain⟨x,rfl,hx'⟩:=qT2 hx2;have hj:=qAx hx';obtain⟨r,hr,hxr⟩:=List.mem_flatten.mp (hAc hx');refine⟨sls,iteT (B:=False) ⟨_,rfl,_,rfl,na,_,rfl,.inl (SqL.of hna9),rfl,qF0 _,?_,nxt (qAx hx2) ⟨rfl,?_⟩⟩⟩
   ·rw[hA1,hDo];exact qAf vG
   ·rw[hEj (by decide),qIi,hEf (sub e em r hr x hxr),qHc]
  rintro ys H' ⟨rfl,rfl⟩ al hal;rw[hA1];have X9:=Ext.new hal (.lst ((List.replicate e.2.flatten.length true).map V.bl));refine⟨al,List.replicate e.2.flatten.length true,rfl,SqL.of upd_same,_,rfl,?_⟩;rw[qJ8];refine qG5 ?_;have E9:=e9.trans X9;have e10:=e8.trans E9;have hG:=E9 _ _ hb1;have hB:=Paired.mapP hb2 λa t z=>E9 _ _ z
  revert e10 hG hB;clear hna9 hfl hb1 hb2 h1;generalize upd H9 al (.lst ((List.replicate e.2.flatten.length true).map V.bl))=H10;clear X9 E9 e9 hal;intro e10 hG hB;refine⟨_,rfl,_,rfl,_,rfl,G,rfl,⟨_,SqL.of hG⟩,?_⟩;refine qAq (xs:=bs.map V.ref) (λj ys H'=>Ext H10 H'/\ys=((e.2.take j).map (qD2 aA)).map iV) ⟨Ext.refl _,rfl⟩ (λj ys H' _ h=>SqL.of (h.1 _ _ hG)) ?_ ?_
  ·rintro j v ys H' hx2 ⟨e2,rfl⟩;obtain⟨b,rfl,hb⟩:=qA7 hx2;obtain⟨r,hr',hbr⟩:=qAr hB hb;have hj:=qAx hr';have rm:=hAc hr';refine⟨sls,iteT (B:=False) ⟨_,rfl,_,rfl,na,b,aA,r,rfl,(e10.trans e2) _ _ hna7,e2 _ _ hbr,λn hn=>sub e em r rm n hn,n12,(rwk r rm).2.1,λH11 e11=>⟨?_,nxt (qAx hx2) ⟨e2.trans e11,?_⟩⟩⟩⟩
   ·rw[hA1,hA1,hAm];exact qAf vG
   ·rw[qAh hr',hA4,hA4];rfl
  rintro ys H11 ⟨e11,rfl⟩ gl hgl;rw[hA1,lbs,hA5 (hA9 _)];have X11:=Ext.new hgl (.lst ((e.2.map (qD2 aA)).map iV));have E11:=e11.trans X11;refine⟨ba,sa,gl,N,sumF N,e.2.map (qD2 aA),rfl,(e10.trans E11) _ _ hba7,(e10.trans E11) _ _ hsa7,upd_same,lN,by rw[hA1];exact l12,λow H12 e12 ow0 how=>?_⟩;have how:LsN H12 ow (ownF N aA e.2):=how;have lown:(ownF N aA e.2).length<=12:=hAw (qEj _) (by rw[hA1];exact lN);have e13:=e10.trans (E11.trans e12);have hG:=(E11.trans e12) _ _ hG;have hB:=Paired.mapP hB λa t z=>(E11.trans e12) _ _ z
  clear E11 X11 e11 e12 ow0 hgl e10;refine⟨_,rfl,G,rfl,⟨_,SqL.of hG⟩,?_⟩;refine qAq (xs:=bs.map V.ref) (λj ys H'=>H12=H'/\ys=((e.2.take j).map hdS).map V.str) ⟨rfl,rfl⟩ (λj ys H' _ h=>by rw[<-h.1];exact SqL.of hG) ?_ ?_
  ·rintro j v ys H' hx2 ⟨rfl,rfl⟩;obtain⟨b,rfl,hb⟩:=qA7 hx2;obtain⟨r,hr',hbr⟩:=qAr hB hb;have hj:=qAx hr';obtain⟨x,r',rfl⟩:∃x r',r=x :: r':=by
    cases r with
    |nil=>exact absurd rfl (rwk _ (hAc hr')).1
    |cons x r'=>exact⟨x,r',rfl⟩
   refine⟨sls,iteT (B:=False) ⟨_,rfl,b,_,_,_,rfl,rfl,SqL.of hbr,(by exact qA0 (j:=0) rfl),?_,nxt (qAx hx2) ⟨rfl,?_⟩⟩⟩
   ·rw[hA1,hA1,hAm];exact qAf vG
   ·rw[qAh hr',hA4,hA4];rfl
  rintro ys H' ⟨rfl,rfl⟩ fi hfi;rw[hA1,lbs,hA5 (hA9 _)];have X13:=Ext.new hfi (.lst ((e.2.map hdS).map V.str));have hf13:LsS (upd H12 fi (.lst ((e.2.map hdS).map V.str))) fi (e.2.map hdS):=upd_same;have e13:=e13.trans X13;have hG:=X13 _ _ hG;have hB:=Paired.mapP hB λa t z=>X13 _ _ z
  have how:=X13 _ _ how;revert hf13 e13 hG hB how;clear X13;generalize upd H12 fi (.lst ((e.2.map hdS).map V.str))=H13;intro hf13 e13 hG hB how;have lfi:(e.2.map hdS).length<=12:=by rw[hA1];exact l12
  have okf:SOk (e.2.map hdS):=λx hx=>by
   obtain⟨r,hr,rfl⟩:=hAe.mp hx;cases r with
   |nil=>exact absurd rfl (rwk _ hr).1
   |cons y r'=>exact oke _ hr y hA8
  refine⟨_,rfl,_,rfl,ow,rfl,⟨_,SqL.of how⟩,?_⟩;refine qAq (xs:=(ownF N aA e.2).map iV) (λj ys H'=>Ext H13 H'/\∃as:List Addr,ys=as.map V.ref/\Paired (LsS H') as (((ownF N aA e.2).take j).map (rowL (e.2.map hdS)))) ⟨Ext.refl _,[],rfl,.nil⟩ (λj ys H' _ h=>SqL.of (h.1 _ _ how)) ?_ ?_
  ·rintro j v ys H' hx2 ⟨e2,as,rfl,pr⟩;obtain⟨x,rfl,hx'⟩:=qB2 hx2;have hj:=qAx hx';have la:=pr.length;rw[hA1,hAm]at la;refine⟨sls,iteT (B:=False) ⟨_,rfl,_,rfl,fi,e.2.map hdS,x,rfl,e2 _ _ hf13,lfi,λr3 H3 e3 r30 h3=>⟨?_,nxt (qAx hx2) ⟨e2.trans e3,as++[r3],by rw[hA4];rfl,?_⟩⟩⟩⟩
   ·rw[hA1];exact qAf vG
   ·rw[qAh hx',hA4];exact Paired.snoc (Paired.mapP pr λa t z=>e3 _ _ z) h3
  rintro ys H14 ⟨e14,as2,rfl,pr⟩ rd hrd;rw[hA1,hA5 (hA9 _)]at pr;have la:as2.length=((ownF N aA e.2).map (rowL (e.2.map hdS))).length:=pr.length;have Xrd:=Ext.new hrd (.lst (as2.map V.ref));refine⟨rd,as2,(ownF N aA e.2).map (rowL (e.2.map hdS)),rfl,SqL.of upd_same,Paired.mapP pr λa t z=>SqL.of (Xrd _ _ z),by rw[la,hA1];omega,λso o hso g sp=>?_⟩;have Xso:=Xrd.trans (Ext.new hso (.lst ((o.toList.map λi=>as2.getD i 0).map V.ref)));have gm:∀i∈o.toList,i<as2.length:=λi hi=>qMd g hi
  rw[la]at g sp;obtain⟨s1,s2⟩:=qGg g sp;have eR:=qOz s1 (kt.rs e em) (s2.trans (kt.rp e em));have prD:=qFd pr gm;rw[eR]at prD;refine⟨two,λD hD=>?_⟩;have XD:=Xso.trans (Ext.new hD (.tup [V.ref fi,V.ref so]));have tiD:qF9 (upd (upd (upd H14 rd (.lst (as2.map V.ref))) so (.lst ((o.toList.map λi=>as2.getD i 0).map V.ref))) D (.tup [V.ref fi,V.ref so])) D (e.2.map hdS) ((shF S (e.2.map (maskF aA))).map (rowM (e.2.map hdS))):=⟨fi,so,upd_same,(e14.trans XD) _ _ hf13,_,(Ext.new hD _) _ _ upd_same,Paired.mapP prD λa t z=>XD _ _ z⟩;have e15:=e13.trans (e14.trans XD);have hG:=(e14.trans XD) _ _ hG;have hB:=Paired.mapP hB λa t z=>(e14.trans XD) _ _ z
  have how:=(e14.trans XD) _ _ how;revert tiD e15 hG hB how;clear XD Xso Xrd e14 e13 hf13 prD;generalize upd (upd (upd H14 rd (.lst (as2.map V.ref))) so (.lst ((o.toList.map λi=>as2.getD i 0).map V.ref))) D (.tup [V.ref fi,V.ref so])=H15;intro tiD e15 hG hB how;clear eR s1 s2 gm g sp la pr hrd hso hD hfi;have okD:∀r∈(shF S (e.2.map (maskF aA))).map (rowM (e.2.map hdS)),SOk r:=λr hr x hx=>by
   obtain⟨y,_,rfl⟩:=hAe.mp hr;exact okf x (qHb hx)
  refine⟨_,rfl,G,rfl,⟨_,SqL.of hG⟩,?_⟩;refine qAq (xs:=bs.map V.ref) (λj ys H'=>Ext H15 H'/\∃cs:List Addr,ys=cs.map V.ref/\Paired (LsS H') cs (e.2.take j)) ⟨Ext.refl _,[],rfl,.nil⟩ (λj ys H' _ h=>SqL.of (h.1 _ _ hG)) ?_ ?_
  ·rintro j v ys H' hx2 ⟨e2,cs,rfl,pc⟩;obtain⟨b,rfl,hb⟩:=qA7 hx2;obtain⟨r,hr',hbr⟩:=qAr hB hb;have hj:=qAx hr';have lc:=pc.length;rw[hAm]at lc;refine⟨sls,iteT (B:=False) ⟨_,rfl,b,_,rfl,.inl (SqL.of (e2 _ _ hbr)),λl hl=>⟨?_,nxt (qAx hx2) ⟨e2.trans (Ext.new hl _),cs++[l],by rw[hA4];rfl,?_⟩⟩⟩⟩
   ·rw[hA1];exact qAf vG
   ·rw[qAh hr'];exact Paired.snoc (Paired.mapP pc λa t z=>Ext.new hl _ _ _ z) upd_same
  rintro ys H16 ⟨e16,cs,rfl,pc⟩ ak hak;rw[hA1,lbs,hA5 (hA9 _)]at pc;have Xak:=Ext.new hak (.lst (cs.map V.ref));have ra:qDx (upd H16 ak (.lst (cs.map V.ref))) ak e.2:=⟨cs,upd_same,Paired.mapP pc λa t z=>Xak _ _ z⟩;have E16:=e16.trans Xak;have tiD:=tiD.ext E16;have e17:=e15.trans E16;have rg:qDx (upd H16 ak (.lst (cs.map V.ref))) G e.2:=⟨bs,E16 _ _ hG,Paired.mapP hB λa t z=>E16 _ _ z⟩;have how:=E16 _ _ how;revert ra tiD e17 rg how;clear hB hG E16 Xak;generalize upd H16 ak (.lst (cs.map V.ref))=H17;intro ra tiD e17 rg how;clear e15 e16 pc hak;have ti17:=ti7.ext e17;refine⟨2,rfl,by decide,by decide,?_⟩;refine qB3 (lo:=0) (n:=2) (λi σ H'=>∃x12 x13:Option V,σ=[some (.ref a),some (.ref na),some (.ref ba),some (.ref sa),some (.ref T),some (.ref L),some (.str e.1),some (.ref G),some (.ref ow),some (.ref fi),some (.ref D),some (.ref ak),x12,x13]/\Ext H17 H') ⟨_,_,rfl,Ext.refl _⟩ ?_ (λσ H' h=>by
   obtain⟨x12,x13,rfl,e⟩:=h;exact⟨_,_,_,_,_,_,_,_,rfl,e17.trans e⟩)
  rintro i2 σ H18 _ ⟨x12,x13,rfl,e18⟩;obtain⟨ka,kb1,kb2⟩:=id ra;refine⟨_,rfl,_,rfl,T,ak,aA,N.map (rowL aA),e.2,rfl,ti17.ext e18,by rw[hA1];omega,n12,⟨ka,e18 _ _ kb1,Paired.mapP kb2 λa t z=>e18 _ _ z⟩,l12,λr hr=>(rwk r hr).1,λTt H19 e19 Tt0 tf=>?_⟩;rw[qJf nd,<-hS]at tf;have E19:=e18.trans e19;have raX:qDx H19 ak e.2:=⟨ka,E19 _ _ kb1,Paired.mapP kb2 λa t z=>E19 _ _ z⟩;obtain⟨ga,g1,g2⟩:=id rg;have rgX:qDx H19 G e.2:=⟨ga,E19 _ _ g1,Paired.mapP g2 λa t z=>E19 _ _ z⟩;have okT:=qI2 okf okD;refine⟨_,rfl,_,rfl,_,_,qQn tf.tin,qQn (tiD.ext E19),okT,okT,_,rfl,?_⟩;rw[hEk rfl,qUr];refine qG5 ?_;refine⟨_,rfl,_,rfl,_,_,qK1 raX,qK1 rgX,qE8 oke,qE8 oke,_,rfl,?_⟩;rw[hEk rfl,qQk,hEf rfl];refine qG5 ?_;refine⟨_,rfl,_,rfl,_,rfl,G,_,rfl,.inl (SqL.of (E19 _ _ g1)),ow,ownF N aA e.2,e.2.length,?_,E19 _ _ how,lown,l12,λH20 e20=>⟨rfl,_,rfl,?_⟩⟩
  ·rw[hA1,show ga.length=e.2.length from g2.length];rfl
  rw[kt.kd e em,hEf rfl];refine qG5 ?_;obtain⟨ta,tb,t1,t2,t3,⟨tas,t4,_⟩,t5⟩:=tf;refine⟨_,rfl,Tt,_,_,_,rfl,rfl,SqT.of (e20 _ _ t1),(by exact qA0 (j:=1) rfl),(show tyV _ _ (.ref tb) _ from Or.inl ⟨rfl,_,SqL.of (e20 _ _ t4)⟩),tb,_,rfl,rfl,e20 _ _ t4,?_⟩;have nab:Tt≠tb:=λz=>by rw[z,t4]at t1;cases t1
  have nt:ta≠tb:=λz=>by
   have t2:H19 ta=some (HO.lst ((e.2.map hdS).map V.str)):=t2;rw[z,t4]at t2;have h:=HO.lst.inj (hAq t2);have l:=congrArg List.length h;rw[hA1,hA1,hA1]at l;cases hE:e.2 with
   |nil=>rw[hE]at l3;exact absurd l3 (by decide)
   |cons r R =>
    rw[hE]at h;cases tas with
    |nil=>cases h
    |cons x xs=>cases(List.cons.inj h).1
  have h1:upd H20 tb (.lst []) Tt=some (.tup [V.ref ta,V.ref tb]):=by rw[qAk nab];exact e20 _ _ t1
  have h2:upd H20 tb (.lst []) ta=some (.lst ((e.2.map hdS).map V.str)):=by rw[qAk nt];exact e20 _ _ t2
  refine⟨_,rfl,Tt,_,_,_,rfl,rfl,SqT.of h1,(by exact qA0 (j:=0) rfl),(show tyV _ _ (.ref ta) _ from Or.inl ⟨rfl,_,SqL.of h2⟩),ta,_,_,rfl,rfl,h2,?_,?_⟩
  ·rw[hA1];exact qAf vG
  refine⟨_,_,rfl,?_⟩;have k18:Ext H18 H20:=e19.trans e20;exact e18.trans ((k18.over t5 _).over t3 _)
 rintro σ H8 ⟨x6,x7,x8,x9,x10,x11,x12,x13,rfl,e8⟩;have ti8:=ti7.ext e8;have hna8:=e8 _ _ hna7;have hba8:=e8 _ _ hba7;refine⟨_,rfl,_,rfl,_,rfl,ba,rfl,⟨_,SqL.of hba8⟩,?_⟩;refine qAq (xs:=N.map iV) (λj ys H'=>Ext H8 H'/\∃as:List Addr,ys=as.map V.ref/\Paired (LsS H') as ((N.take j).map (rowL aA))) ⟨Ext.refl _,[],rfl,.nil⟩ (λj ys H' _ h=>SqL.of (h.1 _ _ hba8)) ?_ ?_
 ·rintro j v ys H' hx ⟨e2,as,rfl,pr⟩;obtain⟨x,rfl,hx'⟩:=qB2 hx;have hj:=qAx hx';have la:=pr.length;rw[hA1,hAm]at la;refine⟨sls,iteT (B:=False) ⟨_,rfl,_,rfl,na,aA,x,rfl,e2 _ _ hna8,n12,λr3 H3 e3 r30 h3=>⟨?_,nxt (qAx hx) ⟨e2.trans e3,as++[r3],by rw[hA4];rfl,?_⟩⟩⟩⟩
  ·rw[hA1];exact qAf vG
  ·rw[qAh hx',hA4];exact Paired.snoc (Paired.mapP pr λa t z=>e3 _ _ z) h3
 rintro ys H' ⟨e2,as,rfl,pr⟩ rb2 hrb2;rw[hA1,hA5 (hA9 _)]at pr;have Xrb:=Ext.new hrb2 (.lst (as.map V.ref));refine⟨two,λT2 hT2=>?_⟩;have XT:=Ext.new hT2 (.tup [V.ref na,V.ref rb2]);have okT:=qI2 okn okR;refine⟨_,_,qQn (ti8.ext (e2.trans (Xrb.trans XT))),qQn (show qF9 _ T2 aA (N.map (rowL aA)) from ⟨na,rb2,upd_same,(e2.trans (Xrb.trans XT)) _ _ hna8,as,XT _ _ upd_same,Paired.mapP pr λa t z=>(Xrb.trans XT) _ _ z⟩),okT,okT,?_⟩;rw[hEj (by decide),qUr];exact q _
end
end My
namespace L2
open PySem PySem.Spec PyProof.Rows
theorem qRj{P:Program}{w:World}{K:PySem.W.Frag}{mg mb:Str->Option Value}{CX:CXT}{k:Nat}{fa a c T c2 T2:Addr}{fd:FuncData}{x:Str}{sp:Sp}{s₁:Shared}{vs:List Value}{ns:List Int}
  (KX:K.In s₁.heap) (hns:s₁.heap.Ns mainGlobals mg) (hb:s₁.heap.Ns builtinsNs mb) (hbb:∀x:Str,x≠"__name__"->mb x=bootBuiltins x) (hlim:s₁.heap.NoLimit) (hg:s₁.gens=#[])
  (ha:s₁.heap.get? a=some { cls:=.type "list",data:=.seq vs.toArray }) (hi:IntsAre vs ns) (hl:ns.length<=sizeLine) (hr:Room k callerA)
  (hC:PySem.W.CodeHd s₁.heap c T) (hT:s₁.heap.get? T=some (PySem.W.tabObj #[])) (hC2:PySem.W.CodeHd s₁.heap c2 T2) (hT2:s₁.heap.get? T2=some (PySem.W.tabObj #[])) (hnt:PySem.W.noTabs K=true) (hB:s₁.heap.BuiltinsAt mg T) (hB2:s₁.heap.BuiltinsAt mg T2)
  (F:∀base:Heap,K.In base->base.Ns mainGlobals mg->PySem.W.CodeHd base c T->base.BuiltinsAt mg T->PySem.W.CodeHd base c2 T2->base.BuiltinsAt mg T2->FnOk P w K mg base CX k fa fd [x] sp) (hbind:∀(s:Shared) (u:Value),BindsTo s fd ⟨[u],[]⟩ [(x,u)])
  (hsp:∀H:Hp,H T=some (.tbl #[])->H T2=some (.tbl #[])->SqL K H a (ns.map V.int)->sp [.ref a] H (λv _=>v = .bl true) λ_ _ _=>False)
  (hCX:∀H e s',CX [] H s₁ (λ_ _ _=>False) e s'->False) :
  codeAny (model P w) callerA (.call (.ref fa) ⟨[.ref a],[]⟩) (λr s'=>r = .ok (.ret (.bool true))/\OldK s₁.heap s'.heap/\s'.os=s₁.os/\AllBare s'.gens) s₁:=by
 have rv:=qLa hi;have lenV:=hi.length;have hKT:=zEj KX hnt hT;have hKT2:=zEj KX hnt hT2;have isT:∀ {b:Addr},b=T\/b=T2->s₁.heap.get? b=some (PySem.W.tabObj #[]):=λh=>by
  rcases h with h|h
  ·rw[h];exact hT
  ·rw[h];exact hT2
 have noK:∀ {b:Addr},b=T\/b=T2->K.lookup b=none:=λh=>by
  rcases h with h|h
  ·rw[h];exact hKT
  ·rw[h];exact hKT2
 have aT:¬(a=T\/a=T2):=λz=>by have:=isT z;rw[ha]at this;cases this
 have core:∀H:Hp,(∀b,¬(b=T\/b=T2)->H b=none\/∃o xs,H b=some (.frz o (.lst xs)))->(∀b,b=T\/b=T2->H b=some (.tbl #[]))->SqL K H a (ns.map V.int)->HOk P w H s₁.heap->(∀b,H b≠none->b=a\/b=T\/b=T2)->(H a≠none->K.lookup a=none) ->
   codeAny (model P w) callerA (.call (.ref fa) ⟨[.ref a],[]⟩) (λr s'=>r = .ok (.ret (.bool true))/\OldK s₁.heap s'.heap/\s'.os=s₁.os/\AllBare s'.gens) s₁:=by
  intro H hO hHT hS hok hA hK;have base_of:∀ {b:Addr} {o:Obj},s₁.heap.get? b=some o->H b=none->(qUf s₁.heap H).get? b=some o:=λe n=>qXx e n
  have noA:∀ {b:Addr} {o:Obj},s₁.heap.get? b=some o->(∀vs n,o.data≠.seq vs n)->o≠PySem.W.tabObj #[]->H b=none:=λ{b o} e d1 d2=>by
   cases q:H b with
   |none=>rfl
   |some u =>
    rcases hA b (by rw[q];simp) with e'|e'
    ·subst e';rw[ha]at e;cases e;exact absurd rfl (d1 _ _)
    ·rw[isT e']at e;exact absurd (hAq e).symm d2
  have nsK:∀ {b:Addr} {m:Str->Option Value},s₁.heap.Ns b m->(qUf s₁.heap H).Ns b m:=λ{b m} ⟨o,es,ep,e,d,r⟩=>⟨o,es,ep,base_of e (noA e (λ_ _ z=>by rw[d]at z;cases z) (λz=>by rw[z]at d;cases d)),d,r⟩
  have hKb:K.In (qUf s₁.heap H):=λb o e=>base_of (KX b o e) (by
   cases q:H b with
   |none=>rfl
   |some u =>
    rcases hA b (by rw[q];simp) with e'|e'
    ·subst e';rw[hK (by rw[q];simp)]at e;cases e
    ·rw[noK e']at e;cases e)
  have hM:Mod K mg (qUf s₁.heap H):=⟨hKb,nsK hns,⟨mb,nsK hb,hbb⟩,let ⟨mc,h1,h2⟩:=hlim;⟨mc,nsK h1,h2⟩⟩;have hdK:∀ {c T:Addr},PySem.W.CodeHd s₁.heap c T->PySem.W.CodeHd (qUf s₁.heap H) c T:=λ{c T} hC=>by
   obtain⟨o,vs',file,tf,flags,tg,inF,text,tt,e1,e2,e3,r⟩:=hC;refine⟨o,vs',file,tf,flags,tg,inF,text,tt,base_of e1 (noA e1 (λ_ _ z=>by rw[e3]at z;cases z) (λz=>by rw[z]at e2;cases e2)),e2,e3,r⟩
  have blK:∀ {T:Addr},s₁.heap.BuiltinsAt mg T->(qUf s₁.heap H).BuiltinsAt mg T:=λ{T} hB=>by
   obtain⟨bm,ob,b1,b2,b3,b4,b5,b6,b7,b8⟩:=hB;exact⟨bm,ob,b1,b2,b3,b4,base_of b5 (noA b5 (λ_ _ z=>by rw[b8]at z;cases z) (λz=>by rw[z]at b8;cases b8)),b6,b7,b8⟩
  have e0:Env0 P w K mg (qUf s₁.heap H) callerA [] s₁ H:=⟨rfl,hM,λb o e=>zB4 e,Nat.le_of_eq (qUe _ _),trivial,λb hb=>absurd (show b∈([]:List Addr) from hb) vI,hok,.of_eq hg⟩;refine hF9 ((F _ hKb (nsK hns) (hdK hC) (blK hB) (hdK hC2) (blK hB2)).run callerA [] s₁ H ⟨[.ref a],[]⟩ [.ref a] [.ref a] _ _ hr e0 (hbind s₁ (.ref a)) (.cons rfl .nil) (hsp H (hHT T (.inl rfl)) (hHT T2 (.inr rfl)) hS)) λr s' h=>?_
  cases r with
  |error e=>exact(hCX H e s' h).elim
  |ok fl =>
   cases fl with
   |next=>exact False.elim h
   |brk=>exact False.elim h
   |cont=>exact False.elim h
   |ret u =>
    obtain⟨v,H',os,bare,un,hok',r',q⟩:=h;have q':v = .bl true:=q;subst q';obtain rfl:u=Value.bool true:=r';have tbs:∀b,b=T\/b=T2->∃more:Array Value,s'.heap.get? b=some { cls:=.none,data:=.fields (#[]++more) }:=λb hbT=>by
     obtain⟨more,hmT⟩:=un.tbls b _ (hHT b hbT);exact⟨more,hok' b _ hmT⟩
    refine⟨rfl,⟨λb o e=>?_,λb o e=>?_⟩,os,bare⟩
    ·by_cases hbT:b=T\/b=T2
     ·obtain⟨more,hTs⟩:=tbs b hbT;have e2:=isT hbT;rw[e2]at e;cases e;rcases hbT with z|z
      ·subst z;exact .inr (.inl ⟨(hC.tab hT).isCodeTable,rfl,#[],more,rfl,hTs⟩)
      ·subst z;exact .inr (.inl ⟨(hC2.tab hT2).isCodeTable,rfl,#[],more,rfl,hTs⟩)
     ·refine .inl ?_;cases q:H b with
      |none=>exact un.keep b o e q (by intro z;exact absurd (show b∈([]:List Addr) from z) vI) vI
      |some u =>
       rcases hO b hbT with z|⟨ob,xs,z⟩
       ·rw[q]at z;cases z
       ·have z2:=un.frzs b ob _ z;obtain⟨e1,_⟩:=hok b _ z;obtain⟨e2,_⟩:=hok' b _ z2;rw[e]at e1;cases e1;exact e2
    ·by_cases hbT:b=T\/b=T2
     ·obtain⟨more,hTs⟩:=tbs b hbT;exact⟨_,hTs⟩
     ·cases q:H b with
      |none=>exact⟨o,un.keep b o e q (by intro z;exact absurd (show b∈([]:List Addr) from z) vI) vI⟩
      |some u =>
       rcases hO b hbT with z|⟨ob,xs,z⟩
       ·rw[q]at z;cases z
       ·obtain⟨e2,_⟩:=hok' b _ (un.frzs b ob _ z);exact⟨_,e2⟩
 cases hk:K.lookup a with
 |some o =>
  have e:=KX a o hk;rw[ha]at e;cases e;refine core (λb=>if b=T\/b=T2 then some (.tbl #[]) else none) (λb hb=>.inl (hEj hb)) (λb hb=>hEk hb) (.inr ⟨_,vs.toArray,_,hk,rfl,rfl,rfl,by rw[hAk,lenV];exact hl,by simpa using rv⟩) (λb u z=>?_) (λb z=>?_) (λz=>absurd (hEj aT) z)
  ·by_cases hb:b=T\/b=T2
   ·have z':=(hEk hb).symm.trans z;cases z';exact isT hb
   ·have z':=(hEj hb).symm.trans z;cases z'
  ·by_cases hb:b=T\/b=T2
   ·exact .inr hb
   ·exact absurd (hEj hb) z
 |none =>
  refine core (λb=>if b=T\/b=T2 then some (.tbl #[]) else if b=a then some (.frz { cls:=.type "list",data:=.seq vs.toArray } (.lst (ns.map V.int))) else none) (λb hbT=>?_) (λb hb=>hEk hb) (.inl (.inr ⟨{ cls:=.type "list",data:=.seq vs.toArray },(hEj aT).trans (hEk rfl)⟩)) (λb u z=>?_) (λb z=>?_) λ_=>hk
  ·by_cases hb:b=a
   ·exact .inr ⟨_,_,(hEj hbT).trans (hEk hb)⟩
   ·exact .inl ((hEj hbT).trans (hEj hb))
  ·by_cases hbT:b=T\/b=T2
   ·have z':=(hEk hbT).symm.trans z;cases z';exact isT hbT
   ·have z:=(hEj hbT).symm.trans z;by_cases hb:b=a
    ·have z':=(hEk hb).symm.trans z;cases z';subst hb;exact⟨ha,by rw[hA1];exact hl,vs,_,rv,ha⟩
    ·have z':=(hEj hb).symm.trans z;cases z'
  ·by_cases hbT:b=T\/b=T2
   ·exact .inr hbT
   ·by_cases hb:b=a
    ·exact .inl hb
    ·exact absurd ((hEj hbT).trans (hEj hb)) z
theorem walk_ofT2{l:PySem.W.OpenLaw}{n k:Nat}{q:Program}{loose:List Str}{XP:(Str->Option Value)->Heap->Prop}{YP:World->Heap->Prop}{d dr dr2:DefRec}{K:Params->PySem.W.Frag}{CX:World->CXT}{sp:World->Addr->Addr->Sp}{x tx ty:Str}
  (hn:l.most=some n) (hn2:n<=sizeLine) (hdf:d.params.defaults=[]) (hr:Room k callerA)
  (hY:∀(w:World) (h:Heap),YP w h->(K w.params).In h) (hrec:(recsOf q).find? (λe=>e.name == tx)=some dr) (hrec2:(recsOf q).find? (λe=>e.name == ty)=some dr2)
  (hK:∀w:World,∃c T c2 T2,PySem.W.tabIn (K w.params) tx=some (c,T)/\PySem.W.tabIn (K w.params) ty=some (c2,T2)/\T≠T2/\PySem.W.noTabs (K w.params)=true)
  (F:∀(w:World) (mg:Str->Option Value) (fa:Addr) (h:Heap) (c T c2 T2:Addr),(K w.params).In h->h.Ns mainGlobals mg->mg d.name=some (.ref fa)->PySem.W.tabIn (K w.params) tx=some (c,T)->PySem.W.tabIn (K w.params) ty=some (c2,T2) ->
   ∃fd:FuncData,(∀(s:Shared) (u:Value),BindsTo s fd ⟨[u],[]⟩ [(x,u)]) /\
    ∀base:Heap,(K w.params).In base->base.Ns mainGlobals mg->PySem.W.CodeHd base c T->base.BuiltinsAt mg T->PySem.W.CodeHd base c2 T2->base.BuiltinsAt mg T2->FnOk l.prog w (K w.params) mg base (CX w) k fa fd [x] (sp w T T2))
  (hsp:∀(w:World) (T T2:Addr) (H:Hp) (a:Addr) (ns:List Int),ns.length<=n->T≠T2->H T=some (.tbl #[])->H T2=some (.tbl #[])->SqL (K w.params) H a (ns.map V.int)->sp w T T2 [.ref a] H (λv _=>v = .bl true) λ_ _ _=>False)
  (hCX:∀(w:World) (H:Hp) (s:Shared) (e:Value) (s':Shared),CX w [] H s (λ_ _ _=>False) e s'->False) :
  PySem.W.WalkO q loose XP YP l.row.toRowW d [] (λf vs=>PySem.call f vs):=by
 refine Att.attach_call hn hdf λw s₀ s₁ mg mb fa o pm cd doc a vs ns G Y ho hd hcd hmg hobj hints hlen hg=>?_
 have KX:=hY w _ Y;obtain⟨c,T,c2,T2,ht,ht2,ne,hnt⟩:=hK w;obtain⟨hC,hT⟩:=PySem.W.tab_of G.T KX hrec ht;obtain⟨hC2,hT2⟩:=PySem.W.tab_of G.T KX hrec2 ht2;obtain⟨bm,ob,b1,b2,b3,b4,b5,b6⟩:=G.T.bmain;have hbT:∀ {T:Addr},s₁.heap.get? T=some (PySem.W.tabObj #[])->bm≠T:=λhT z=>by rw[z,hT]at b3;cases b3;cases b4
 have hbG:bm≠mainGlobals:=λz=>by
  obtain⟨o',es,ep,e,hd',_⟩:=G.T.g;rw[z,e]at b3;cases b3;rw[hd']at b6;cases b6
 obtain⟨fd,hb,hF⟩:=F w mg fa _ c T c2 T2 KX G.T.g hmg ht ht2;exact qRj KX G.T.g G.T.b G.T.builtins G.T.nolimit hg hobj hints (hAw hlen hn2) hr hC hT hC2 hT2 hnt ⟨bm,ob,b1,b2,hbG,hbT hT,b3,b4,b5,b6⟩ ⟨bm,ob,b1,b2,hbG,hbT hT2,b3,b4,b5,b6⟩ hF hb (λH h1 h2 hS=>hsp w T T2 H a ns hlen ne h1 h2 hS) λH e s'=>hCX w H s₁ e s'
end L2
namespace My
open PySem L2
theorem qV0{α:Type}{us:List α}(h:us.length=1):∃a,us=[a]:=hDk.mp h
theorem qFx{α:Type}{us:List α}(h:us.length=2):∃a b,us=[a,b]:=by
 match us,h with | [a,b],_=>exact⟨a,b,rfl⟩
theorem zDa{α:Type}{us:List α}(h:us.length=3):∃a b c,us=[a,b,c]:=by
 match us,h with | [a,b,c],_=>exact⟨a,b,c,rfl⟩
theorem zG2{α:Type}{us:List α}(h:us.length=4):∃a b c d,us=[a,b,c,d]:=by
 match us,h with | [a,b,c,d],_=>exact⟨a,b,c,d,rfl⟩
def Hs(K:PySem.W.Frag)(x:Str)(st:Stmt)(f:Addr):Prop:=∃(od an:Option Addr) (sl:Array (Option Value)) (oc kV dc pm cd ct:Value),PySem.W.nsIn K mainGlobals x=some (some (.ref f))/\K.lookup f=some ⟨oc,od,.func (PySem.W.fnOf x x (qDm st) (qCb st) (qAc st) .none kV dc pm an cd ct),sl⟩/\PySem.W.codeIn K cd x=true/\PySem.W.keepIn K (.ref f)=true
theorem hs_mk{K:PySem.W.Frag}{x:Str}{st:Stmt}{f:Addr}{od an:Option Addr}{sl:Array (Option Value)}{oc kV dc pm cd ct:Value}(a:PySem.W.nsIn K mainGlobals x=some (some (.ref f)))(l:K.lookup f=some ⟨oc,od,.func (PySem.W.fnOf x x (qDm st) (qCb st) (qAc st) .none kV dc pm an cd ct),sl⟩)(c:PySem.W.codeIn K cd x=true)(k:PySem.W.keepIn K (.ref f)=true):Hs K x st f:=⟨_,_,_,_,_,_,_,_,_,a,l,c,k⟩
theorem qA2{K:PySem.W.Frag}{x:Str}{st:Stmt}{f:Addr}{h:Heap}{mg:Str->Option Value}(X:K.In h)(G:h.Ns mainGlobals mg)(H:Hs K x st f):∃fd,Fun K x x st f fd/\PySem.W.keepIn K (.ref f)=true/\mg x=some (.ref f):=by
 obtain⟨_,_,_,_,_,_,_,_,_,a,l,c,k⟩:=H;exact⟨_,qQd (st:=st) l c k,k,PySem.W.mg_of X G a⟩
theorem all_mk{l:PySem.W.OpenLaw}{w:World}{K:PySem.W.Frag}{h:Heap}{mg:Str->Option Value}{fa f1 f2 f3 f4 f5 f6 f7 f8 f9 f10 f11 f12 f13 f14 f15 f16 f17 f18 f19 f20 f21 f22 f23 f24 f25 f26 f27 f28 f29 f30 f31 f32 f33 f34 f35 f36 f37 f38 f39 f40 f41 f42 f43 f44 f45 f46 f47 f48:Addr}(X:K.In h)(G:h.Ns mainGlobals mg)(hfa:mg "law"=some (.ref fa)){cx Tx cy Ty:Addr}(ht:PySem.W.tabIn K "parts"=some (cx,Tx))(ht2:PySem.W.tabIn K "_law_blocks"=some (cy,Ty))
  {odN anN od21 an21 od38 an38:Option Addr} {slN sl21 sl38:Array (Option Value)} {ocN kVN dcN pmN cdN ctN oc21 kV21 dc21 pm21 cd21 ct21 oc38 kV38 dc38 pm38 cd38 ct38:Value}
  (h1:Hs K "mask_of" qWn f1) (h2:Hs K "row_of" qI6 f2) (h3:Hs K "lessened" zAn f3) (h4:Hs K "reduced" qWm f4) (h5:Hs K "table_from" qWl f5) (h6:Hs K "step_masks" qPh f6) (h7:Hs K "is_single" qNo f7)
  (h8:Hs K "splits" qNn f8) (h9:Hs K "lies_across" zAm f9) (h10:Hs K "is_crossed" zAr f10) (h11:Hs K "share_masks" qI5 f11) (h12:Hs K "grown" qSv f12) (h13:Hs K "widths" qGc f13)
  (h14:Hs K "first_parting" qSw f14) (h15:Hs K "kind_of" zAq f15) (h16:Hs K "parted" qJ2 f16) (h17:Hs K "beside" qNq f17) (h18:Hs K "are_mates" qPj f18) (h19:Hs K "melded" qHv f19)
  (h20:Hs K "joined" qHw f20)
  (a21:PySem.W.nsIn K mainGlobals "parts"=some (some (.ref f21))) (l21:K.lookup f21=some ⟨oc21,od21,.func (PySem.W.fnOf "parts" "parts" (qDm qEg) (qCb qEg) (qAc qEg) .none kV21 dc21 pm21 an21 cd21 ct21),sl21⟩) (c21:PySem.W.codeIn K cd21 "parts"=true) (k21:PySem.W.keepIn K (.ref f21)=true)
  (h22:Hs K "part_table" qSq f22) (h23:Hs K "_law_cell_at" zAs f23) (h24:Hs K "_law_big" zF0 f24) (h25:Hs K "_law_names" qPi f25) (h26:Hs K "_law_ends" qWx f26) (h27:Hs K "_law_net" zFz f27)
  (h28:Hs K "_law_reduced" qWr f28) (h29:Hs K "_law_even" qLp f29) (h30:Hs K "_law_crossing" qSt f30) (h31:Hs K "_law_small" qNp f31) (h32:Hs K "_law_with_more" qWs f32) (h33:Hs K "_law_row" qWq f33)
  (h34:Hs K "_law_mask" qWt f34) (h35:Hs K "_law_free" zAp f35) (h36:Hs K "_law_steps_of" qWp f36) (h37:Hs K "_law_sums" qWo f37)
  (a38:PySem.W.nsIn K mainGlobals "_law_blocks"=some (some (.ref f38))) (l38:K.lookup f38=some ⟨oc38,od38,.func (PySem.W.fnOf "_law_blocks" "_law_blocks" (qDm qG1) (qCb qG1) (qAc qG1) .none kV38 dc38 pm38 an38 cd38 ct38),sl38⟩) (c38:PySem.W.codeIn K cd38 "_law_blocks"=true) (k38:PySem.W.keepIn K (.ref f38)=true)
  (h39:Hs K "_law_inside" qWv f39) (h40:Hs K "_law_block" qRd f40) (h41:Hs K "_law_glued" qWw f41) (h42:Hs K "_law_tree" qLo f42) (h43:Hs K "_law_flat" qSs f43) (h44:Hs K "_law_are_parts" qRe f44)
  (h45:Hs K "_law_own" zAo f45) (h46:Hs K "_law_kind" qWu f46) (h47:Hs K "_law_apart" qSu f47)
  (a48:PySem.W.nsIn K mainGlobals "law"=some (some (.ref f48))) (l48:K.lookup f48=some ⟨ocN,odN,.func (PySem.W.fnOf "law" "law" (qDm qMz) (qCb qMz) (qAc qMz) .none kVN dcN pmN anN cdN ctN),slN⟩) (c48:PySem.W.codeIn K cdN "law"=true) (k48:PySem.W.keepIn K (.ref f48)=true)
  (z1:PySem.W.nsIn K mainGlobals "abs"=some none)
  (z2:PySem.W.nsIn K mainGlobals "all"=some none)
  (z3:PySem.W.nsIn K mainGlobals "any"=some none)
  (z4:PySem.W.nsIn K mainGlobals "enumerate"=some none)
  (z5:PySem.W.nsIn K mainGlobals "int"=some none)
  (z6:PySem.W.nsIn K mainGlobals "isinstance"=some none)
  (z7:PySem.W.nsIn K mainGlobals "len"=some none)
  (z8:PySem.W.nsIn K mainGlobals "list"=some none)
  (z9:PySem.W.nsIn K mainGlobals "max"=some none)
  (z10:PySem.W.nsIn K mainGlobals "min"=some none)
  (z11:PySem.W.nsIn K mainGlobals "range"=some none)
  (z12:PySem.W.nsIn K mainGlobals "reversed"=some none)
  (z13:PySem.W.nsIn K mainGlobals "set"=some none)
  (z14:PySem.W.nsIn K mainGlobals "sorted"=some none)
  (z15:PySem.W.nsIn K mainGlobals "str"=some none)
  (z16:PySem.W.nsIn K mainGlobals "sum"=some none)
  (z17:PySem.W.nsIn K mainGlobals "tuple"=some none)
  (z18:PySem.W.nsIn K mainGlobals "zip"=some none)
  : ∃fd:FuncData,(∀(s:Shared) (v:Value),BindsTo s fd ⟨[v],[]⟩ [("_law_script",v)])/\∀base:Heap,K.In base->base.Ns mainGlobals mg->PySem.W.CodeHd base cx Tx->base.BuiltinsAt mg Tx->PySem.W.CodeHd base cy Ty->base.BuiltinsAt mg Ty->FnOk l.prog w K mg base CX0 17 fa fd ["_law_script"] (qWb K Tx Ty):=by
 have e:=hfa.symm.trans (PySem.W.mg_of X G a48);cases e;obtain⟨_,F1,k1,m1⟩:=qA2 X G h1;obtain⟨_,F2,k2,m2⟩:=qA2 X G h2;obtain⟨_,F3,k3,m3⟩:=qA2 X G h3;obtain⟨_,F4,k4,m4⟩:=qA2 X G h4;obtain⟨_,F5,k5,m5⟩:=qA2 X G h5;obtain⟨_,F6,k6,m6⟩:=qA2 X G h6;obtain⟨_,F7,k7,m7⟩:=qA2 X G h7;obtain⟨_,F8,k8,m8⟩:=qA2 X G h8;obtain⟨_,F9,k9,m9⟩:=qA2 X G h9;obtain⟨_,F10,k10,m10⟩:=qA2 X G h10;obtain⟨_,F11,k11,m11⟩:=qA2 X G h11;obtain⟨_,F12,k12,m12⟩:=qA2 X G h12;obtain⟨_,F13,k13,m13⟩:=qA2 X G h13;obtain⟨_,F14,k14,m14⟩:=qA2 X G h14;obtain⟨_,F15,k15,m15⟩:=qA2 X G h15;obtain⟨_,F16,k16,m16⟩:=qA2 X G h16;obtain⟨_,F17,k17,m17⟩:=qA2 X G h17;obtain⟨_,F18,k18,m18⟩:=qA2 X G h18;obtain⟨_,F19,k19,m19⟩:=qA2 X G h19;obtain⟨_,F20,k20,m20⟩:=qA2 X G h20;have F21:=qQd (st:=qEg) l21 c21 k21;obtain⟨_,F22,k22,m22⟩:=qA2 X G h22;obtain⟨_,F23,k23,m23⟩:=qA2 X G h23;obtain⟨_,F24,k24,m24⟩:=qA2 X G h24;obtain⟨_,F25,k25,m25⟩:=qA2 X G h25;obtain⟨_,F26,k26,m26⟩:=qA2 X G h26;obtain⟨_,F27,k27,m27⟩:=qA2 X G h27;obtain⟨_,F28,k28,m28⟩:=qA2 X G h28;obtain⟨_,F29,k29,m29⟩:=qA2 X G h29;obtain⟨_,F30,k30,m30⟩:=qA2 X G h30;obtain⟨_,F31,k31,m31⟩:=qA2 X G h31;obtain⟨_,F32,k32,m32⟩:=qA2 X G h32;obtain⟨_,F33,k33,m33⟩:=qA2 X G h33;obtain⟨_,F34,k34,m34⟩:=qA2 X G h34;obtain⟨_,F35,k35,m35⟩:=qA2 X G h35;obtain⟨_,F36,k36,m36⟩:=qA2 X G h36;obtain⟨_,F37,k37,m37⟩:=qA2 X G h37;have F38:=qQd (st:=qG1) l38 c38 k38;obtain⟨_,F39,k39,m39⟩:=qA2 X G h39;obtain⟨_,F40,k40,m40⟩:=qA2 X G h40;obtain⟨_,F41,k41,m41⟩:=qA2 X G h41;obtain⟨_,F42,k42,m42⟩:=qA2 X G h42;obtain⟨_,F43,k43,m43⟩:=qA2 X G h43;obtain⟨_,F44,k44,m44⟩:=qA2 X G h44;obtain⟨_,F45,k45,m45⟩:=qA2 X G h45;obtain⟨_,F46,k46,m46⟩:=qA2 X G h46;obtain⟨_,F47,k47,m47⟩:=qA2 X G h47;have F48:=qQd (st:=qMz) l48 c48 k48;have b1:=F1.binds (ps:=["names","row"]) λ_ _ _ _ _ _ us hl=>by obtain⟨_,_,rfl⟩:=qFx hl;rfl
 have b2:=F2.binds (ps:=["names","mask"]) λ_ _ _ _ _ _ us hl=>by obtain⟨_,_,rfl⟩:=qFx hl;rfl
 have b3:=F3.binds (ps:=["mask","kept"]) λ_ _ _ _ _ _ us hl=>by obtain⟨_,_,rfl⟩:=qFx hl;rfl
 have b4:=F4.binds (ps:=["masks"]) λ_ _ _ _ _ _ us hl=>by obtain⟨_,rfl⟩:=qV0 hl;rfl
 have b5:=F5.binds (ps:=["names","masks"]) λ_ _ _ _ _ _ us hl=>by obtain⟨_,_,rfl⟩:=qFx hl;rfl
 have b6:=F6.binds (ps:=["table"]) λ_ _ _ _ _ _ us hl=>by obtain⟨_,rfl⟩:=qV0 hl;rfl
 have b7:=F7.binds (ps:=["mask"]) λ_ _ _ _ _ _ us hl=>by obtain⟨_,rfl⟩:=qV0 hl;rfl
 have b8:=F8.binds (ps:=["steps","one","rest","met"]) λ_ _ _ _ _ _ us hl=>by obtain⟨_,_,_,_,rfl⟩:=zG2 hl;rfl
 have b9:=F9.binds (ps:=["steps","even","some"]) λ_ _ _ _ _ _ us hl=>by obtain⟨_,_,_,rfl⟩:=zDa hl;rfl
 have b10:=F10.binds (ps:=["steps","even","group"]) λ_ _ _ _ _ _ us hl=>by obtain⟨_,_,_,rfl⟩:=zDa hl;rfl
 have b11:=F11.binds (ps:=["steps","groups"]) λ_ _ _ _ _ _ us hl=>by obtain⟨_,_,rfl⟩:=qFx hl;rfl
 have b12:=F12.binds (ps:=["base","column"]) λ_ _ _ _ _ _ us hl=>by obtain⟨_,_,rfl⟩:=qFx hl;rfl
 have b13:=F13.binds (ps:=["steps","many"]) λ_ _ _ _ _ _ us hl=>by obtain⟨_,_,rfl⟩:=qFx hl;rfl
 have b14:=F14.binds (ps:=["steps","many"]) λ_ _ _ _ _ _ us hl=>by obtain⟨_,_,rfl⟩:=qFx hl;rfl
 have b15:=F15.binds (ps:=["steps","many"]) λ_ _ _ _ _ _ us hl=>by obtain⟨_,_,rfl⟩:=qFx hl;rfl
 have b16:=F16.binds (ps:=["steps","groups"]) λ_ _ _ _ _ _ us hl=>by obtain⟨_,_,rfl⟩:=qFx hl;rfl
 have b17:=F17.binds (ps:=["groups","others"]) λ_ _ _ _ _ _ us hl=>by obtain⟨_,_,rfl⟩:=qFx hl;rfl
 have b18:=F18.binds (ps:=["one","other","whole"]) λ_ _ _ _ _ _ us hl=>by obtain⟨_,_,_,rfl⟩:=zDa hl;rfl
 have b19:=F19.binds (ps:=["one","other","whole"]) λ_ _ _ _ _ _ us hl=>by obtain⟨_,_,_,rfl⟩:=zDa hl;rfl
 have b20:=F20.binds (ps:=["found","whole"]) λ_ _ _ _ _ _ us hl=>by obtain⟨_,_,rfl⟩:=qFx hl;rfl
 have b21:=F21.binds (ps:=["table"]) λ_ _ _ _ _ _ us hl=>by obtain⟨_,rfl⟩:=qV0 hl;rfl
 have m21:=PySem.W.mg_of X G a21;have b22:=F22.binds (ps:=["table","share"]) λ_ _ _ _ _ _ us hl=>by obtain⟨_,_,rfl⟩:=qFx hl;rfl
 have b23:=F23.binds (ps:=["_law_script","_law_k"]) λ_ _ _ _ _ _ us hl=>by obtain⟨_,_,rfl⟩:=qFx hl;rfl
 have b24:=F24.binds (ps:=["_law_script","_law_k"]) λ_ _ _ _ _ _ us hl=>by obtain⟨_,_,rfl⟩:=qFx hl;rfl
 have b25:=F25.binds (ps:=["_law_big_here","_law_many"]) λ_ _ _ _ _ _ us hl=>by obtain⟨_,_,rfl⟩:=qFx hl;rfl
 have b26:=F26.binds (ps:=["_law_big_here","_law_many","_law_spread"]) λ_ _ _ _ _ _ us hl=>by obtain⟨_,_,_,rfl⟩:=zDa hl;rfl
 have b27:=F27.binds (ps:=["_law_script","_law_at"]) λ_ _ _ _ _ _ us hl=>by obtain⟨_,_,rfl⟩:=qFx hl;rfl
 have b28:=F28.binds (ps:=["_law_numbers"]) λ_ _ _ _ _ _ us hl=>by obtain⟨_,rfl⟩:=qV0 hl;rfl
 have b29:=F29.binds (ps:=["_law_net_here"]) λ_ _ _ _ _ _ us hl=>by obtain⟨_,rfl⟩:=qV0 hl;rfl
 have b30:=F30.binds (ps:=["_law_numbers","_law_many"]) λ_ _ _ _ _ _ us hl=>by obtain⟨_,_,rfl⟩:=qFx hl;rfl
 have b31:=F31.binds (ps:=["_law_kind_here"]) λ_ _ _ _ _ _ us hl=>by obtain⟨_,rfl⟩:=qV0 hl;rfl
 have b32:=F32.binds (ps:=["_law_base","_law_many","_law_big_here","_law_most"]) λ_ _ _ _ _ _ us hl=>by obtain⟨_,_,_,_,rfl⟩:=zG2 hl;rfl
 have b33:=F33.binds (ps:=["_law_names_here","_law_number"]) λ_ _ _ _ _ _ us hl=>by obtain⟨_,_,rfl⟩:=qFx hl;rfl
 have b34:=F34.binds (ps:=["_law_names_here","_law_row_here"]) λ_ _ _ _ _ _ us hl=>by obtain⟨_,_,rfl⟩:=qFx hl;rfl
 have b35:=F35.binds (ps:=["_law_big_here","_law_many"]) λ_ _ _ _ _ _ us hl=>by obtain⟨_,_,rfl⟩:=qFx hl;rfl
 have b36:=F36.binds (ps:=["_law_script","_law_at"]) λ_ _ _ _ _ _ us hl=>by obtain⟨_,_,rfl⟩:=qFx hl;rfl
 have b37:=F37.binds (ps:=["_law_base"]) λ_ _ _ _ _ _ us hl=>by obtain⟨_,rfl⟩:=qV0 hl;rfl
 have b38:=F38.binds (ps:=["_law_base","_law_many"]) λ_ _ _ _ _ _ us hl=>by obtain⟨_,_,rfl⟩:=qFx hl;rfl
 have m38:=PySem.W.mg_of X G a38;have b39:=F39.binds (ps:=["_law_base","_law_mask_here"]) λ_ _ _ _ _ _ us hl=>by obtain⟨_,_,rfl⟩:=qFx hl;rfl
 have b40:=F40.binds (ps:=["_law_script","_law_at"]) λ_ _ _ _ _ _ us hl=>by obtain⟨_,_,rfl⟩:=qFx hl;rfl
 have b41:=F41.binds (ps:=["_law_script","_law_at"]) λ_ _ _ _ _ _ us hl=>by obtain⟨_,_,rfl⟩:=qFx hl;rfl
 have b42:=F42.binds (ps:=["_law_script","_law_at"]) λ_ _ _ _ _ _ us hl=>by obtain⟨_,_,rfl⟩:=qFx hl;rfl
 have b43:=F43.binds (ps:=["_law_rows"]) λ_ _ _ _ _ _ us hl=>by obtain⟨_,rfl⟩:=qV0 hl;rfl
 have b44:=F44.binds (ps:=["_law_found"]) λ_ _ _ _ _ _ us hl=>by obtain⟨_,rfl⟩:=qV0 hl;rfl
 have b45:=F45.binds (ps:=["_law_base","_law_sums_here","_law_groups"]) λ_ _ _ _ _ _ us hl=>by obtain⟨_,_,_,rfl⟩:=zDa hl;rfl
 have b46:=F46.binds (ps:=["_law_own_here","_law_many"]) λ_ _ _ _ _ _ us hl=>by obtain⟨_,_,rfl⟩:=qFx hl;rfl
 have b47:=F47.binds (ps:=["_law_names_here","_law_found"]) λ_ _ _ _ _ _ us hl=>by obtain⟨_,_,rfl⟩:=qFx hl;rfl
 have n_abs:=hBf X G z1;have n_all:=hBf X G z2;have n_any:=hBf X G z3;have n_enumerate:=hBf X G z4;have n_int:=hBf X G z5;have n_isinstance:=hBf X G z6;have n_len:=hBf X G z7;have n_list:=hBf X G z8;have n_max:=hBf X G z9;have n_min:=hBf X G z10;have n_range:=hBf X G z11;have n_reversed:=hBf X G z12;have n_set:=hBf X G z13;have n_sorted:=hBf X G z14;have n_str:=hBf X G z15;have n_sum:=hBf X G z16;have n_tuple:=hBf X G z17;have n_zip:=hBf X G z18;refine⟨PySem.W.fnOf "law" "law" (qDm qMz) (qCb qMz) (qAc qMz) .none kVN dcN pmN anN cdN ctN,λs v=>.of_eq rfl,λbase _ _ hC hB hC2 hB2=>?_⟩;have h1:=qXf (P:=l.prog) (w:=w) (mg:=mg) (base:=base) F1;have g1:=zBh (P:=l.prog) (w:=w) (mg:=mg) (base:=base) F1;have h2:=zBe (P:=l.prog) (w:=w) (base:=base) F2 n_len n_enumerate;have g2:=qXb (P:=l.prog) (w:=w) (base:=base) F2  n_len n_enumerate;have g3:=zBv (P:=l.prog) (w:=w) (base:=base) F3  n_min;have g4:=zBf (P:=l.prog) (w:=w) (base:=base) F4 ⟨g3,b3,k3,m3⟩ n_min n_sorted;have g5:=zBd (P:=l.prog) (w:=w) (base:=base) F5 ⟨g2,b2,k2,m2⟩ ⟨g4,b4,k4,m4⟩ n_list;have g6:=qW9 (P:=l.prog) (w:=w) (base:=base) F6 ⟨g1,b1,k1,m1⟩ ⟨g4,b4,k4,m4⟩;have g7:=qTn (P:=l.prog) (w:=w) (mg:=mg) (base:=base) F7;have g8:=qTm (P:=l.prog) (w:=w) (base:=base) F8 ⟨g7,b7,k7,m7⟩ n_len;have g9:=zBs (P:=l.prog) (w:=w) (base:=base) F9 ⟨g3,b3,k3,m3⟩;have g10:=zEg (P:=l.prog) (w:=w) (base:=base) F10 ⟨g7,b7,k7,m7⟩ ⟨g9,b9,k9,m9⟩;have g11:=qXa (P:=l.prog) (w:=w) (base:=base) F11 ⟨g10,b10,k10,m10⟩ ⟨h1,b1,k1,m1⟩ ⟨g4,b4,k4,m4⟩;have g12:=qXj (P:=l.prog) (w:=w) (base:=base) F12 ⟨g3,b3,k3,m3⟩;have g13:=qTl (P:=l.prog) (w:=w) (base:=base) F13 ⟨g12,b12,k12,m12⟩ n_range n_sum n_enumerate n_len;have g14:=qXk (P:=l.prog) (w:=w) (base:=base) F14 ⟨g13,b13,k13,m13⟩ ⟨g8,b8,k8,m8⟩ n_range;have g15:=zB1 (P:=l.prog) (w:=w) (base:=base) F15  n_len;have g17:=qTq (P:=l.prog) (w:=w) (base:=base) F17  n_sorted n_sum;have g16:=qL1 (P:=l.prog) (w:=w) (base:=base) F16 ⟨g11,b11,k11,m11⟩ ⟨g14,b14,k14,m14⟩ ⟨g15,b15,k15,m15⟩ ⟨h2,b2,k2,m2⟩ ⟨g17,b17,k17,m17⟩ b16 k16 m16 n_len 10;have g18:=qXe (P:=l.prog) (w:=w) (base:=base) F18  n_any;have g19:=qTo (P:=l.prog) (w:=w) (base:=base) F19  n_sorted;have g20:=qTp (P:=l.prog) (w:=w) (base:=base) F20 ⟨g18,b18,k18,m18⟩ ⟨g19,b19,k19,m19⟩;have g21:=qXc (P:=l.prog) (w:=w) (base:=base) F21 (qVa F21 a21 ht) hC hB ⟨g20,b20,k20,m20⟩ ⟨g16,b16,k16,m16⟩ ⟨g6,b6,k6,m6⟩ ⟨g2,b2,k2,m2⟩ n_len n_range n_reversed n_sorted;have g22:=zBg (P:=l.prog) (w:=w) (base:=base) F22 ⟨g1,b1,k1,m1⟩ ⟨g5,b5,k5,m5⟩ ⟨g11,b11,k11,m11⟩ ⟨g6,b6,k6,m6⟩;have g23:=zB3 (P:=l.prog) (w:=w) (base:=base) F23  n_len;have g24:=zEh (P:=l.prog) (w:=w) (base:=base) F24 ⟨g23,b23,k23,m23⟩ n_range n_abs;have g25:=qXd (P:=l.prog) (w:=w) (base:=base) F25  n_range n_len;have g26:=zB2 (P:=l.prog) (w:=w) (base:=base) F26  n_range n_len n_list;have g27:=zEe (P:=l.prog) (w:=w) (base:=base) F27 ⟨g24,b24,k24,m24⟩ ⟨g26,b26,k26,m26⟩ ⟨g25,b25,k25,m25⟩ n_len n_zip n_tuple n_sorted;have g28:=zBm (P:=l.prog) (w:=w) (mg:=mg) (base:=base) F28;have g29:=qXi (P:=l.prog) (w:=w) (base:=base) F29  n_sorted n_set n_enumerate;have g30:=zBw (P:=l.prog) (w:=w) (base:=base) F30 ⟨g28,b28,k28,m28⟩ n_sum n_range;have g31:=zBk (P:=l.prog) (w:=w) (base:=base) F31 ⟨g30,b30,k30,m30⟩ ⟨g28,b28,k28,m28⟩ n_sum n_range n_enumerate n_len;have g32:=zBo (P:=l.prog) (w:=w) (base:=base) F32  n_len;have g33:=zBl (P:=l.prog) (w:=w) (base:=base) F33  n_enumerate;have g34:=zBp (P:=l.prog) (w:=w) (base:=base) F34  n_sum;have g35:=zBu (P:=l.prog) (w:=w) (base:=base) F35  n_range;have g36:=zBj (P:=l.prog) (w:=w) (base:=base) F36 ⟨g24,b24,k24,m24⟩ ⟨g27,b27,k27,m27⟩ ⟨g29,b29,k29,m29⟩ ⟨g35,b35,k35,m35⟩ ⟨g31,b31,k31,m31⟩ ⟨g32,b32,k32,m32⟩ ⟨g28,b28,k28,m28⟩ n_len n_min;have g37:=zBi (P:=l.prog) (w:=w) (mg:=mg) (base:=base) F37;have g38:=zBx (P:=l.prog) (w:=w) (base:=base) F38 (qVa F38 a38 ht2) hC2 hB2  n_range n_sum n_sorted;have g39:=zBr (P:=l.prog) (w:=w) (base:=base) F39 ⟨g28,b28,k28,m28⟩ ⟨g37,b37,k37,m37⟩;have g40:=zBy (P:=l.prog) (w:=w) (base:=base) F40 ⟨g36,b36,k36,m36⟩ ⟨g25,b25,k25,m25⟩ ⟨g24,b24,k24,m24⟩ ⟨g33,b33,k33,m33⟩ ⟨g38,b38,k38,m38⟩ ⟨g39,b39,k39,m39⟩ n_len n_sorted n_max;have g41:=zBt (P:=l.prog) (w:=w) (base:=base) F41 ⟨g24,b24,k24,m24⟩ ⟨g25,b25,k25,m25⟩ n_len n_range n_sorted n_min n_list n_tuple n_str;have g42:=qXg (P:=l.prog) (w:=w) (base:=base) F42 ⟨g24,b24,k24,m24⟩ ⟨g41,b41,k41,m41⟩ ⟨g38,b38,k38,m38⟩ ⟨g28,b28,k28,m28⟩ ⟨g29,b29,k29,m29⟩ ⟨g40,b40,k40,m40⟩ ⟨g34,b34,k34,m34⟩ n_len;have g43:=qXh (P:=l.prog) (w:=w) (mg:=mg) (base:=base) F43;have g44:=zBz (P:=l.prog) (w:=w) (base:=base) F44 ⟨g43,b43,k43,m43⟩ n_isinstance n_all n_list n_tuple n_str n_len;have g45:=zBn (P:=l.prog) (w:=w) (base:=base) F45 ⟨g28,b28,k28,m28⟩ n_enumerate n_int;have g46:=zBq (P:=l.prog) (w:=w) (base:=base) F46  n_len n_range;have g47:=zB0 (P:=l.prog) (w:=w) (mg:=mg) (base:=base) F47;exact zEf F48 ⟨g42,b42,k42,m42⟩ ⟨g21,b21,k21,m21⟩ ⟨g33,b33,k33,m33⟩ ⟨g44,b44,k44,m44⟩ ⟨g47,b47,k47,m47⟩ ⟨g43,b43,k43,m43⟩ ⟨g45,b45,k45,m45⟩ ⟨g34,b34,k34,m34⟩ ⟨g22,b22,k22,m22⟩ ⟨g37,b37,k37,m37⟩ ⟨g46,b46,k46,m46⟩ n_len n_list n_range n_all n_sorted
theorem walk{l:PySem.W.OpenLaw}{q:Program}{loose:List Str}{XP:(Str->Option Value)->Heap->Prop}{YP:World->Heap->Prop}{d dr dr2:DefRec}{K:Params->PySem.W.Frag}(hn:l.most=some 63)(hdf:d.params.defaults=[])
  (hY:∀(w:World) (h:Heap),YP w h->(K w.params).In h) (hrec:(PyProof.Rows.recsOf q).find? (λe=>e.name == ("parts" : Str))=some dr) (hrec2:(PyProof.Rows.recsOf q).find? (λe=>e.name == ("_law_blocks" : Str))=some dr2)
  (hK:∀w:World,∃c T c2 T2,PySem.W.tabIn (K w.params) "parts"=some (c,T)/\PySem.W.tabIn (K w.params) "_law_blocks"=some (c2,T2)/\T≠T2/\PySem.W.noTabs (K w.params)=true)
  (F:∀(w:World) (mg:Str->Option Value) (fa:Addr) (h:Heap) (c T c2 T2:Addr),(K w.params).In h->h.Ns mainGlobals mg->mg d.name=some (.ref fa)->PySem.W.tabIn (K w.params) "parts"=some (c,T)->PySem.W.tabIn (K w.params) "_law_blocks"=some (c2,T2) ->
   ∃fd:FuncData,(∀(s:Shared) (u:Value),BindsTo s fd ⟨[u],[]⟩ [("_law_script",u)])/\∀base:Heap,(K w.params).In base->base.Ns mainGlobals mg->PySem.W.CodeHd base c T->base.BuiltinsAt mg T->PySem.W.CodeHd base c2 T2->base.BuiltinsAt mg T2->FnOk l.prog w (K w.params) mg base CX0 17 fa fd ["_law_script"] (qWb (K w.params) T T2)) :
  PySem.W.WalkO q loose XP YP l.row.toRowW d [] (λf vs=>PySem.call f vs) :=
 L2.walk_ofT2 (n:=63) (k:=17) (x:="_law_script") (CX:=λ_=>CX0) (sp:=λw T T2=>qWb (K w.params) T T2) hn (by decide) hdf ⟨rfl,by decide,by decide,rfl⟩ hY hrec hrec2 hK F (λ_ _ _ _ a ns hl ne hT hT2 hS=>⟨a,ns,rfl,hS,hl,hT,hT2,ne,λ_=>rfl⟩) λ_ _ _ _ _ z=>z
theorem tab_mk{K:PySem.W.Frag}{x:Str}{f c T:Addr}{ob ob2:Obj}{fd:FuncData}{vs:Array Value}(a:PySem.W.nsIn K mainGlobals x=some (some (.ref f)))(l:K.lookup f=some ob)(e1:ob.data = .func fd)(e2:fd.code = .ref c)(l2:K.lookup c=some ob2)(e3:ob2.data = .fields vs)(e4:(vs[11]?:Option Value)=some (.ref T)):PySem.W.tabIn K x=some (c,T):=by
 obtain⟨o1,o2,o3,o4⟩:=ob;obtain⟨p1,p2,p3,p4⟩:=ob2;cases e1;cases e3;unfold PySem.W.tabIn;rw[a];dsimp only;rw[l];dsimp only;rw[e2];dsimp only;rw[l2];dsimp only;rw[e4]
end My
structure PySem.W.Fast:Prop where
 (tw14719414728447448976 tw4001513353794550645 tw13090850087106214676 tw11781765083842134005 tw3662603390429683671 tw14865818942496729489 tw6393523502687467216 tw4368255422162155180 tw1885827981922105712 tw17186400316081050943 tw11286614145121027667 tw4706853758982909213 tw3094119136596911737 tw6360325987235957492 tw12690869761936923855 tw59148904474933550 tw9494804581610255216 tw5912021367466925689 tw17962757596821890450 tw9759081917329831353 tw15238620317745600012 tw2264060725424222984 tw1321248798511147718 tw13430113948058985934 tw6131904104031069174 tw16849040818498282856 tw10905926882987886559 tw17844484157848180983 tw13854913832214531798 tw10176534240965430624 tw6604493084792393535 tw14178066178595132979 tw1619146931959331802 tw10105566916716803946 tw7527976550293294213 tw2546763821698140283 tw12770651312871910551 tw3261461477008929925 tw1055848288738506877 tw17737890423313483568 tw15095434223364864828 tw3515797118822415191 tw11076374993112496792 tw222074795476188342 tw3210178368656232014 tw8295353307638886066 tw325682428901110624 tw8188842599825681668 tw1248732023164668263 tw16332893445250345082 tw7910274083174273970 tw9583046657613280788 tw12035259996799414708 tw15596110039599312805 tw12748778086037531259 tw14063434874817077348 tw14088876361204897379 tw6971514403843429955 tw4939094575325097663 tw3556071957585864878 tw9050970381040748694 tw2274485871577658283 tw1673476277663270752 tw8436776357008537852 tw13422124975952278749 tw11327959822799977283 tw10603605472899823371 tw13728734514529197783 tw15348117258716188370 tw3892519070618235402 tw15850423802626127111 tw2408388946668938226 tw2033349473573274818 tw17072186972138174823 tw16677545292942387250 tw16482238394243157685 tw158831523953376133 tw16752260285943205395 tw7863384739613736620 tw13085031923069762680 tw11414211940928841560 tw15414708861873108832 tw5175089343310244254 tw16122462719157074499 tw9461527843036868805 tw15493625980081707743 tw14034326263679691270 tw4564848265797663812 tw2735323051631441527 tw15537425153999650585 tw11379413962191139489 tw34703374440075301 tw16235465763826171333 tw4699348647593575333 tw5607191923903990155 tw14954511921853750524 tw15103345361569167137 tw7595478412362104462 tw5530741295492318758 tw7425400044412105149 tw594096852973405395 tw5094239096568974717 tw2816853854036079096 tw15892659535671560187 tw16956473708613720925 tw15672018887117394116 tw4018856686639202853 tw15690923401056738243 tw103536789292394032 tw2885578861647182943 tw6653462165108850489 tw8208336715092765620 tw11970007601528455967 tw2795827773371697107 tw5521993836756664780 tw12992687413824664397 tw2054254881315249230 tw757738011104839301 tw15814053801848431528 tw15685943170616403022 tw8935349677276535114 tw15349918781668671562 tw12052833884218154160 tw11113479337473765374 tw4143447947561130183 tw11880987746545702663 tw11418660268691364652 tw8741844808902387847 tw4961820072823587172 tw11610782576605271885 tw15148599140631657906 tw12554526936202953680 tw487137209897405302 tw3443556087079273815 tw1172204984916355212 tw16261741246246719922 tw632064842186988004 tw4642059827169916672 tw15371027515036336900 tw15046302690418170147 tw12026699887603255365 tw14558359419550134045 tw9582015433849060300 tw4237926549838228534 tw6348388203910068149 tw9827298897712637938 tw5652893760548917878 tw1953067883475141649 tw5071572331426448726 tw684326150145257947 tw6624921546406495813 tw8018269053628747726 tw7863579002108731939 tw6371885422929518851 tw6281100218013944854 tw580446832055375812 tw5766815584014086190 tw4604908051202335419 tw4457289852655686814 tw4290589511139851280 tw3834743776106986704 tw2684457318589668883 tw18364363236611999209 tw1763083194463776622 tw17537518914517406912:True)
open PySem PySem.W PyProof.Rows
set_option maxRecDepth 100000 in
set_option maxHeartbeats 0 in
theorem PySem.Challenge.cw_roundsalone_k32_kinds_of_parts_holds : PySem.Challenge.rw_roundsalone_k32_kinds_of_parts.Holds := by
 w_on;o_law;k_head;(case hw=>w_witness2)
 k_fill
 refine' My.walk (l:=PySem.Challenge.rw_roundsalone_k32_kinds_of_parts) rfl rfl (λw h Y=>PySem.W.km_in_of Y) ?hr ?hr2 ?Kt ?F
 case hr=>rfl
 case hr2=>rfl
 case Kt =>
  intro w
  refine'⟨_,_,_,_,My.tab_mk ?a ?l ?e1 ?e2 ?l2 ?e3 ?e4,My.tab_mk ?ab ?lb ?e1b ?e2b ?l2b ?e3b ?e4b,?ne,?n⟩
  (case a=>k_is)
  (case l=>k_is)
  (case e1=>rfl)
  (case e2=>rfl)
  (case l2=>k_is)
  (case e3=>rfl)
  (case e4=>rfl)
  (case ab=>k_is)
  (case lb=>k_is)
  (case e1b=>rfl)
  (case e2b=>rfl)
  (case l2b=>k_is)
  (case e3b=>rfl)
  (case e4b=>rfl)
  (case ne=>decide)
  (case n=>kernel_rfl)
 case F =>
  intro w mg fa h c T c2 T2 KX G hmg ht ht2
  refine' My.all_mk KX G hmg ht ht2 ?h1 ?h2 ?h3 ?h4 ?h5 ?h6 ?h7 ?h8 ?h9 ?h10 ?h11 ?h12 ?h13 ?h14 ?h15 ?h16 ?h17 ?h18 ?h19 ?h20 ?a21 ?l21 ?c21 ?k21 ?h22 ?h23 ?h24 ?h25 ?h26 ?h27 ?h28 ?h29 ?h30 ?h31 ?h32 ?h33 ?h34 ?h35 ?h36 ?h37 ?a38 ?l38 ?c38 ?k38 ?h39 ?h40 ?h41 ?h42 ?h43 ?h44 ?h45 ?h46 ?h47 ?a48 ?l48 ?c48 ?k48 ?z1 ?z2 ?z3 ?z4 ?z5 ?z6 ?z7 ?z8 ?z9 ?z10 ?z11 ?z12 ?z13 ?z14 ?z15 ?z16 ?z17 ?z18
  all_goals (try (refine' My.hs_mk ?a ?l ?c ?k;(case a=>k_is);(case l=>k_is);(case c=>k_is);(case k=>k_is)))
  (case a21=>k_is)
  (case l21=>k_is)
  (case c21=>k_is)
  (case k21=>k_is)
  (case a38=>k_is)
  (case l38=>k_is)
  (case c38=>k_is)
  (case k38=>k_is)
  (case a48=>k_is)
  (case l48=>k_is)
  (case c48=>k_is)
  (case k48=>k_is)
  (case z1=>k_is)
  (case z2=>k_is)
  (case z3=>k_is)
  (case z4=>k_is)
  (case z5=>k_is)
  (case z6=>k_is)
  (case z7=>k_is)
  (case z8=>k_is)
  (case z9=>k_is)
  (case z10=>k_is)
  (case z11=>k_is)
  (case z12=>k_is)
  (case z13=>k_is)
  (case z14=>k_is)
  (case z15=>k_is)
  (case z16=>k_is)
  (case z17=>k_is)
  (case z18=>k_is)
#print axioms PySem.Challenge.cw_roundsalone_k32_kinds_of_parts_holds
