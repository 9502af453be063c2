import PyProof.Rows.All
import Wide.All
import OpenK.AllK
import Wide.FinOn
import Lean
import PyProof.EqAt
import PyProof.EqKinds
import PyProof.TupleCall
import KE.KSortKey
import KE.KTryMore
import PyProof.DictWalks
import KE.KIsNot
import PyProof.ExcArgsOwn
import PyProof.WalkInts
import PyProof.FString5
import PyProof.ReprBulk
import PyProof.CollectStr
import PyProof.TupleOfSeq
import KE.KLam
import KE.KRevIter
import PyProof.FactsAll.range_2
import KE.KSortTup
import PySem.Challenge.RW_roundsalone_k70_lists_looked_at
noncomputable section
set_option Elab.async false
set_option linter.all false
set_option maxHeartbeats 16000000
set_option maxRecDepth 100000
open List renaming length_map→hA4,getElem?_eq_getElem→hA8,getD_eq_getElem?_getD→hAa,mem_cons_self→hAb,getElem?_map→hAc,mem_singleton→hAd,mem_cons_of_mem→hAe,map_append→hAf,mem_cons→hAg,length_append→hAk,mem_map→hAm,map_cons→hAn,mem_append→hAp,mem_append_right→hAq,mem_map_of_mem→hAr,mem_of_getElem?→hAs,size_toArray→hAu,mem_range→hAw,mem_append_left→hAx,getElem?_eq_some_iff→hAz,length_range→hB1,length_take→hB2,nodup_append→hB6,nodup_cons→hB7,length_singleton→hBf,length_cons→hBg,take_length→hBh,map_map→hBi,length_filter_le→hBj,filter_append→hBk,perm_ext_iff_of_nodup→hBm,append_nil→hBr,flatten_cons→hBt,range_succ→hBv,take_of_length_le→hBw,cons_append→hBx,getElem_mem→hBy,mem_filter→hC0,getElem?_eq_none→hC2,pairwise_map→hC3,any_eq_true→hC5,not_mem_nil→hC6,length_drop→hC8,map_congr_left→hC9,countP_congr→hCa,getElem?_range→hCb,filter_cons→hCd,mem_flatten→hCe,nodup_nil→hCf,flatMap_append→hCi,any_cons→hCj,append_assoc→hCk,filter_cons_of_pos→hCl,filter_cons_of_neg→hCm,filter_nil→hCr,mem_or_eq_of_mem_set→hCs,nodup_range→hCt,countP_cons→hCu,filterMap_cons→hCv,getElem_of_mem→hCx,length_set→hCz,length_eq_zero_iff→hD2,pairwise_cons→hD4,length_take_le'→hD7,getElem?_append_right→hD8,flatMap_cons→hDb,nil_append→hDd,mem_of_mem_take→hDf,countP_eq_length_filter→hDh,ext_getElem?→hDk,filter_sublist→hDm,idxOf_lt_length_of_mem→hDn,lookup_cons→hDo,mem_iff_getElem?→hDp,mem_of_mem_erase→hDq,take_append_drop→hDr,getElem?_append_left→hDu,getElem?_set_ne→hDv,count_append→hDy,count_cons→hDz,countP_map→hE0,flatten_append→hE7,length_eraseIdx_le→hE8,all_eq_true→hE9,getElem_map→hEa,getElem?_set_self→hEb,filter_eq_nil_iff→hEd,append_of_mem→hEf,find?_cons→hEg,cons_lt_cons_iff→hEi,reverse_cons→hEj,filter_congr→hEk,mem_of_mem_drop→hEl,perm_iff_count→hEn,length_reverse→hEo
open Option.some renaming inj→hAh
open Nat renaming le_refl→hAj,ne_of_lt→hAt,zero_le→hAy,lt_succ_of_lt→hB5,le_trans→hBa,lt_of_lt_of_le→hBc,le_succ→hBl,lt_succ_self→hBp,lt_irrefl→hBu,le_of_lt→hBz,ne_of_gt→hCn,not_lt_zero→hD6,add_le_add_right→hDw
open Bool renaming false_ne_true→hAo,eq_iff_iff→hBq,and_eq_true→hC4,false_eq_true→hDs
open Array renaming getElem?_eq_getElem→hAv,getElem?_toList→hB0,getD_eq_getD_getElem?→hB9,length_toList→hBb,getElem?_eq_none→hCg,perm_iff_toList_perm→hD9
open List.cons renaming injEq→hB4
open Int renaming toNat_natCast→hB8,eq_ofNat_of_zero_le→hCc,emod_lt_of_pos→hCo,emod_nonneg→hD5,zero_add→hDt
open PySem renaming boot_len→hBd,mem_of_lookup→hC7,evalArgs_none→hEm,wpAny_bind→hEp,wpAny_pure→hEq,wpAny_newObj_type→hEw,wpAny_call_entry→hEx,wpAny_holding→hEy,wpAny_mono→hF2,codeAny_builtin→hF3,wpAny_setField_rec→hF4,wpAny_askSetting→hF5,fits_of_scanBound→hF6,wpAny_setState_of→hF7,wpAny_pyIter_slot→hF8,wpAny_standAt→hF9,wpAny_typeNameOfWhole_itemiter→hFa,wpAny_typeNameOfWhole_keyiter→hFb,wpAny_pyIter_list→hFc,pushCells_keeps→hFd,wpAny_setEntries_of→hFe,wpAny_notOrdered_dict→hFh,sizeLine_eq→hFi,wpAny_fieldsOf→hFj,wpAny_passesOwn→hFk,wpAny_comprehension_free→hFl,wpAny_setEpoch_of→hFn,wpAny_dictEntries→hFo,wpAny_Call_method0_late→hFp,plainId_quiet→hFq,wpAny_attempt→hFr,wpAny_isInstance→hFt,tupleKind_room_in1→hFu,codeAny_mono→hFw,wpAny_dictEpoch→hFx,wpAny_truthy_bool→hFy,wpAny_rule→hFz,wpAny_newList→hG1,wpAny_Call_Name_kw→hG2,wpAny_storeSet_of→hG4,wpAny_runValue→hG7,wpAny_newTuple→hG8,wpAny_execs_nil→hG9,wpAny_specialOf→hGa,codeAny_of_tree→hGb,isSubtype_stop→hGc
open List.Nodup renaming length_le_of_subset→hBe
open PySem.F renaming called_set→hBn,plainAttrs_list→hBo,slot_dict_itemiterator_iter→hCw,plainAttrs_dict→hDg,slot_dict_values→hDx,slot_list_append→hE1,type_list_append→hE2,slot_list_insert→hE3,type_list_insert→hE4,plain_list_iadd→hE5,slot_dict_items→hE6,slot_set_iter→hEh
open PySem.W renaming mg_none_of→hBs,kia_one→hCp,cellsFrom_some→hEc
open PyProof.Rows.F renaming plain_set_update_loop→hC1,entry_set_update_loop→hCq
open List.Pairwise renaming imp_of_mem→hCh
open Option renaming isSome_iff_exists→hCy,map_some→hD0,getD_some→hDe,isSome_some→hEe
open Prod.mk renaming inj→hDa
open List.Perm renaming refl→hDc
open PyProof.Rows renaming callWith_type1→hDl,listUpdate_at→hFs,size_push'→hG5
abbrev hEr:=@if_neg
abbrev hEs:=@if_pos
abbrev hEt:=@decide_eq_true
abbrev hEu:=@decide_eq_false
abbrev hEv:=@decide_eq_true_iff
abbrev hEz:=@of_decide_eq_true
abbrev hFf:=@beq_self_eq_true
abbrev hFg:=@if_false
abbrev hFv:=@or_false
abbrev hG3:=@if_true
abbrev hG6:=@beq_iff_eq
set_option hygiene false
local macro_rules
|`(kO1)=>`((by intro vs H Q E h;repeat (first|(obtain⟨e,_⟩:=h;subst e;rfl)|(obtain⟨_,h⟩:=h))))
|`(kO2)=>`((by first|exact .inl rfl|exact .inr rfl|assumption))
|`(kO3)=>`((by first|exact Or.inl rfl|exact Or.inr (Or.inl rfl)|exact Or.inr (Or.inr rfl)))
|`(kO4)=>`((by first|exact qT7 _ (by decide) (by decide)|rfl))
namespace L2
open PySem PySem.Spec PyProof.Rows
abbrev Key:=Sum Int Str
noncomputable def keyIs:Key->Value->Bool
 |.inl k,v=>Value.isInt k v
 |.inr x,v=>Value.isStrOf x v
noncomputable def zCw(w:World):Key->Int
 |.inl k=>hashInt k
 |.inr x=>hashStr w x
theorem qBb:∀ {k:Key} {v:Value},keyIs k v=true->(∃i t,k=Sum.inl i/\v=Value.int i t)\/(∃x t,k=Sum.inr x/\v=Value.str x t)
 |.inl i,v,h=>by
  obtain⟨t,e⟩:=Value.isInt_shape (k:=i) (v:=v) h;exact .inl ⟨i,t,rfl,e⟩
 |.inr x,v,h=>by
  obtain⟨t,e⟩:=Value.isStrOf_shape (x:=x) (v:=v) h;exact .inr ⟨x,t,rfl,e⟩
theorem qRw(i:Int)(t:Tok):keyIs (.inl i) (.int i t)=true:=by simp[keyIs,Value.isInt]
theorem qRv(x:Str)(t:Tok):keyIs (.inr x) (.str x t)=true:=by simp[keyIs,Value.isStrOf]
theorem qZ5(a b:Int):decide ((Sum.inl a:Key)=Sum.inl b)=(a == b):=by
 by_cases e:a=b
 ·subst e;simp
 ·have h:¬(Sum.inl a:Key)=Sum.inl b:=λq=>e (Sum.inl.inj q)
  rw[hEu h];exact(beq_eq_false_iff_ne.mpr e).symm
theorem qZ2(a b:Str):decide ((Sum.inr a:Key)=Sum.inr b)=decide (a=b):=by
 by_cases e:a=b
 ·subst e;simp
 ·have h:¬(Sum.inr a:Key)=Sum.inr b:=λq=>e (Sum.inr.inj q)
  rw[hEu h,hEu e]
theorem qZ4(a:Int)(b:Str):decide ((Sum.inl a:Key)=Sum.inr b)=false:=hEu (λq=>nomatch q)
theorem qZ3(a:Str)(b:Int):decide ((Sum.inr a:Key)=Sum.inl b)=false:=hEu (λq=>nomatch q)
noncomputable def qAu(prog:Program)(w:World):PySem.KeyKind prog w Key where
 is:=keyIs
 hash:=zCw w
 inj:=λv a b ha hb=>by
  rcases qBb ha with ⟨i,t,rfl,rfl⟩|⟨x,t,rfl,rfl⟩
  ·rcases qBb hb with ⟨j,u,rfl,e⟩|⟨y,u,rfl,e⟩
   ·injection e with e1 _;rw[e1]
   ·exact nomatch e
  ·rcases qBb hb with ⟨j,u,rfl,e⟩|⟨y,u,rfl,e⟩
   ·exact nomatch e
   ·injection e with e1 _;rw[e1]
 byValue:=λk v h=>by
  rcases qBb h with ⟨i,t,rfl,rfl⟩|⟨x,t,rfl,rfl⟩ <;> rfl
 pyHash:=λhv h=>by
  rcases qBb hv with ⟨i,t,rfl,rfl⟩|⟨x,t,rfl,rfl⟩
  ·exact wpAny_pyHash_int h
  ·exact wpAny_pyHash_str h
 eqBool:=λhu hv h=>by
  rcases qBb hu with ⟨i,t,rfl,rfl⟩|⟨x,t,rfl,rfl⟩
  ·rcases qBb hv with ⟨j,u,rfl,rfl⟩|⟨y,u,rfl,rfl⟩
   ·rw[qZ5]at h;exact wpAny_eqBool_int h
   ·rw[qZ4]at h;exact SeqAt.EqAt.int_str i t y u _ _ _ _ h
  ·rcases qBb hv with ⟨j,u,rfl,rfl⟩|⟨y,u,rfl,rfl⟩
   ·rw[qZ3]at h;exact SeqAt.EqAt.str_int x t j u _ _ _ _ h
   ·rw[qZ2]at h;exact wpAny_eqBool_str h
 «strs»:=λk x t v h=>by
  rcases qBb h with ⟨i,u,rfl,e⟩|⟨y,u,rfl,e⟩
  ·exact nomatch e
  ·injection e with e1 _
   subst e1;cases v <;> rfl
theorem qMh(prog:Program)(w:World)(i:Int)(t:Tok):(qAu prog w).is (.inl i) (.int i t)=true:=qRw i t
theorem qMg(prog:Program)(w:World)(x:Str)(t:Tok):(qAu prog w).is (.inr x) (.str x t)=true:=qRv x t
inductive V where
 |non|bl (b:Bool)|int (i:Int)|str (x:Str)|byt (b:Array UInt8)|flt (b:UInt64)|ref (a:Addr)|ty (n:String)
 deriving DecidableEq
def qBx:V->Value->Prop
 |.non,u=>u=Value.none
 |.bl b,u=>u=Value.bool b
 |.int i,u=>∃t,u=Value.int i t
 |.str x,u=>∃t,u=Value.str x t
 |.byt b,u=>∃t,u=Value.bytes b t
 |.flt b,u=>∃t,u=Value.float b t
 |.ref a,u=>u=Value.ref a
 |.ty n,u=>u=Value.type n
abbrev qBd:List V->List Value->Prop:=Paired qBx
theorem qBd.length{xs:List V}{us:List Value}(r:qBd xs us):xs.length=us.length:=Paired.length r
theorem qBd.get:∀ {xs:List V} {us:List Value} {i:Nat} {x:V},qBd xs us->xs[i]?=some x->∃u,us[i]?=some u/\qBx x u
 |_,_,_,_,.nil,e=>by simp at e
 |_,_,0,_,.cons r _,e=>by simp at e;subst e;exact⟨_,rfl,r⟩
 |_,_,i+1,x,.cons _ t,e=>by
  obtain⟨u,h1,h2⟩:=qBd.get (i:=i) (x:=x) t (by simpa using e);exact⟨u,by simpa using h1,h2⟩
theorem qBd.set{x:V}{u:Value}(r:qBx x u):∀ {xs:List V} {us:List Value} (i:Nat),qBd xs us->qBd (xs.set i x) (us.set i u)
 |_,_,_,.nil=>.nil
 |_,_,0,.cons _ t=>.cons r t
 |_,_,i+1,.cons q t=>.cons q (qBd.set r i t)
theorem qBd.append:∀ {xs ys:List V} {us ws:List Value},qBd xs us->qBd ys ws->qBd (xs++ys) (us++ws)
 |_,_,_,_,.nil,s=>s
 |_,_,_,_,.cons r t,s=>.cons r (qBd.append t s)
theorem qBd.take:∀ {xs:List V} {us:List Value} (n:Nat),qBd xs us->qBd (xs.take n) (us.take n)
 |_,_,0,_=>.nil
 |_,_,_+1,.nil=>.nil
 |_,_,n+1,.cons r t=>.cons r (qBd.take n t)
theorem qBd.drop:∀ {xs:List V} {us:List Value} (n:Nat),qBd xs us->qBd (xs.drop n) (us.drop n)
 |_,_,0,r=>r
 |_,_,_+1,.nil=>.nil
 |_,_,n+1,.cons _ t=>qBd.drop n t
def qPr:Option V->Option Value->Prop
 |some v,some u=>qBx v u
 |none,none=>True
 |_,_=>False
def KV{κ:Type}:List (κ×V)->List (κ×Value)->Prop:=Paired λ(p:κ×V) (q:κ×Value)=>p.1=q.1/\qBx p.2 q.2
noncomputable def kV:Key->V
 |.inl i=>.int i
 |.inr x=>.str x
inductive HO where
  |lst (xs:List V)
  |tup (xs:List V)
  |dK (kvs:List (Key×V))|dT (kvs:List (List Key×V))
  |set (S:Int->Bool) (n:Nat)
  |ins (C dx:Addr) (fs:List (Str×V))
  |own (x:Addr)
  |xd (fs:List (Str×V))
  |met (f x:Addr)
  |rng (lo hi:Int)
  |frz (o:Obj) (u:HO)
  |tbl (ps:Array Value)
  |ext (φ:Heap->Prop)
abbrev Hp:=Addr->Option HO
noncomputable def upd(H:Hp)(a:Addr)(o:HO):Hp:=λb=>if b=a then some o else H b
theorem upd_same{H:Hp}{a:Addr}{o:HO}:upd H a o a=some o:=by unfold upd;rw[hEs rfl]
theorem qAb{H:Hp}{a b:Addr}{o:HO}(h:b≠a):upd H a o b=H b:=by unfold upd;rw[hEr h]
theorem zBh{H:Hp}{a b:Addr}{o u:HO}(h:H a=some o)(h':H b=some u)(d:o≠u):a≠b:=by
 intro e;subst e;rw[h]at h';exact d (hAh h')
theorem qAp{H:Hp}{a b:Addr}{o:HO}(h:H a=some o)(h':H b=none):a≠b:=by
 intro e;subst e;rw[h]at h';cases h'
section
variable(P:Program)(w:World)
def qB9(H:Hp)(h:Heap)(a:Addr):HO->Prop
 |.lst xs=>xs.length<=sizeLine/\∃(its:List Value) (n:Nat),qBd xs its/\h.get? a=some { cls:=.type "list",data:=.seq its.toArray n }
 |.tup xs=>xs.length<=sizeLine/\∃its:List Value,qBd xs its/\IsTup h a its.toArray
 |.dK kvs=>kvs.length<=sizeLine/\(a == sysModules)=false/\∃vs,KV kvs vs/\h.DictOf (qAu P w) a vs
 |.dT kvs=>kvs.length<=sizeLine/\(a == sysModules)=false/\∃xs:List (List Key×Addr×Value),
   Paired (λ(p:List Key×V) (q:List Key×Addr×Value)=>p.1=q.1/\H q.2.1=some (.tup (p.1.map kV))/\qBx p.2 q.2.2) kvs xs /\
   ∃o es ep,h.get? a=some o/\o.ExactDict/\o.data = .dict es ep/\es.toList=xs.map (entryOfKey (tupleKind (qAu P w)))/\(xs.map (·.1)).Nodup
 |.set S n=>h.SetOf (intKind P w) a S n
 |.ins C dx fs=>H dx=some (.own a)/\fs.length<=1000/\dx≠a/\h.get? a=some (PySem.W.instObj C dx) /\
   ∃mA,h.Ns1 dx mA/\(∀f,qPr (fs.lookup f) (mA f))/\PySem.Within mA (fs.map (·.1))
 |.own _=>∃o,h.get? a=some o
 |.xd fs=>∃mA,h.Ns1 a mA/\∀f,qPr (fs.lookup f) (mA f)
 |.rng lo hi=>∃t u v,h.get? a=some { cls:=.type "range",data:=.fields #[.int lo t,.int hi u,.int 1 v] }
 |.frz o u=>h.get? a=some o/\qB9 H h a u
 |.tbl ps=>h.get? a=some { cls:=.none,data:=.fields ps }
 |.met f x=>h.get? a=some (PySem.W.methodObj (.ref f) (.ref x))
 |.ext φ=>φ h/\(∃o,h.get? a=some o)/\∀h1 h2:Heap,φ h1->(∀o,h1.get? a=some o->h2.get? a=some o)->φ h2
def HOk(H:Hp)(h:Heap):Prop:=∀a o,H a=some o->qB9 P w H h a o
end
section
variable{P:Program}{w:World}{H H':Hp}{h h':Heap}{a:Addr}{o:HO}
theorem qB9.lt(x:qB9 P w H h a o):a<h.objs.size:=by
 cases o with
 |lst xs=>obtain⟨_,_,_,_,e⟩:=x;exact Heap.lt_size e
 |tup xs=>obtain⟨_,_,_,p⟩:=x;exact p.lt
 |dK kvs=>obtain⟨_,_,_,_,o,_,_,e,_⟩:=x;exact Heap.lt_size e
 |dT kvs=>obtain⟨_,_,_,_,o,_,_,e,_⟩:=x;exact Heap.lt_size e
 |set S n=>obtain⟨o,_,_,_,e,_⟩:=x;exact Heap.lt_size e
 |ins C dx fs=>obtain⟨_,_,_,e,_⟩:=x;exact Heap.lt_size e
 |own y=>obtain⟨_,e⟩:=x;exact Heap.lt_size e
 |xd fs=>obtain⟨_,⟨_,_,_,e,_⟩,_⟩:=x;exact Heap.lt_size e
 |rng lo hi=>obtain⟨_,_,_,e⟩:=x;exact Heap.lt_size e
 |frz ob u=>obtain⟨e,_⟩:=x;exact Heap.lt_size e
 |tbl ps=>exact Heap.lt_size (show h.get? a=some _ from x)
 |met f y=>exact Heap.lt_size (show h.get? a=some _ from x)
 |ext φ=>obtain⟨_,⟨_,e⟩,_⟩:=x;exact Heap.lt_size e
theorem Paired.mapP{α β:Type}{F G:α->β->Prop}:∀ {l₁:List α} {l₂:List β},Paired F l₁ l₂->(∀a b,F a b->G a b)->Paired G l₁ l₂
 |_,_,.nil,_=>.nil
 |_,_,.cons r t,f=>.cons (f _ _ r) (Paired.mapP t f)
theorem qB9.stay(x:qB9 P w H h a o)(k:∀b u,(b=a\/H b=some (.own a))->h.get? b=some u->h'.get? b=some u)
  (ho:∀b,H b=some (.own a)->H' b=some (.own a)) (ht:∀b xs,H b=some (.tup xs)->H' b=some (.tup xs)):qB9 P w H' h' a o:=by
 induction o with
 |lst xs=>obtain⟨z,its,n,r,e⟩:=x;exact⟨z,its,n,r,k _ _ (.inl rfl) e⟩
 |tup xs=>obtain⟨z,its,r,ob,e,c⟩:=x;exact⟨z,its,r,ob,k _ _ (.inl rfl) e,c⟩
 |dK kvs=>obtain⟨z,y,vs,r,ob,es,ep,e,c⟩:=x;exact⟨z,y,vs,r,ob,es,ep,k _ _ (.inl rfl) e,c⟩
 |dT kvs =>
  obtain⟨z,y,xs,r,ob,es,ep,e,c⟩:=x;exact⟨z,y,xs,Paired.mapP r λp q z=>⟨z.1,ht _ _ z.2.1,z.2.2⟩,ob,es,ep,k _ _ (.inl rfl) e,c⟩
 |set S n=>obtain⟨ob,es,ep,t,e,c⟩:=x;exact⟨ob,es,ep,t,k _ _ (.inl rfl) e,c⟩
 |ins C dx fs =>
  obtain⟨d,z,ne,e,mA,⟨od,es,ep,e2,c⟩,r⟩:=x;exact⟨ho _ d,z,ne,k _ _ (.inl rfl) e,mA,⟨od,es,ep,k _ _ (.inr d) e2,c⟩,r⟩
 |own y=>obtain⟨ob,e⟩:=x;exact⟨ob,k _ _ (.inl rfl) e⟩
 |xd fs=>obtain⟨mA,⟨od,es,ep,e,c⟩,r⟩:=x;exact⟨mA,⟨od,es,ep,k _ _ (.inl rfl) e,c⟩,r⟩
 |rng lo hi=>obtain⟨t,u,v,e⟩:=x;exact⟨t,u,v,k _ _ (.inl rfl) e⟩
 |frz ob u ih=>obtain⟨e,q⟩:=x;exact⟨k _ _ (.inl rfl) e,ih q⟩
 |tbl ps =>
  have e:h.get? a=some { cls:=.none,data:=.fields ps }:=x;show h'.get? a=some { cls:=.none,data:=.fields ps };exact k a _ (.inl rfl) e
 |met f y =>
  have e:h.get? a=some (PySem.W.methodObj (.ref f) (.ref y)):=x;show h'.get? a=some (PySem.W.methodObj (.ref f) (.ref y));exact k a _ (.inl rfl) e
 |ext φ=>obtain⟨p,⟨o,e⟩,st⟩:=x;exact⟨st _ _ p λo q=>k _ _ (.inl rfl) q,⟨o,k _ _ (.inl rfl) e⟩,st⟩
theorem HOk.lt(x:HOk P w H h)(e:H a=some o):a<h.objs.size:=(x a o e).lt
theorem HOk.fresh(x:HOk P w H h)(e:h.objs.size<=a):H a=none:=by
 cases q:H a with
 |none=>rfl
 |some u=>exact absurd (hBc (x.lt q) e) (hBu _)
theorem HOk.kept(x:HOk P w H h)(k:∀b u,h.get? b=some u->h'.get? b=some u):HOk P w H h':=λa o e =>
 (x a o e).stay (λb u _ q=>k b u q) (λ_ q=>q) λ_ _ q=>q
theorem HOk.laid(x:HOk P w H h)(k:∀b u,h.get? b=some u->h'.get? b=some u)(hp:h.objs.size<=a)(new:qB9 P w (upd H a o) h' a o):HOk P w (upd H a o) h':=λb u e=>by
 have hn:=x.fresh hp;by_cases hb:b=a
 ·subst hb;rw[upd_same]at e;cases e;exact new
 ·rw[qAb hb]at e;exact(x b u e).stay (λc v _ q=>k c v q) (λc q=>by rw[qAb (qAp q hn)];exact q) λc xs q=>by rw[qAb (qAp q hn)];exact q
end
def Rd(H:Hp)(a:Addr)(u:HO):Prop:=H a=some u\/∃o,H a=some (.frz o u)
theorem Rd.ok{P:Program}{w:World}{H:Hp}{h:Heap}{a:Addr}{u:HO}(r:Rd H a u)(x:HOk P w H h):qB9 P w H h a u:=by
 rcases r with r|⟨o,r⟩
 ·exact x a u r
 ·obtain⟨_,q⟩:=x a _ r;exact q
def Mut:Option HO->Prop
 |some (.lst _)=>True
 |some (.dK _)=>True
 |some (.dT _)=>True
 |some (.set _ _)=>True
 |some (.ins _ _ _)=>True
 |some (.ext _)=>True
 |_=>False
section
variable{P:Program}{w:World}{H:Hp}{h h':Heap}{x e:Addr}{o':HO}
theorem HOk.write(ok:HOk P w H h)(mu:Mut (H x))(he:e=x\/H e=some (.own x))(k:∀b u,b≠e->h.get? b=some u->h'.get? b=some u)(heo:∃u,h'.get? e=some u)
  (new:qB9 P w (upd H x o') h' x o'):HOk P w (upd H x o') h':=λb u q=>by
 have nown:∀c y,H c=some (.own y)->c≠x:=λc y r z=>by subst z;rw[r]at mu;exact mu
 have ntup:∀c xs,H c=some (.tup xs)->c≠x:=λc xs r z=>by subst z;rw[r]at mu;exact mu
 by_cases hb:b=x
 ·subst hb;rw[upd_same]at q;cases q;exact new
 ·rw[qAb hb]at q;by_cases hbe:b=e
  ·have q':H b=some (.own x):=by
    rcases he with z|z
    ·exact absurd (hbe.trans z) hb
    ·rw[hbe];exact z
   rw[q]at q';cases q';obtain⟨v,hv⟩:=heo;exact⟨v,by rw[hbe];exact hv⟩
  ·refine(ok b u q).stay (λc v hc r=>k c v ?_ r) (λc r=>by rw[qAb (nown c b r)];exact r) λc xs r=>by rw[qAb (ntup c xs r)];exact r
   rcases hc with rfl|hc
   ·exact hbe
   ·rintro rfl;rcases he with z|z
    ·exact nown c b hc z
    ·rw[hc]at z;cases z;exact hb rfl
end
structure Un(fs ex:List Addr)(H H':Hp)(h h':Heap):Prop where
 keep:∀b o,h.get? b=some o->H b=none->b∉fs->b∉ex->h'.get? b=some o
 slot:∀b o,h.get? b=some o->H b=none->b∈fs->b∉ex->∃sl,h'.get? b=some { o with slots:=sl }
 free:∀b o,h.get? b=some o->H b=none->b∉ex->H' b=none
 there:∀b o,h.get? b=some o->b∉ex->∃o',h'.get? b=some o'
 tups:∀b xs,H b=some (.tup xs)->H' b=some (.tup xs)
 frzs:∀b o u,H b=some (.frz o u)->H' b=some (.frz o u)
 tbls:∀b ps,H b=some (.tbl ps)->∃more,H' b=some (.tbl (ps++more))
section
variable{fs fs' ex ex':List Addr}{H H1 H2:Hp}{h h1 h2 h':Heap}{a x e:Addr}{o:HO}
theorem Un.any(u:Un fs ex H H1 h h1){b:Addr}{ob:Obj}(q:h.get? b=some ob)(n:H b=none)(hx:b∉ex):∃sl,h1.get? b=some { ob with slots:=sl }:=by
 by_cases hb:b∈fs
 ·exact u.slot b ob q n hb hx
 ·exact⟨ob.slots,u.keep b ob q n hb hx⟩
theorem Un.kept(k:∀b u,h.get? b=some u->h'.get? b=some u):Un fs ex H H h h' :=
 ⟨λb ob q _ _ _=>k b ob q,λb ob q _ _ _=>⟨ob.slots,k b ob q⟩,λ_ _ _ n _=>n,λb ob q _=>⟨ob,k b ob q⟩,λ_ _ q=>q,λ_ _ _ q=>q,λ_ ps q=>⟨#[],by rw[q];simp⟩⟩
theorem Un.refl:Un fs ex H H h h:=Un.kept λ_ _ q=>q
theorem Un.laid(k:∀b u,h.get? b=some u->h'.get? b=some u)(hp:h.objs.size<=a)(hn:H a=none):Un fs ex H (upd H a o) h h' where
 keep:=λb u q _ _ _=>k b u q
 slot:=λb u q _ _ _=>⟨u.slots,k b u q⟩
 free:=λb u q n _=>by rw[qAb (hAt (hBc (Heap.lt_size q) hp))];exact n
 there:=λb u q _=>⟨u,k b u q⟩
 tups:=λb xs q=>by rw[qAb (qAp q hn)];exact q
 frzs:=λb u xs q=>by rw[qAb (qAp q hn)];exact q
 tbls:=λb ps q=>⟨#[],by rw[qAb (qAp q hn),q];simp⟩
theorem Un.write(mu:Mut (H x))(he:e=x\/H e=some (.own x))(k:∀b u,b≠e->h.get? b=some u->h'.get? b=some u)(heo:∃u,h'.get? e=some u):Un fs ex H (upd H x o) h h':=by
 have hx:∀b,H b=none->b≠x:=λb n z=>by subst z;rw[n]at mu;exact mu
 have hb:∀b,H b=none->b≠e:=λb n z=>by
  subst z;rcases he with r|r
  ·exact hx b n r
  ·rw[n]at r;cases r
 have hm:∀b u,H b=some u->¬Mut (some u)->b≠x:=λb u q nm z=>by subst z;rw[q]at mu;exact nm mu
 refine⟨λb u q n _ _=>k b u (hb b n) q,λb u q n _ _=>⟨u.slots,k b u (hb b n) q⟩,λb u q n _=>by rw[qAb (hx b n)];exact n,λb u q _=>?_,
  λb xs q=>by rw[qAb (hm b _ q λz=>z)];exact q,λb u xs q=>by rw[qAb (hm b _ q λz=>z)];exact q,λb ps q=>⟨#[],by rw[qAb (hm b _ q λz=>z),q];simp⟩⟩
 by_cases hbe:b=e
 ·subst hbe;exact heo
 ·exact⟨u,k b u hbe q⟩
end
noncomputable def trk(h:Heap)(H:Hp):List Addr:=(List.range h.objs.size).filter λa=>(H a).isSome
def qUd(h:Heap)(H:Hp):Heap:=PySem.W.hideAll h (trk h H)
theorem qR8(h:Heap)(H:Hp):(qUd h H).objs.size=h.objs.size:=PySem.W.hideAll_size _ _
theorem qUc{h:Heap}{H:Hp}{b:Addr}{o:Obj}(e:h.get? b=some o)(n:H b=none):(qUd h H).get? b=some o :=
 PySem.W.hideAll_get _ e λhm=>by
  have q:(H b).isSome=true:=(hC0.mp hm).2;rw[n]at q;simp at q
theorem qXm{h:Heap}{H:Hp}{b:Addr}{o:Obj}(e:(qUd h H).get? b=some o):h.get? b=some o/\H b=none:=by
 have e':h.get? b=some o:=PySem.W.of_hideAll (trk h H) e;refine⟨e',?_⟩;cases q:H b with
 |none=>rfl
 |some x =>
  have hm:b∈trk h H:=hC0.mpr ⟨hAw.mpr (Heap.lt_size e'),by simp[q]⟩;have z:(qUd h H).get? b=none:=PySem.W.hideAll_none (trk h H) hm;rw[z]at e;cases e
noncomputable def qYe(g h:Heap)(L:Addr):List (Addr×Obj):=(List.range h.objs.size).filterMap λa=>if a=L\/(g.get? a).isSome=true then none else (h.get? a).map λo=>(a,o)
noncomputable def rest(g h:Heap)(L d:Addr):List (Addr×Obj):=(qYe g h L).filter λp=>decide (p.1≠d)
structure Mod(K:PySem.W.Frag)(mg:Str->Option Value)(base:Heap):Prop where
 kin:K.In base
 glob:base.Ns mainGlobals mg
 blt:∃mb,base.Ns builtinsNs mb/\∀x:Str,x≠"__name__"->mb x=bootBuiltins x
 nolimit:base.NoLimit
structure Cx where
 prog:Program
 w:World
 K:PySem.W.Frag
 mg:Str->Option Value
 base:Heap
 A:Around
 N:List Str
 s₀:Shared
 H₀:Hp
 env:Env
 outer:List Env
 stack:List Env
 ex:List Addr
 fn:Str->Bool
 calm:Bool
 pn:List (Addr×Obj)
 xe:Value->Shared->Prop
noncomputable def frs(l:List Env):List Addr:=l.filterMap (·.frame)
noncomputable abbrev Cx.fs(X:Cx):List Addr:=frs X.outer
def Vis(sc:Scope)(x:Str):Prop:=sc.names.lookup x=some .local\/sc.names.lookup x=some .cell\/sc.names.lookup x=some .free
def Loc(sc:Scope)(x:Str):Prop:=sc.names.lookup x=some .local\/sc.names.lookup x=some .cell
def zC8(env:Env)(h:Heap)(m:Str->Option Value)(x:Str)(u:Value):Prop :=
 (env.kindOf x=some .local/\m x=some u)\/((env.kindOf x=some .cell\/env.kindOf x=some .free)/\∃c,env.cells.lookup x=some c/\h.IsCell c (some u))
structure Cx.Ok(X:Cx):Prop where
 mod:Mod X.K X.mg X.base
 kind:X.env.scope.kind = .function
 glob:X.env.globals=mainGlobals
 blt:X.env.builtins=builtinsNs
 above:X.s₀.heap.objs.size<=X.env.locals
 inj:∀x y c,X.env.cells.lookup x=some c->X.env.cells.lookup y=some c->x=y
 has:∀x,(X.env.kindOf x=some .cell\/X.env.kindOf x=some .free)->∃c,X.env.cells.lookup x=some c
 cab:∀x c,X.fn x=true->X.env.cells.lookup x=some c->X.s₀.heap.objs.size<=c
 hd:X.calm=true->X.A.handled=none
 frames:X.A.frames=some X.stack
 stk:X.stack=X.outer\/(X.stack=X.env :: X.outer/\X.env.frame=some X.env.locals)
 exf:∀b∈X.ex,b≠X.env.locals/\∀x c,X.env.cells.lookup x=some c->c≠b
 bs:∀b o,X.base.get? b=some o->X.s₀.heap.get? b=some o/\X.H₀ b=none
 bsz:X.base.objs.size<=X.s₀.heap.objs.size
 noex:∀b o,X.base.get? b=some o->b∉X.ex
 exfs:∀b∈X.ex,b∉X.fs
 funs:X.s₀.heap.FunFrames X.base X.outer
 frf:∀b∈X.fs,X.H₀ b=none
structure Inv(X:Cx)(aB:List (Addr×Obj))(σ:List (Option V))(H:Hp)(s:Shared):Prop where
 ok:X.Ok
 os:s.os=X.s₀.os
 bare:AllBare s.gens
 base:Un X.fs X.ex X.H₀ H X.s₀.heap s.heap
 loc:∃m,s.heap.Ns X.env.locals m/\∀(i:Nat) (x:Str) (v:V),X.N[i]?=some x->σ[i]?=some (some v)->Vis X.env.scope x->∃u,qBx v u/\zC8 X.env s.heap m x u
 cell:∀x c,X.env.cells.lookup x=some c->∃v,s.heap.IsCell c v
 free:H X.env.locals=none
 freeC:∀x c,X.env.cells.lookup x=some c->H c=none
 pin:∀p∈X.pn++aB,s.heap.get? p.1=some p.2/\H p.1=none/\p.1≠X.env.locals/\p.1∉X.fs/\∀v,p.2.data≠.cell v
 hok:HOk X.prog X.w H s.heap
 len:σ.length=X.N.length
section
variable{X:Cx}{aB:List (Addr×Obj)}{σ:List (Option V)}{H H':Hp}{s:Shared}{h':Heap}
theorem Cx.Ok.nofr(ok:X.Ok){b:Addr}{o:Obj}(e:X.base.get? b=some o):b∉X.fs:=λhb=>by
 have:=(ok.funs.mem hb).1;rw[e]at this;cases this
theorem Inv.bs(I:Inv X aB σ H s):∀b o,X.base.get? b=some o->s.heap.get? b=some o/\H b=none:=λb o e =>
 ⟨I.base.keep b o (I.ok.bs b o e).1 (I.ok.bs b o e).2 (I.ok.nofr e) (I.ok.noex b o e),I.base.free b o (I.ok.bs b o e).1 (I.ok.bs b o e).2 (I.ok.noex b o e)⟩
theorem Inv.bk(I:Inv X aB σ H s):∀b o,X.base.get? b=some o->s.heap.get? b=some o:=λb o e=>(I.bs b o e).1
theorem Inv.mod(I:Inv X aB σ H s):Mod X.K X.mg X.base:=I.ok.mod
theorem Inv.kIn(I:Inv X aB σ H s):X.K.In s.heap:=I.ok.mod.kin.keeps I.bk
theorem Inv.lt(I:Inv X aB σ H s):X.env.locals<s.heap.objs.size:=let ⟨_,hn,_⟩:=I.loc;hn.lt
theorem Inv.sz(I:Inv X aB σ H s):X.s₀.heap.objs.size<=s.heap.objs.size:=hBa I.ok.above (hBz I.lt)
theorem Inv.nofs(I:Inv X aB σ H s){a:Addr}(h:s.heap.objs.size<=a):a∉X.fs:=λhb=>by
 obtain⟨_,o,ho,_⟩:=I.ok.funs.mem hb;exact absurd (hBc (Heap.lt_size ho) (hBa I.sz h)) (hBu _)
theorem Inv.cne(I:Inv X aB σ H s):∀x c,X.env.cells.lookup x=some c->c≠X.env.locals:=λx c e z=>by
 obtain⟨v,o,ho,hd⟩:=I.cell x c e;obtain⟨m,⟨o',es,ep,ho',hd',_⟩,_⟩:=I.loc;rw[z,ho']at ho;cases ho;rw[hd']at hd;cases hd
theorem Inv.funs(I:Inv X aB σ H s):s.heap.FunFrames X.base X.outer:=by
 have all:∀(l:List Env),(∀b∈frs l,b∈X.fs)->X.s₀.heap.FunFrames X.base l->s.heap.FunFrames X.base l:=by
  intro l
  induction l with
  |nil=>intro _ _;trivial
  |cons env r ih =>
   intro hs hl;obtain⟨hk,⟨L,o,hf,hn,ho,hd⟩,hr⟩:=hl;have hL:L∈X.fs:=hs L (by unfold frs;rw[hCv,hf];exact hAb);obtain⟨sl,e⟩:=I.base.slot L o ho (I.ok.frf L hL) hL λz=>I.ok.exfs L z hL
   exact⟨hk,⟨L,_,hf,hn,e,hd⟩,ih (λb hb=>hs b (by unfold frs;rw[hCv,hf];exact hAe _ hb)) hr⟩
 exact all X.outer (λ_ hb=>hb) I.ok.funs
theorem Inv.stack(I:Inv X aB σ H s):s.heap.FunFrames X.base X.stack:=by
 rcases I.ok.stk with e|⟨e,hf⟩
 ·rw[e];exact I.funs
 ·rw[e];obtain⟨m,hn,_⟩:=I.loc;refine .cons (by rw[I.ok.kind];decide) hf hn ?_ I.funs;exact Heap.get?_none_of_le (hBa I.ok.bsz I.ok.above)
theorem Inv.stkSub(I:Inv X aB σ H s):∀b∈frs X.stack,b∈X.env.locals :: X.fs:=λb hb=>by
 rcases I.ok.stk with e|⟨e,hf⟩
 ·rw[e]at hb;exact hAe _ hb
 ·rw[e]at hb;unfold frs at hb;rw[hCv,hf]at hb;exact hb
theorem Inv.stkFree(I:Inv X aB σ H s):∀b∈frs X.stack,H b=none:=λb hb=>by
 rcases hAg.mp (I.stkSub b hb) with e|hb
 ·rw[e];exact I.free
 ·obtain⟨_,o,ho,_⟩:=I.ok.funs.mem hb;exact I.base.free b o ho (I.ok.frf b hb) λz=>I.ok.exfs b z hb
theorem Inv.step{g':Array GenState}{t':Nat}{d':Drawn}{ch:List Addr}(I:Inv X aB σ H s)
  (hch:∀b∈ch,(b∈X.ex\/X.s₀.heap.objs.size<=b)/\b≠X.env.locals/\(∀x c,X.env.cells.lookup x=some c->c≠b)/\∀p∈X.pn++aB,p.1≠b)
  (keep:∀b o,b≠X.env.locals->b∉X.fs->b∉ch->s.heap.get? b=some o->H b=none->h'.get? b=some o)
  (slot:∀b o,b≠X.env.locals->b∈X.fs->b∉ch->s.heap.get? b=some o->H b=none->∃sl,h'.get? b=some { o with slots:=sl }) (free:∀b o,b∉ch->s.heap.get? b=some o->H b=none->H' b=none)
  (there:∀b o,b∉ch->s.heap.get? b=some o->∃o',h'.get? b=some o')
  (tups:∀b xs,H b=some (.tup xs)->H' b=some (.tup xs)) (frzs:∀b o u,H b=some (.frz o u)->H' b=some (.frz o u)) (tbls:∀b ps,H b=some (.tbl ps)->∃more,H' b=some (.tbl (ps++more)))
  (ns:∀m,s.heap.Ns X.env.locals m->h'.Ns X.env.locals m) (hok:HOk X.prog X.w H' h') (hg:AllBare g') :
  Inv X aB σ H' { s with heap:=h',gens:=g',drawn:=d',toks:=t' }:=by
 have neL:∀b o,X.s₀.heap.get? b=some o->b≠X.env.locals:=λb o e=>hAt (hBc (Heap.lt_size e) I.ok.above)
 have neC:∀b o,X.s₀.heap.get? b=some o->b∉X.ex->b∉ch:=λb o e hx hb=>by
  rcases(hch b hb).1 with z|z
  ·exact hx z
  ·exact absurd (hBc (Heap.lt_size e) z) (hBu _)
 have cellK:∀x c,X.env.cells.lookup x=some c->∀v,s.heap.IsCell c v->h'.IsCell c v:=λx c e v ⟨o,ho,hd⟩=>by
  have nch:c∉ch:=λz=>(hch c z).2.2.1 x c e rfl
  by_cases hc:c∈X.fs
  ·obtain⟨sl,q⟩:=slot c o (I.cne x c e) hc nch ho (I.freeC x c e);exact⟨_,q,hd⟩
  ·exact⟨o,keep c o (I.cne x c e) hc nch ho (I.freeC x c e),hd⟩
 refine⟨I.ok,I.os,hg,⟨λb o e n hb hx=>?_,λb o e n hb hx=>?_,λb o e n hx=>?_,λb o e hx=>?_,λb xs e=>tups b xs (I.base.tups b xs e),λb o xs e=>frzs b o xs (I.base.frzs b o xs e),λb ps e=>?_⟩,?_,λx c e=>?_,?_,λx c e=>?_,λp hp=>?_,hok,I.len⟩
 ·exact keep b o (neL b o e) hb (neC b o e hx) (I.base.keep b o e n hb hx) (I.base.free b o e n hx)
 ·obtain⟨sl,e1⟩:=I.base.slot b o e n hb hx;obtain⟨sl',e2⟩:=slot b _ (neL b o e) hb (neC b o e hx) e1 (I.base.free b o e n hx);exact⟨sl',e2⟩
 ·obtain⟨o',e1⟩:=I.base.there b o e hx;exact free b o' (neC b o e hx) e1 (I.base.free b o e n hx)
 ·obtain⟨o',e1⟩:=I.base.there b o e hx;exact there b o' (neC b o e hx) e1
 ·obtain⟨m1,e1⟩:=I.base.tbls b ps e;obtain⟨m2,e2⟩:=tbls b _ e1;exact⟨m1++m2,by rw[e2,Array.append_assoc]⟩
 ·obtain⟨m,hn,hl⟩:=I.loc;refine⟨m,ns m hn,λi x v e1 e2 e3=>?_⟩;obtain⟨u,r,l⟩:=hl i x v e1 e2 e3;refine⟨u,r,?_⟩;rcases l with l|⟨k,c,e,z⟩
  ·exact .inl l
  ·exact .inr ⟨k,c,e,cellK x c e _ z⟩
 ·obtain⟨v,z⟩:=I.cell x c e;exact⟨v,cellK x c e v z⟩
 ·obtain⟨m,⟨o,_,_,ho,_⟩,_⟩:=I.loc;exact free _ o (λz=>(hch _ z).2.1 rfl) ho I.free
 ·obtain⟨v,o,ho,hd⟩:=I.cell x c e;exact free c o (λz=>(hch c z).2.2.1 x c e rfl) ho (I.freeC x c e)
 ·obtain⟨e,n,ne,nf,d⟩:=I.pin p hp;have nch:p.1∉ch:=λz=>(hch p.1 z).2.2.2 p hp rfl
  exact⟨keep p.1 p.2 ne nf nch e n,free p.1 p.2 nch e n,ne,nf,d⟩
theorem Inv.un{t':Nat}(I:Inv X aB σ H s)(u:Un X.fs [] H H' s.heap h')(hok:HOk X.prog X.w H' h'):Inv X aB σ H' { s with heap:=h',toks:=t' }:=by
 obtain⟨m,⟨o,es,ep,ho,r⟩,_⟩:=id I.loc;obtain⟨sl,hL⟩:=u.any ho I.free (by simp);exact I.step (g':=s.gens) (d':=s.drawn) (ch:=[]) (λ_ z=>nomatch z) (λb o _ hb _ e n=>u.keep b o e n hb (by simp)) (λb o _ hb _ e n=>u.slot b o e n hb (by simp)) (λb o _ e n=>u.free b o e n (by simp)) (λb o _ e=>u.there b o e (by simp)) u.tups u.frzs u.tbls (λm' hm=>by
  obtain⟨o',es',ep',ho',r'⟩:=hm;rw[ho]at ho';cases ho';exact⟨_,es',ep',hL,r'⟩) hok I.bare
theorem Inv.call{g':Array GenState}{t':Nat}{d':Drawn}{ch:List Addr}(I:Inv X aB σ H s)(u:Un (frs X.stack) ch H H' s.heap h')(hok:HOk X.prog X.w H' h')(hg:AllBare g')
  (hch:∀b∈ch,(b∈X.ex\/X.s₀.heap.objs.size<=b)/\b≠X.env.locals/\(∀x c,X.env.cells.lookup x=some c->c≠b)/\∀p∈X.pn++aB,p.1≠b) :
  Inv X aB σ H' { s with heap:=h',gens:=g',drawn:=d',toks:=t' }:=by
 obtain⟨m,⟨o,es,ep,ho,r⟩,_⟩:=id I.loc;obtain⟨sl,hL⟩:=u.any ho I.free λz=>(hch _ z).2.1 rfl
 exact I.step (ch:=ch) hch (λb o hL hb hc e n=>u.keep b o e n (λz=>(hAg.mp (I.stkSub b z)).elim hL hb) hc) (λb o _ _ hc e n=>u.any e n hc) (λb o hc e n=>u.free b o e n hc) (λb o hc e=>u.there b o e hc) u.tups u.frzs u.tbls (λm' hm=>by
  obtain⟨o',es',ep',ho',r'⟩:=hm;rw[ho]at ho';cases ho';exact⟨_,es',ep',hL,r'⟩) hok hg
theorem Inv.turned{t':Nat}{it:Addr}(I:Inv X aB σ H s)(k:∀b o,b≠it->s.heap.get? b=some o->h'.get? b=some o)(hn:H it=none)(hL:it≠X.env.locals)
  (h1:it∈X.ex\/X.s₀.heap.objs.size<=it) (h2:∀x c,X.env.cells.lookup x=some c->c≠it) (h3:∀p∈X.pn++aB,p.1≠it):Inv X aB σ H { s with heap:=h',toks:=t' }:=by
 have nit:∀b u,H b=some u->b≠it:=λb u e z=>by rw[z,hn]at e;cases e
 refine I.step (g':=s.gens) (d':=s.drawn) (ch:=[it]) (λb hb=>?_) (λb o _ _ hc e _=>k b o (λz=>hc (by simp[z])) e) (λb o _ _ hc e _=>⟨o.slots,k b o (λz=>hc (by simp[z])) e⟩) (λ_ _ _ _ n=>n)
  (λb o hc e=>⟨o,k b o (λz=>hc (by simp[z])) e⟩) (λ_ _ e=>e) (λ_ _ _ e=>e) (λb ps e=>⟨#[],by rw[e];simp⟩) (λm hm=>?_) (λb u e=>?_) I.bare
 ·have e:b=it:=by simpa using hb
  subst e;exact⟨h1,hL,h2,h3⟩
 ·obtain⟨o,es,ep,ho,r⟩:=hm;exact⟨o,es,ep,k _ o (Ne.symm hL) ho,r⟩
 ·refine(I.hok b u e).stay (λc v hc q=>k c v ?_ q) (λ_ q=>q) λ_ _ q=>q
  rcases hc with z|z
  ·rw[z];exact nit b u e
  ·exact nit c _ z
theorem Inv.tok(I:Inv X aB σ H s)(t:Nat):Inv X aB σ H { s with toks:=t }:=I.un (h':=s.heap) (t':=t) Un.refl I.hok
theorem Inv.kept{t':Nat}(I:Inv X aB σ H s)(k:∀b u,s.heap.get? b=some u->h'.get? b=some u):Inv X aB σ H { s with heap:=h',toks:=t' }:=I.un (Un.kept k) (I.hok.kept k)
theorem Inv.laid{a:Addr}{o:HO}{t':Nat}(I:Inv X aB σ H s)(k:∀b u,s.heap.get? b=some u->h'.get? b=some u)(hp:s.heap.objs.size<=a)(new:qB9 X.prog X.w (upd H a o) h' a o) :
  Inv X aB σ (upd H a o) { s with heap:=h',toks:=t' }:=I.un (Un.laid k hp (I.hok.fresh hp)) (I.hok.laid k hp new)
theorem Inv.write{x e:Addr}{o:HO}{t':Nat}(I:Inv X aB σ H s)(mu:Mut (H x))(he:e=x\/H e=some (.own x))(k:∀b u,b≠e->s.heap.get? b=some u->h'.get? b=some u)(heo:∃u,h'.get? e=some u)
  (new:qB9 X.prog X.w (upd H x o) h' x o):Inv X aB σ (upd H x o) { s with heap:=h',toks:=t' }:=I.un (Un.write mu he k heo) (I.hok.write mu he k heo new)
theorem Inv.weak{σ':List (Option V)}(I:Inv X aB σ H s)(hl:σ'.length=σ.length)(w:∀(i:Nat) v,σ'[i]?=some (some v)->σ[i]?=some (some v)):Inv X aB σ' H s :=
 ⟨I.ok,I.os,I.bare,I.base,let ⟨m,hn,hl'⟩:=I.loc;⟨m,hn,λi x v e1 e2 e3=>hl' i x v e1 (w i v e2) e3⟩,I.cell,I.free,I.freeC,I.pin,I.hok,hl.trans I.len⟩
theorem Inv.pins_of{pins':List (Addr×Obj)}(I:Inv X aB σ H s)(h:∀p∈pins',s.heap.get? p.1=some p.2/\H p.1=none/\p.1≠X.env.locals/\p.1∉X.fs/\∀v,p.2.data≠.cell v):Inv X pins' σ H s :=
 ⟨I.ok,I.os,I.bare,I.base,I.loc,I.cell,I.free,I.freeC,λp hp=>(hAp.mp hp).elim (λz=>I.pin p (hAx _ z)) (h p),I.hok,I.len⟩
theorem qGe{N:List Str}(hN:N.Nodup){i j:Nat}{x:Str}(a:N[i]?=some x)(b:N[j]?=some x):i=j:=by
 obtain⟨h1,e1⟩:=hAz.mp a;obtain⟨h2,e2⟩:=hAz.mp b;exact(List.getElem_inj hN).mp (e1.trans e2.symm)
theorem qGp{M:Model}{A:Around}{E:Value->Shared->Prop}{i:Nat}{x:Str}{v:V}{u:Value}{Q:Unit->Shared->Prop}(I:Inv X aB σ H s)(hN:X.N.Nodup)(hi:X.N[i]?=some x)(hx:Loc X.env.scope x)(r:qBx v u)
  (h:∀s',Inv X aB (σ.set i (some v)) H s'->(∃a,Heap.SameBut a s.heap s'.heap/\(a=X.env.locals\/X.env.cells.lookup x=some a))->Q () s') (hf:X.fn x=true\/X.env.scope.names.lookup x=some .local:=by exact kO2):wpAny M A (storeName X.env x u) Q E s:=by
 obtain⟨m,hn,hl⟩:=id I.loc;have hcls:(X.env.scope.kind == .class || (X.env.scope.kind == .module && X.env.locals != X.env.globals))=false:=by rw[I.ok.kind];rfl
 have hiσ:i < σ.length:=by rw[I.len];exact(hAz.mp hi).1
 have cne:=I.cne;have tracked:∀ {a:Addr} {h':Heap},(∃o,s.heap.get? a=some o/\H a=none)->Heap.SameBut a s.heap h'->HOk X.prog X.w H h':=λ{a h'} ha hs b ob e=>by
  obtain⟨_,_,hfree⟩:=ha;refine(I.hok b ob e).stay (λc w' hc q=>(hs.2 c ?_).trans q) (λ_ q=>q) λ_ _ q=>q
  rintro rfl;rcases hc with rfl|hc
  ·rw[hfree]at e;cases e
  ·rw[hfree]at hc;cases hc
 rcases hx with hk|hk
 ·refine wpAny_storeName_local hk hn (λh' hn' hs=>?_) hcls;obtain⟨oL,_,_,hoL,_⟩:=id hn;refine h _ ⟨I.ok,I.os,I.bare,⟨λb o e n hb hx=>?_,λb o e n hb hx=>?_,I.base.free,λb o e hx=>?_,I.base.tups,I.base.frzs,I.base.tbls⟩,⟨_,hn',λj y v' e1 e2 e3=>?_⟩,λy c e=>?_,I.free,I.freeC,λp hp=>?_,tracked ⟨oL,hoL,I.free⟩ hs,by simpa using I.len⟩ ⟨_,hs,.inl rfl⟩
  ·exact(hs.2 b (hAt (hBc (Heap.lt_size e) I.ok.above))).trans (I.base.keep b o e n hb hx)
  ·obtain⟨sl,e1⟩:=I.base.slot b o e n hb hx;exact⟨sl,(hs.2 b (hAt (hBc (Heap.lt_size e) I.ok.above))).trans e1⟩
  ·obtain⟨o',e1⟩:=I.base.there b o e hx;exact⟨o',(hs.2 b (hAt (hBc (Heap.lt_size e) I.ok.above))).trans e1⟩
  ·by_cases hj:j=i
   ·subst hj;rw[hi]at e1;cases e1;rw[hEb hiσ]at e2;cases e2;exact⟨u,r,.inl ⟨hk,by simp⟩⟩
   ·rw[hDv (Ne.symm hj)]at e2;obtain⟨u',r',q⟩:=hl j y v' e1 e2 e3;refine⟨u',r',?_⟩;rcases q with ⟨k,e⟩|⟨k,c,e,z⟩
    ·refine .inl ⟨k,?_⟩;have:y≠x:=λe=>hj (qGe hN e1 (e▸hi))
     simp[this,e]
    ·exact .inr ⟨k,c,e,z.sameBut hs (cne y c e)⟩
  ·obtain⟨w',z⟩:=I.cell y c e;exact⟨w',z.sameBut hs (cne y c e)⟩
  ·obtain⟨e,n,ne,nf,d⟩:=I.pin p hp;exact⟨(hs.2 p.1 ne).trans e,n,ne,nf,d⟩
 ·have hfn:X.fn x=true:=by
   rcases hf with z|z
   ·exact z
   ·rw[z]at hk;cases hk
  obtain⟨c,hc⟩:=I.ok.has x (.inl hk);obtain⟨w',z⟩:=I.cell x c hc;refine wpAny_storeName_cell I.ok.kind hk hc z (λh' hc' hs=>?_);obtain⟨oc,hoc,hocd⟩:=id z;refine h { s with heap:=h' } ⟨I.ok,I.os,I.bare,⟨λb o e n hb hx=>?_,λb o e n hb hx=>?_,I.base.free,λb o e hx=>?_,I.base.tups,I.base.frzs,I.base.tbls⟩,⟨m,hn.sameBut hs (Ne.symm (cne x c hc)),λj y v' e1 e2 e3=>?_⟩,λy c' e=>?_,I.free,I.freeC,λp hp=>?_,tracked ⟨oc,hoc,I.freeC x c hc⟩ hs,by simpa using I.len⟩ ⟨c,hs,.inr hc⟩
  ·exact(hs.2 b (hAt (hBc (Heap.lt_size e) (I.ok.cab x c hfn hc)))).trans (I.base.keep b o e n hb hx)
  ·obtain⟨sl,e1⟩:=I.base.slot b o e n hb hx;exact⟨sl,(hs.2 b (hAt (hBc (Heap.lt_size e) (I.ok.cab x c hfn hc)))).trans e1⟩
  ·obtain⟨o',e1⟩:=I.base.there b o e hx;exact⟨o',(hs.2 b (hAt (hBc (Heap.lt_size e) (I.ok.cab x c hfn hc)))).trans e1⟩
  ·by_cases hj:j=i
   ·subst hj;rw[hi]at e1;cases e1;rw[hEb hiσ]at e2;cases e2;exact⟨u,r,.inr ⟨.inl hk,c,hc,hc'⟩⟩
   ·rw[hDv (Ne.symm hj)]at e2;obtain⟨u',r',q⟩:=hl j y v' e1 e2 e3;refine⟨u',r',?_⟩;rcases q with q|⟨k,c',e,z'⟩
    ·exact .inl q
    ·refine .inr ⟨k,c',e,z'.sameBut hs ?_⟩;rintro rfl;exact hj (qGe hN e1 (I.ok.inj _ _ _ e hc▸hi))
  ·by_cases hcc:c'=c
   ·subst hcc;exact⟨_,hc'⟩
   ·obtain⟨w2,z2⟩:=I.cell y c' e;exact⟨w2,z2.sameBut hs hcc⟩
  ·obtain⟨e,n,ne,nf,d⟩:=I.pin p hp;refine⟨(hs.2 p.1 ?_).trans e,n,ne,nf,d⟩;intro q;rw[q,hoc]at e;have q':oc=p.2:=hAh e;exact d w' (by rw[<-q'];exact hocd)
theorem qGb{M:Model}{A:Around}{E:Value->Shared->Prop}{i:Nat}{x:Str}{v:V}{u:Value}{Q:Unit->Shared->Prop}(I:Inv X aB σ H s)(hN:X.N.Nodup)(hi:X.N[i]?=some x)(hx:Loc X.env.scope x)(r:qBx v u)
  (h:∀s',Inv X aB (σ.set i (some v)) H s'->Q () s') (hf:X.fn x=true\/X.env.scope.names.lookup x=some .local:=by exact kO2):wpAny M A (storeName X.env x u) Q E s :=
 qGp I hN hi hx r (λs' I' _=>h s' I') hf
theorem Inv.call'{s':Shared}{ch:List Addr}(I:Inv X aB σ H s)(ho:s'.os=s.os)(u:Un (frs X.stack) ch H H' s.heap s'.heap)(hok:HOk X.prog X.w H' s'.heap)(hg:AllBare s'.gens)
  (hch:∀b∈ch,(b∈X.ex\/X.s₀.heap.objs.size<=b)/\b≠X.env.locals/\(∀x c,X.env.cells.lookup x=some c->c≠b)/\∀p∈X.pn++aB,p.1≠b):Inv X aB σ H' s':=by
 obtain⟨h',g',d',t',o'⟩:=s';have e:o'=s.os:=ho;subst e;exact I.call (g':=g') (t':=t') (d':=d') u hok hg hch
end
abbrev XK:=Value->Option Addr->Hp->Prop
abbrev St:=List (Option V)
abbrev VK:=V->Hp->Prop
abbrev TE:=St->Hp->VK->Prop
abbrev TT:=St->Hp->(Bool->Hp->Prop)->Prop
abbrev TA:=St->Hp->(List V->Hp->Prop)->Prop
structure Ends where
 nx:St->Hp->Prop
 rt:VK
 bk:St->Hp->Prop:=λ_ _=>False
 ct:St->Hp->Prop:=λ_ _=>False
abbrev TS:=Ends->St->Hp->Prop
def EP(X:Cx)(aB:List (Addr×Obj))(σ:St)(Q:VK)(u:Value)(s':Shared):Prop:=∃v H',Inv X aB σ H' s'/\qBx v u/\Q v H'
def TP(X:Cx)(aB:List (Addr×Obj))(σ:St)(Q:Bool->Hp->Prop)(b:Bool)(s':Shared):Prop:=∃H',Inv X aB σ H' s'/\Q b H'
def AP(X:Cx)(aB:List (Addr×Obj))(σ:St)(Q:List V->Hp->Prop)(us:List Value)(s':Shared):Prop:=∃vs H',Inv X aB σ H' s'/\qBd vs us/\Q vs H'
def SP(X:Cx)(aB:List (Addr×Obj))(D:Ends)(f:Flow)(s':Shared):Prop :=
 match f with
 |.next=>∃σ' H',Inv X aB σ' H' s'/\D.nx σ' H'
 |.brk=>∃σ' H',Inv X aB σ' H' s'/\D.bk σ' H'
 |.cont=>∃σ' H',Inv X aB σ' H' s'/\D.ct σ' H'
 |.ret u=>∃v σ' H',Inv X aB σ' H' s'/\qBx v u/\D.rt v H'
def PE(X:Cx)(e:Expr)(t:TE):Prop :=
 ∀(aB:List (Addr×Obj)) (s:Shared) (σ:St) (H:Hp) (Q:VK),Inv X aB σ H s->t σ H Q->wpAny (model X.prog X.w) X.A (eval e X.env) (EP X aB σ Q) X.xe s
def PT(X:Cx)(e:Expr)(t:TT):Prop :=
 ∀(aB:List (Addr×Obj)) (s:Shared) (σ:St) (H:Hp) (Q:Bool->Hp->Prop),Inv X aB σ H s->t σ H Q->wpAny (model X.prog X.w) X.A (isTrue e X.env (eval e X.env)) (TP X aB σ Q) X.xe s
def PW(X:Cx)(e:Expr)(t:TT):Prop :=
 ∀(whole:Sem Value) (aB:List (Addr×Obj)) (s:Shared) (σ:St) (H:Hp) (Q:Bool->Hp->Prop),Inv X aB σ H s->t σ H Q->wpAny (model X.prog X.w) X.A (isTrue e X.env whole) (TP X aB σ Q) X.xe s
theorem PW.pt{X:Cx}{e:Expr}{t:TT}(h:PW X e t):PT X e t:=h _
def PA(X:Cx)(es:List Expr)(t:TA):Prop :=
 ∀(pos:Pos) (aB:List (Addr×Obj)) (s:Shared) (σ:St) (H:Hp) (Q:List V->Hp->Prop),Inv X aB σ H s->t σ H Q->wpAny (model X.prog X.w) X.A (spliced (backTo pos (starEach es X.env))) (AP X aB σ Q) X.xe s
def PS(X:Cx)(st:Stmt)(t:TS):Prop :=
 ∀(aB:List (Addr×Obj)) (s:Shared) (σ:St) (H:Hp) (D:Ends),Inv X aB σ H s->t D σ H->wpAny (model X.prog X.w) X.A (exec st X.env) (SP X aB D) X.xe s
def PSs(X:Cx)(st:List Stmt)(t:TS):Prop :=
 ∀(aB:List (Addr×Obj)) (s:Shared) (σ:St) (H:Hp) (D:Ends),Inv X aB σ H s->t D σ H->wpAny (model X.prog X.w) X.A (execs st X.env) (SP X aB D) X.xe s
theorem thn{α:Type}{t:Sem α}{Q Q':α->Shared->Prop}{M:Model}{A:Around}{E:Value->Shared->Prop}{s:Shared}(h:wpAny M A t Q E s)(hQ:∀a s,Q a s->Q' a s):wpAny M A t Q' E s:=hF2 h hQ λ_ _ x=>x
section
variable{X:Cx}
def zB2(i:Nat):TE:=λσ H Q=>∃v,σ[i]?=some (some v)/\Q v H
def tC(v:V):TE:=λ_ H Q=>Q v H
theorem qZk{i:Nat}{x:Str}{pos:Pos}(hN:X.N[i]?=some x)(hv:Vis X.env.scope x)(hd:(x == ("__debug__" : Str))=false:=by decide)(hcd:(x == ("__classdict__" : Str))=false:=by decide):PE X (.Name x pos) (zB2 i):=by
 intro aB s σ H Q I h;obtain⟨v,e,h⟩:=h;obtain⟨m,hn,hl⟩:=I.loc;obtain⟨u,r,l⟩:=hl i x v hN e hv;have fin:EP X aB σ Q u s:=⟨v,H,I,r,h⟩;rcases l with ⟨hk,hm⟩|⟨hk,c,hc,hcell⟩
 ·exact wpAny_Name (wpAny_loadName_local I.ok.kind hk hn hm fin) hd
 ·rcases hk with hk|hk
  ·exact wpAny_Name (wpAny_loadName_cell I.ok.kind hk hc hcell fin) hd
  ·exact wpAny_Name (wpAny_loadName_free I.ok.kind hk hc hcell fin hcd) hd
theorem qAk{i j pos}:PE X (.Constant (.int i) j pos) (tC (.int i)):=λ_ _ _ H _ I h=>wpAny_Constant_int ⟨.int i,H,I.tok _,⟨_,rfl⟩,h⟩
theorem qDf{b j pos}:PE X (.Constant (.bool b) j pos) (tC (.bl b)):=λ_ _ _ H _ I h=>Constant_bool ⟨.bl b,H,I,rfl,h⟩
theorem qRa{j pos}:PE X (.Constant .none j pos) (tC .non):=λ_ _ _ H _ I h=>Constant_none ⟨.non,H,I,rfl,h⟩
theorem qKh{x j pos}:PE X (.Constant (.str x) j pos) (tC (.str x)):=λ_ _ _ H _ I h=>Calls.Constant_str ⟨.str x,H,I.tok _,⟨_,rfl⟩,h⟩
def Gl(X:Cx)(x:Str):Prop:=X.env.kindOf x=some .globalImplicit
theorem qXt{E:Value->Shared->Prop}{aB:List (Addr×Obj)}{s:Shared}{σ:St}{H:Hp}{x:Str}{u:Value}{pos:Pos}{Q:Value->Shared->Prop}(I:Inv X aB σ H s)(hg:Gl X x)(hm:X.mg x=some u)(h:Q u s)
  (hd:(x == ("__debug__" : Str))=false:=by decide):wpAny (model X.prog X.w) X.A (eval (.Name x pos) X.env) Q E s :=
 Calls.Name_function_global I.ok.kind hg (Calls.loadGlobal_global (by rw[I.ok.glob];exact I.mod.glob.keeps I.bk) hm h) hd
theorem qG1{E:Value->Shared->Prop}{aB:List (Addr×Obj)}{s:Shared}{σ:St}{H:Hp}{x:Str}{u:Value}{pos:Pos}{Q:Value->Shared->Prop}(I:Inv X aB σ H s)(hg:Gl X x)(hm:X.mg x=none)(hv:bootBuiltins x=some u)(h:Q u s)
  (hn:x≠"__name__":=by decide) (hd:(x == ("__debug__" : Str))=false:=by decide):wpAny (model X.prog X.w) X.A (eval (.Name x pos) X.env) Q E s:=by
 obtain⟨mb,h1,h2⟩:=I.mod.blt;exact Calls.Name_function_global I.ok.kind hg (Calls.loadGlobal_builtin (by rw[I.ok.glob];exact I.mod.glob.keeps I.bk) hm (by rw[I.ok.blt];exact h1.keeps I.bk) ((h2 x hn).trans hv) h) hd
theorem qDj{x:Str}{v:V}{u:Value}{pos:Pos}(hg:Gl X x)(hm:X.mg x=none)(hv:bootBuiltins x=some u)(r:qBx v u)(hn:x≠"__name__":=by decide)(hd:(x == ("__debug__" : Str))=false:=by decide):PE X (.Name x pos) (tC v) :=
 λ_ _ _ H _ I h=>qG1 I hg hm hv ⟨v,H,I,r,h⟩ hn hd
variable{a b:Expr}{ta tb:TE}{pos:Pos}
def PC(X:Cx)(op:CmpOp)(a b:Expr)(t:TE):Prop :=
 ∀(aB:List (Addr×Obj)) (s:Shared) (σ:St) (H:Hp) (Q:VK),Inv X aB σ H s->t σ H Q ->
  wpAny (model X.prog X.w) X.A (eval a X.env) (λv s₁=>wpAny (model X.prog X.w) X.A (eval b X.env) (λu s₂=>wpAny (model X.prog X.w) X.A (compareOp op v u) (EP X aB σ Q) X.xe s₂) X.xe s₁) X.xe s
theorem qT7(b:Expr){op:CmpOp}(h:op≠.In)(h2:op≠.NotIn):behindInMarks op b=false:=by
 have e1:(op == CmpOp.In)=false:=by cases op <;> first|rfl|exact absurd rfl h
 have e2:(op == CmpOp.NotIn)=false:=by cases op <;> first|rfl|exact absurd rfl h2
 cases b <;> simp[behindInMarks,e1,e2]
def tB(t:TE):TT:=λσ H Q=>t σ H λx H1=>∃c,x = .bl c/\Q c H1
theorem qQv{op:CmpOp}{t:TE}(h:PC X op a b t)(h1:behindInMarks op b=false:=by exact kO4):PT X (.Compare a [op] [b] pos) (tB t):=by
 intro aB s σ H Q I hw;refine wpAny_isTrue_Compare1 (thn (h aB s σ H _ I hw) λv s1 h1=>thn h1 λu s2 h2=>thn h2 λc s3 ⟨x,H1,I1,r1,q1⟩=>?_) h1;obtain⟨d,rfl,q⟩:=q1;cases r1;exact hFy ⟨H1,I1,q⟩
theorem qDd{e:Expr}{t:TE}(h:PE X e t)(he:∀whole,isTrue e X.env whole=(do let v ← whole;standAt e.pos;holding [v] (truthy v)):=by intro _;rfl):PT X e (tB t):=by
 intro aB s σ H Q I hw;refine isTrue_plain (thn (h aB s σ H _ I hw) λv s1 ⟨x,H1,I1,r1,q1⟩=>?_) (he _);obtain⟨d,rfl,q⟩:=q1;cases r1;exact hFy ⟨H1,I1,q⟩
variable{tA tB':TT}{rest:List Expr}
def zCp(t u:TT):TT:=λσ H Q=>t σ H λc H1=>if c=true then u σ H1 Q else Q false H1
def tOr(t u:TT):TT:=λσ H Q=>t σ H λc H1=>if c=true then Q true H1 else u σ H1 Q
def zCk(t:TT):TT:=λσ H Q=>t σ H λc H1=>Q (!c) H1
theorem qQt(ha:PT X a tA):PW X (.BoolOp .And [a] pos) tA:=by
 intro wh aB s σ H Q I h;refine isTrue_and (thn (ha aB s σ H Q I h) λc s1 e=>?_);cases c with
 |true=>exact isTrue_and_nil e
 |false=>exact e
theorem qEw(ha:PT X a tA):PW X (.BoolOp .Or [a] pos) tA:=by
 intro wh aB s σ H Q I h;refine isTrue_or (thn (ha aB s σ H Q I h) λc s1 e=>?_);cases c with
 |false=>exact isTrue_or_nil e
 |true=>exact e
theorem qVl(ha:PT X a tA)(hb:PW X (.BoolOp .And (b :: rest) pos) tB'):PW X (.BoolOp .And (a :: b :: rest) pos) (zCp tA tB'):=by
 intro wh aB s σ H Q I h;refine isTrue_and (thn (ha aB s σ H _ I h) λc s1 ⟨H1,I1,q1⟩=>?_);cases c with
 |true=>exact hb wh aB s1 σ H1 Q I1 q1
 |false=>exact⟨H1,I1,q1⟩
theorem qHo(ha:PT X a tA)(hb:PW X (.BoolOp .Or (b :: rest) pos) tB'):PW X (.BoolOp .Or (a :: b :: rest) pos) (tOr tA tB'):=by
 intro wh aB s σ H Q I h;refine isTrue_or (thn (ha aB s σ H _ I h) λc s1 ⟨H1,I1,q1⟩=>?_);cases c with
 |true=>exact⟨H1,I1,q1⟩
 |false=>exact hb wh aB s1 σ H1 Q I1 q1
theorem qDe(ha:PT X a tA):PT X (.UnaryOp .Not a pos) (zCk tA):=by
 intro aB s σ H Q I h;exact isTrue_not (ha aB s σ H (λc H1=>Q (!c) H1) I h)
def zA4(ta tb:TE):TE:=λσ H Q=>ta σ H λx H1=>∃c,x = .bl c/\if c=true then tb σ H1 Q else Q (.bl false) H1
theorem qVn{op}{t:TE}(h:PE X a t):PE X (.BoolOp op [a] pos) t:=λaB s σ H Q I hw=>BoolOp_one (h aB s σ H Q I hw)
theorem qVo(ha:PE X a ta)(hb:PE X (.BoolOp .And (b :: rest) pos) tb):PE X (.BoolOp .And (a :: b :: rest) pos) (zA4 ta tb):=by
 intro aB s σ H Q I h;refine BoolOp_and (thn (ha aB s σ H _ I h) λv s1 ⟨x,H1,I1,r1,q1⟩=>?_);obtain⟨c,rfl,q1⟩:=q1;cases r1;refine hFy ?_;cases c with
 |true=>exact hb aB s1 σ H1 Q I1 q1
 |false=>exact⟨.bl false,H1,I1,rfl,q1⟩
def tIf(t:TT)(ta tb:TE):TE:=λσ H Q=>t σ H λc H1=>if c=true then ta σ H1 Q else tb σ H1 Q
theorem qTy{c:Expr}(hc:PT X c tA)(ha:PE X a ta)(hb:PE X b tb):PE X (.IfExp c a b pos) (tIf tA ta tb):=by
 intro aB s σ H Q I h;refine wpAny_IfExp (thn (hc aB s σ H _ I h) λd s1 ⟨H1,I1,q1⟩=>?_);cases d with
 |true=>exact ha aB s1 σ H1 Q I1 q1
 |false=>exact hb aB s1 σ H1 Q I1 q1
end
def SqL(K:PySem.W.Frag)(H:Hp)(a:Addr)(xs:List V):Prop :=
 Rd H a (.lst xs) \/
  ∃(o:Obj) (its:Array Value) (n:Nat),K.lookup a=some o/\o.cls = .type "list"/\o.dict=none/\o.data = .seq its n/\its.size<=sizeLine/\qBd xs its.toList
def SqT(K:PySem.W.Frag)(H:Hp)(a:Addr)(xs:List V):Prop :=
 Rd H a (.tup xs) \/
  ∃(o:Obj) (its:Array Value) (n:Nat),K.lookup a=some o/\o.cls = .type "tuple"/\o.data = .seq its n/\its.size<=sizeLine/\qBd xs its.toList
noncomputable def zC7:Value->Option V
 |.none=>some .non
 |.bool b=>some (.bl b)
 |.int i _=>some (.int i)
 |.str x _=>some (.str x)
 |.bytes b _=>some (.byt b)
 |.float b _=>some (.flt b)
 |.ref a=>some (.ref a)
 |.type n=>some (.ty n)
 |_=>none
theorem qBx.abs{x:V}{u:Value}(r:qBx x u):zC7 u=some x:=by
 cases x with
 |non=>cases r;rfl
 |bl _=>cases r;rfl
 |int _=>obtain⟨t,rfl⟩:=r;rfl
 |str _=>obtain⟨t,rfl⟩:=r;rfl
 |byt _=>obtain⟨t,rfl⟩:=r;rfl
 |flt _=>obtain⟨t,rfl⟩:=r;rfl
 |ref _=>cases r;rfl
 |ty _=>cases r;rfl
theorem qBx.inj{x y:V}{u:Value}(r:qBx x u)(q:qBx y u):x=y:=hAh (r.abs.symm.trans q.abs)
theorem qBd.inj:∀ {xs ys:List V} {us:List Value},qBd xs us->qBd ys us->xs=ys
 |_,_,_,.nil,.nil=>rfl
 |_,_,_,.cons r t,.cons r' t'=>by rw[r.inj r',qBd.inj t t']
section
variable{X:Cx}{aB:List (Addr×Obj)}{σ:St}{H:Hp}{s:Shared}{a:Addr}{xs ys:List V}
theorem SqL.of{K:PySem.W.Frag}(h:H a=some (.lst xs)):SqL K H a xs:=.inl (.inl h)
theorem SqT.of{K:PySem.W.Frag}(h:H a=some (.tup xs)):SqT K H a xs:=.inl (.inl h)
theorem Inv.list(I:Inv X aB σ H s)(h:SqL X.K H a xs):∃its:List Value,qBd xs its/\PlainL s.heap a its.toArray/\xs.length<=sizeLine:=by
 rcases h with h|⟨o,its,n,hk,hc,hd,hs,hz,r⟩
 ·obtain⟨z,its,n,r,e⟩:=h.ok I.hok;exact⟨its,r,⟨_,n,e,rfl,rfl,rfl⟩,z⟩
 ·refine⟨its.toList,r,⟨o,n,I.kIn a o hk,hc,hd,by simpa using hs⟩,?_⟩;have e:=r.length;simp only[hBb]at e;omega
theorem Inv.tuple(I:Inv X aB σ H s)(h:SqT X.K H a xs):∃its:List Value,qBd xs its/\IsTup s.heap a its.toArray/\xs.length<=sizeLine:=by
 rcases h with h|⟨o,its,n,hk,hc,hs,hz,r⟩
 ·obtain⟨z,its,r,p⟩:=h.ok I.hok;exact⟨its,r,p,z⟩
 ·refine⟨its.toList,r,⟨o,I.kIn a o hk,hc,n,by simpa using hs⟩,?_⟩;have e:=r.length;simp only[hBb]at e;omega
theorem Inv.list_inj(I:Inv X aB σ H s)(h:SqL X.K H a xs)(h':SqL X.K H a ys):xs=ys:=by
 obtain⟨its,r,⟨o,n,e,_,_,d⟩,_⟩:=I.list h;obtain⟨its',r',⟨o',n',e',_,_,d'⟩,_⟩:=I.list h';rw[e]at e';cases e';rw[d]at d';injection d' with d1 _
 have:its=its':=by simpa using congrArg Array.toList d1
 subst this;exact r.inj r'
theorem Inv.tuple_inj(I:Inv X aB σ H s)(h:SqT X.K H a xs)(h':SqT X.K H a ys):xs=ys:=by
 obtain⟨its,r,⟨o,e,_,n,d⟩,_⟩:=I.tuple h;obtain⟨its',r',⟨o',e',_,n',d'⟩,_⟩:=I.tuple h';rw[e]at e';cases e';rw[d]at d';injection d' with d1 _
 have:its=its':=by simpa using congrArg Array.toList d1
 subst this;exact r.inj r'
end
noncomputable abbrev Cx.wish(X:Cx)(E:Value->Shared->Prop):Cx:={ X with xe:=E }
noncomputable abbrev Cx.nox(X:Cx):Cx:=X.wish λ_ _=>False
theorem Cx.Ok.wish{X:Cx}(ok:X.Ok)(E:Value->Shared->Prop):(X.wish E).Ok :=
 ⟨ok.mod,ok.kind,ok.glob,ok.blt,ok.above,ok.inj,ok.has,ok.cab,ok.hd,ok.frames,ok.stk,ok.exf,ok.bs,ok.bsz,ok.noex,ok.exfs,ok.funs,ok.frf⟩
theorem Cx.Ok.unwish{X:Cx}{E:Value->Shared->Prop}(ok:(X.wish E).Ok):X.Ok :=
 ⟨ok.mod,ok.kind,ok.glob,ok.blt,ok.above,ok.inj,ok.has,ok.cab,ok.hd,ok.frames,ok.stk,ok.exf,ok.bs,ok.bsz,ok.noex,ok.exfs,ok.funs,ok.frf⟩
section
variable{X:Cx}{aB:List (Addr×Obj)}{σ:St}{H:Hp}{s:Shared}{E:Value->Shared->Prop}
theorem Inv.wish(I:Inv X aB σ H s)(E:Value->Shared->Prop):Inv (X.wish E) aB σ H s:=⟨I.ok.wish E,I.os,I.bare,I.base,I.loc,I.cell,I.free,I.freeC,I.pin,I.hok,I.len⟩
theorem Inv.unwish(I:Inv (X.wish E) aB σ H s):Inv X aB σ H s:=⟨I.ok.unwish,I.os,I.bare,I.base,I.loc,I.cell,I.free,I.freeC,I.pin,I.hok,I.len⟩
theorem SP.unwish{D:Ends}{f:Flow}{s':Shared}(h:SP (X.wish E) aB D f s'):SP X aB D f s':=by
 cases f with
 |next=>obtain⟨σ',H',I,q⟩:=h;exact⟨σ',H',I.unwish,q⟩
 |brk=>obtain⟨σ',H',I,q⟩:=h;exact⟨σ',H',I.unwish,q⟩
 |cont=>obtain⟨σ',H',I,q⟩:=h;exact⟨σ',H',I.unwish,q⟩
 |ret u=>obtain⟨v,σ',H',I,r,q⟩:=h;exact⟨v,σ',H',I.unwish,r,q⟩
theorem PSs.nox{st:List Stmt}{t:TS}(h:PSs X.nox st t):PSs X st t:=λaB s σ H D I hw =>
 hF2 (h aB s σ H D (I.wish _) hw) (λ_ _ q=>q.unwish) λ_ _ z=>False.elim z
end
section
variable{X:Cx}{st:Stmt}{rest:List Stmt}{t u:TS}{e:Expr}{te:TE}{pos:Pos}
noncomputable def qYr:TS:=λD σ H=>D.nx σ H
def zB4(t u:TS):TS:=λD σ H=>t { D with nx:=u D } σ H
theorem qBy:PSs X [] qYr:=λ_ _ σ H _ I h=>hG9 ⟨σ,H,I,h⟩
theorem qAa(h1:PS X st t)(h2:PSs X rest u):PSs X (st :: rest) (zB4 t u):=by
 intro aB s σ H D I h;refine wpAny_execs_cons (thn (h1 aB s σ H { D with nx:=u D } I h) λf s1 q=>?_);cases f with
 |next =>
  obtain⟨σ',H',I',q⟩:=q;exact h2 aB s1 σ' H' D I' q
 |ret v=>exact q
 |brk=>exact q
 |cont=>exact q
theorem qAi(h1:PS X st t):PSs X [st] t:=by
 intro aB s σ H D I h;refine wpAny_execs_cons (thn (h1 aB s σ H D I h) λf s1 q=>?_);cases f with
 |next=>exact hG9 q
 |ret v=>exact q
 |brk=>exact q
 |cont=>exact q
theorem Inv.quiet{aB:List (Addr×Obj)}{σ:St}{H:Hp}{s:Shared}(I:Inv X aB σ H s):interactive X.env=false:=by simp[interactive,I.ok.kind]
noncomputable def zA2(te:TE):TS:=λD σ H=>te σ H λ_ H1=>D.nx σ H1
theorem qDa(he:PE X e te)(hs:swapsWith e none pos.line X.env=pure false:=by rfl):PS X (.Expr e pos) (zA2 te):=by
 intro aB s σ H D I h;exact wpAny_Expr_any (thn (he aB s σ H _ I h) λv s1 ⟨x,H1,I1,r1,q1⟩=>⟨σ,H1,I1,q1⟩) I.quiet hs
def zCh(te:TE):TS:=λD σ H=>te σ H D.rt
theorem qA2(he:PE X e te):PS X (.Return (some e) pos) (zCh te):=by
 intro aB s σ H D I h;exact wpAny_Return_some (thn (he aB s σ H _ I h) λv s1 ⟨x,H1,I1,r1,q1⟩=>⟨x,σ,H1,I1,r1,q1⟩)
def zB6(c:TT)(t u:TS):TS:=λD σ H=>c σ H λb H1=>if b=true then t D σ H1 else u D σ H1
theorem qC9{c:Expr}{a b:List Stmt}{tc:TT}(hc:PT X c tc)(ha:PSs X a t)(hb:PSs X b u):PS X (.If c a b pos) (zB6 tc t u):=by
 intro aB s σ H D I h;refine wpAny_If (thn (hc aB s σ H _ I h) λd s1 ⟨H1,I1,q1⟩=>?_);cases d with
 |true=>exact ha aB s1 σ H1 D I1 q1
 |false=>exact hb aB s1 σ H1 D I1 q1
end
abbrev TG:=V->St->Hp->(St->Hp->Prop)->Prop
abbrev TGs:=List V->St->Hp->(St->Hp->Prop)->Prop
def PG(X:Cx)(target:Expr)(t:TG):Prop :=
 ∀(aB:List (Addr×Obj)) (s:Shared) (σ:St) (H:Hp) (v:V) (u:Value) (Q:St->Hp->Prop),Inv X aB σ H s->qBx v u->t v σ H Q ->
  wpAny (model X.prog X.w) X.A (assign target X.env u) (λ_ s'=>∃σ' H',Inv X aB σ' H' s'/\Q σ' H') X.xe s
def PGs(X:Cx)(ts:List Expr)(t:TGs):Prop :=
 ∀(aB:List (Addr×Obj)) (s:Shared) (σ:St) (H:Hp) (vs:List V) (us:List Value) (Q:St->Hp->Prop),Inv X aB σ H s->qBd vs us->t vs σ H Q ->
  wpAny (model X.prog X.w) X.A (assignInOrder ((assignEach ts X.env).map (·.2)) us) (λ_ s'=>∃σ' H',Inv X aB σ' H' s'/\Q σ' H') X.xe s
abbrev zBy:=V->V->V->Hp->(Hp->Prop)->Prop
def zCe(X:Cx)(t:zBy):Prop :=
 ∀(aB:List (Addr×Obj)) (s:Shared) (σ:St) (H:Hp) (o i v:V) (ov iv u:Value) (Q:Hp->Prop),Inv X aB σ H s->qBx o ov->qBx i iv->qBx v u->t o i v H Q ->
  wpAny (model X.prog X.w) X.A (setItem ov iv u) (λ_ s'=>∃H',Inv X aB σ H' s'/\Q H') X.xe s
section
variable{X:Cx}{pos:Pos}
def qKz(i:Nat):TG:=λv σ H Q=>Q (σ.set i (some v)) H
theorem qAf{i:Nat}{x:Str}(hN:X.N.Nodup)(hi:X.N[i]?=some x)(hx:Loc X.env.scope x)(hf:X.fn x=true\/X.env.scope.names.lookup x=some .local:=by exact kO2):PG X (.Name x pos) (qKz i):=by
 intro aB s σ H v u Q I r h;exact wpAny_assign_Name (qGb I hN hi hx r (λs' I'=>⟨_,H,I',h⟩) hf)
def zC3:TGs:=λvs σ H Q=>vs=[]/\Q σ H
def zBt(t:TG)(u:TGs):TGs:=λvs σ H Q=>∃v r,vs=v :: r/\t v σ H λσ' H'=>u r σ' H' Q
theorem qA3:PGs X [] zC3:=by
 intro aB s σ H vs us Q I r h;obtain⟨e,h⟩:=h;subst e;cases r;exact assignInOrder_nil ⟨σ,H,I,h⟩
theorem qAg{e:Expr}{es:List Expr}{t:TG}{u:TGs}(h1:PG X e t)(h2:PGs X es u)
  (hs:(assignEach (e :: es) X.env).map (·.2)=assign e X.env :: (assignEach es X.env).map (·.2):=by rfl):PGs X (e :: es) (zBt t u):=by
 intro aB s σ H vs us Q I r h;obtain⟨v,vr,e1,h⟩:=h;subst e1;cases r with
 |cons r rr =>
  rw[hs];refine assignInOrder_cons (thn (h1 aB s σ H _ _ _ I r h) λ_ s1 ⟨σ1,H1,I1,q1⟩=>?_);exact h2 aB s1 σ1 H1 _ _ Q I1 rr q1
def qPt(K:PySem.W.Frag)(n:Nat)(t:TGs):TG:=λv σ H Q=>∃a xs,v = .ref a/\SqT K H a xs/\xs.length=n/\t xs σ H Q
theorem qBt{es:List Expr}{k:Nat}{t:TGs}{n:Nat}(hc:X.calm=true)(h:PGs X es t)
  (hn:(assignEach es X.env).length=n:=by rfl) (hst:(assignEach es X.env).findIdx? (·.1)=none:=by rfl):PG X (.Tuple es k pos) (qPt X.K n t):=by
 intro aB s σ H v u Q I r hw;obtain⟨a,xs,e1,hq,hl,hw⟩:=hw;subst e1;cases r;obtain⟨its,rv,ht,hz⟩:=I.tuple hq;refine assign_Tuple_tuple (I.ok.hd hc) ht (by simp[hn,<-hl,rv.length]) hst λh' hx=>?_
 have I1:Inv X aB σ H { s with heap:=h' }:=I.kept (t':=s.toks) λb o e=>hx b o (hAt (Heap.lt_size e)) e
 exact h aB _ σ H xs _ Q I1 (by simpa using rv) hw
def zC2(to ti:TE)(t:zBy):TG:=λv σ H Q=>to σ H λo H1=>ti σ H1 λi H2=>t o i v H2 λH3=>Q σ H3
theorem qKe{o i:Expr}{to ti:TE}{t:zBy}(ho:PE X o to)(hi:PE X i ti)(hs:zCe X t)
  (ha:∀v,assign (.Subscript o i pos) X.env v=(do
   let ov ← holding [v] (eval o X.env)
   let iv ← holding [v,ov] (eval i X.env)
   standAt pos
   holding [v,ov,iv] (setItem ov iv v)
   release [v,ov,iv] []):=by intro _;rfl):PG X (.Subscript o i pos) (zC2 to ti t):=by
 intro aB s σ H v u Q I r h;rw[ha];refine hEp (hEy (thn (ho aB s σ H _ I h) λov s1 ⟨x,H1,I1,r1,q1⟩=>?_));refine hEp (hEy (thn (hi aB s1 σ H1 _ I1 q1) λiv s2 ⟨y,H2,I2,r2,q2⟩=>?_));refine hEp (hF9 (hEp (hEy (thn (hs aB s2 σ H2 x y v ov iv u _ I2 r1 r2 r q2) λ_ s3 ⟨H3,I3,q3⟩=>?_))));exact wpAny_release ⟨σ,H3,I3,q3⟩
def qYh(te:TE)(g:TG):TS:=λD σ H=>te σ H λx H1=>g x σ H1 D.nx
theorem qEx{tg e:Expr}{te:TE}{g:TG}(he:PE X e te)(hg:PG X tg g)(hs:swapsWithSole [tg] e pos.line X.env=pure false:=by rfl)(hw:swappedStores [tg] e X.env=pure none:=by rfl)
  (h1:(assignEach [tg] X.env).map (·.2)=[assign tg X.env]:=by rfl):PS X (.Assign [tg] e pos) (qYh te g):=by
 intro aB s σ H D I h;refine wpAny_Assign_stores (thn (he aB s σ H _ I h) λv s1 ⟨x,H1,I1,r1,q1⟩=>?_) hs hw;rw[h1];exact thn (hg aB s1 σ H1 x v _ I1 r1 q1) λ_ s2 q=>q
theorem qAr{i:Nat}{x:Str}{e:Expr}{te:TE}{pos':Pos}(hN:X.N.Nodup)(hi:X.N[i]?=some x)(hx:Loc X.env.scope x)(he:PE X e te)(hs:swapsWith e (some (.Name x pos')) pos.line X.env=pure false:=by rfl)(hf:X.fn x=true\/X.env.scope.names.lookup x=some .local:=by exact kO2) :
  PS X (.Assign [.Name x pos'] e pos) (qYh te (qKz i)):=by
 intro aB s σ H D I h;refine wpAny_Assign_Name (thn (he aB s σ H _ I h) λv s1 ⟨y,H1,I1,r1,q1⟩=>?_) hs;exact qGb I1 hN hi hx r1 (λs2 I2=>⟨_,H1,I2,q1⟩) hf
def zCj(i j:Nat)(ta:TA):TS:=λD σ H=>ta σ H λvs H1=>∃v w,vs=[v,w]/\D.nx ((σ.set i (some v)).set j (some w)) H1
theorem qZi{i j:Nat}{x y:Str}{a b:Expr}{ta:TA}{px py pt:Pos}{kt k2 pt2}(hc:X.calm=true)(hN:X.N.Nodup)(hi:X.N[i]?=some x)(hj:X.N[j]?=some y)(hij:i≠j)
  (hx:X.env.scope.names.lookup x=some .local) (hy:X.env.scope.names.lookup y=some .local) (ha:PA X [a,b] ta)
  (hw:swappedStores [.Tuple [.Name x px,.Name y py] kt pt] (.Tuple [a,b] k2 pt2) X.env=pure (some [x,y]))
  (hs:swapsWithSole [.Tuple [.Name x px,.Name y py] kt pt] (.Tuple [a,b] k2 pt2) pos.line X.env=pure false:=by rfl) :
  PS X (.Assign [.Tuple [.Name x px,.Name y py] kt pt] (.Tuple [a,b] k2 pt2) pos) (zCj i j ta):=by
 intro aB s σ H D I h;rw[exec_Assign_arm];refine hEp (hF9 ?_);rw[hs];refine hEp (hEq ?_);rw[hEr (by decide)];refine hEp (Tuple_ (thn (ha _ aB s σ H _ I h) λus s1 ⟨vs,H1,I1,r1,q1⟩=>?_));obtain⟨v,w,e1,q1⟩:=q1;subst e1;obtain⟨u1,u2,rfl,rv,rw'⟩:∃u1 u2,us=[u1,u2]/\qBx v u1/\qBx w u2:=by
  cases r1 with
  |cons p q =>
   cases q with
   |cons p' q' =>
    cases q';exact⟨_,_,rfl,p,p'⟩
 refine hEw ?_ (by show 2<=sizeLine;decide);have I2:Inv X aB σ H1 { s1 with heap:=s1.heap.push { cls:=.type "tuple",data:=.seq [u1,u2].toArray } }:=I1.kept (t':=s1.toks) λb o e=>Heap.get?_push_of_some _ e
 rw[hw];refine hEp (hEq ?_);show wpAny (model X.prog X.w) X.A (do rule "assign.swapped-stores";let items ← unpackItems (.ref s1.heap.objs.size) 2 none;assignInOrder [λv=>bindName X.env y v,λv=>bindName X.env x v] items.reverse;pure Flow.next) _ _ _;refine hEp (hFz (hEp (unpackItems_tuple (items:=#[u1,u2]) (I.ok.hd hc) (IsTup.new s1.heap _) λh' hx'=>?_)));have I3:=I2.kept (h':=h') (t':=s1.toks) λb o e=>hx' b o (hAt (Heap.lt_size e)) e
 show wpAny _ _ (assignInOrder [λv=>bindName X.env y v,λv=>bindName X.env x v] [u2,u1] >>= λ_=>pure Flow.next) _ _ _;refine hEp (assignInOrder_cons (wpAny_bindName (qGb I3 hN hj (.inl hy) rw' (λs2 I4=>?_) (.inr hy))));refine assignInOrder_cons (wpAny_bindName (qGb I4 hN hi (.inl hx) rv (λs3 I5=>assignInOrder_nil (hEq ?_)) (.inr hx)));rw[List.set_comm _ _ (Ne.symm hij)]at I5;exact⟨_,H1,I5,q1⟩
end
section
variable{X:Cx}{pos:Pos}
def qYq(c:TT)(tb:TS):TS:=λD σ H=>∃W:Nat->St->Hp->Prop,(∃m,W m σ H)/\∀m σ H,W m σ H ->
 c σ H λb H1=>if b=true then ∃N:St->Hp->Prop,(∀σ' H',N σ' H'->∃m',m'<m/\W m' σ' H')/\tb { D with nx:=N,ct:=N,bk:=D.nx } σ H1 else D.nx σ H1
theorem qN5{c:Expr}{body:List Stmt}{tc:TT}{tb:TS}(hp:PassesOwn (model X.prog X.w) X.A X.env X.xe)(hc:PT X c tc)(hb:PSs X body tb):PS X (.While c body [] pos) (qYq tc tb):=by
 intro aB s σ H D I h;obtain⟨W,⟨m0,w0⟩,turn⟩:=h;refine wpAny_While (codeAny_whileLoop (λn s'=>∃σ' H',Inv X aB σ' H' s'/\W n σ' H') ?_ m0 ⟨σ,H,I,w0⟩);rintro n s1 ⟨σ1,H1,I1,w1⟩;refine hFk hp (thn (hc aB s1 σ1 H1 _ I1 (turn n σ1 H1 w1)) λb s2 ⟨H2,I2,q2⟩=>?_);cases b with
 |true =>
  obtain⟨N,hN,q2⟩:=q2;rw[hEs rfl];refine hFk hp (thn (hb aB s2 σ1 H2 _ I2 q2) λf s3 q3=>?_);cases f with
  |next =>
   obtain⟨σ3,H3,I3,n3⟩:=q3;obtain⟨m',hm,w3⟩:=hN σ3 H3 n3;exact⟨m',hm,σ3,H3,I3,w3⟩
  |cont =>
   obtain⟨σ3,H3,I3,n3⟩:=q3;obtain⟨m',hm,w3⟩:=hN σ3 H3 n3;exact⟨m',hm,σ3,H3,I3,w3⟩
  |brk=>exact q3
  |ret v=>exact q3
 |false =>
  rw[hEr hAo];exact hG9 ⟨σ1,H2,I2,q2⟩
end
structure It where
 go:Nat->Hp->Prop
 yld:Nat->Hp->V->Hp->Prop
 stop:Nat->Hp->Prop
def qJw(X:Cx)(aB:List (Addr×Obj))(H:Hp)(b:Addr):Prop :=
 H b=none/\b≠X.env.locals/\b∉X.fs/\(b∈X.ex\/X.s₀.heap.objs.size<=b)/\(∀x c,X.env.cells.lookup x=some c->c≠b)/\∀p∈X.pn++aB,p.1≠b
theorem Inv.fpOk{X:Cx}{aB:List (Addr×Obj)}{σ:St}{H H':Hp}{s:Shared}{b:Addr}(I:Inv X aB σ H s)(hb:s.heap.objs.size<=b)(hn:H' b=none):qJw X aB H' b:=by
 refine⟨hn,hCn (hBc I.lt hb),I.nofs hb,.inr (hBa I.sz hb),λx c e z=>?_,λp hp z=>?_⟩
 ·obtain⟨v,q⟩:=I.cell x c e;exact absurd (hBc q.lt (by rw[z];exact hb)) (hBu _)
 ·exact absurd (hBc (Heap.lt_size (I.pin p hp).1) (by rw[z];exact hb)) (hBu _)
structure Turn(P:Program)(w:World)(K:PySem.W.Frag)(tg:Expr)(J:It)(fp:List Addr)(it:Addr)(tn:Nat->Heap->Prop)(c:Cx->Prop:=λX=>X.calm=true):Prop where
 mem:it∈fp
 obj:∀i h,tn i h->∀b∈fp,∃o,h.get? b=some o/\∀v,o.data≠.cell v
 keep:∀i h h',tn i h->(∀b∈fp,∀o,h.get? b=some o->h'.get? b=some o)->tn i h'
 item:∀(X:Cx),X.prog=P->X.w=w->X.K=K->c X->∀(i:Nat) (aB:List (Addr×Obj)) (s:Shared) (σ:St) (H:Hp) (E:Value->Shared->Prop),Inv X aB σ H s->(∀b∈fp,qJw X aB H b)->tn i s.heap->J.go i H ->
  wpAny (model P w) X.A (pyNext (.ref it)) (λr s1=>∃u,r=some u /\
   wpAny (model P w) X.A (letOwnedTupleGo tg (.ref it) u) (λ_ s2=>∃x H',Inv X aB σ H' s2/\qBx x u/\J.yld i H x H'/\tn (i+1) s2.heap/\∀b∈fp,H' b=none) E s1) E s
 done:∀(X:Cx),X.prog=P->X.w=w->X.K=K->c X->∀(i:Nat) (aB:List (Addr×Obj)) (s:Shared) (σ:St) (H:Hp) (E:Value->Shared->Prop),Inv X aB σ H s->(∀b∈fp,qJw X aB H b)->tn i s.heap->J.stop i H ->
  wpAny (model P w) X.A (pyNext (.ref it)) (λr s1=>r=none/\Inv X aB σ H s1) E s
 self:∀(A:Around) (i:Nat) (s:Shared) (Q:Value->Shared->Prop) (E:Value->Shared->Prop),tn i s.heap->Q (.ref it) s->wpAny (model P w) A (pyIter (.ref it)) Q E s
abbrev TI:=St->Hp->(It->Hp->Prop)->Prop
def PIE(X:Cx)(aB:List (Addr×Obj))(σ:St)(tg:Expr)(R:It->Hp->Prop)(itv:Value)(s2:Shared):Prop :=
 ∃(it:Addr) (fp:List Addr) (tn:Nat->Heap->Prop) (J:It) (H':Hp),itv = .ref it/\Inv X aB σ H' s2/\Turn X.prog X.w X.K tg J fp it tn/\tn 0 s2.heap/\(∀b∈fp,qJw X aB H' b)/\R J H'
def PI(X:Cx)(tg iter:Expr)(wi:TI):Prop :=
 ∀(aB:List (Addr×Obj)) (s:Shared) (σ:St) (H:Hp) (R:It->Hp->Prop),Inv X aB σ H s->wi σ H R ->
  wpAny (model X.prog X.w) X.A (eval iter X.env) (λv s1=>wpAny (model X.prog X.w) X.A (pyIter v) (PIE X aB σ tg R) X.xe s1) X.xe s
theorem qPh{M:Model}{A:Around}{E:Value->Shared->Prop}{s:Shared}{tg:Expr}{it:Addr}{u:Value}{o:Obj}{n:String}{vs:Array Value}{Q:Unit->Shared->Prop}(ho:s.heap.get? it=some o)(hc:o.cls = .type n)(hd:o.data = .fields vs)
  (hn:["enumerate","zip","dict_itemiterator","dict_reverseitemiterator","odict_iterator","itertools.zip_longest","itertools.pairwise"].contains n=false) (hQ:Q () s):wpAny M A (letOwnedTupleGo tg (.ref it) u) Q E s:=by
 unfold letOwnedTupleGo;cases tg <;> first
  |exact hEq hQ
  |(cases u <;> first
    |exact hEq hQ
    |(refine hEp (wpAny_load ho ?_);rw[hc,hd];show wpAny M A (if (["enumerate","zip","dict_itemiterator","dict_reverseitemiterator","odict_iterator","itertools.zip_longest","itertools.pairwise"].contains n && vs[0]? == some (rawInt _))=true then _ else _) Q E s;rw[hEr (by intro h;rw[hn,Bool.false_and]at h;cases h)];exact hEq hQ))
noncomputable def Itl(K:PySem.W.Frag)(a:Addr):It :=
 ⟨λi H=>∃xs x,SqL K H a xs/\xs[i]?=some x,λi H x H'=>H'=H/\∀xs,SqL K H a xs->xs[i]?=some x,λi H=>∃xs,SqL K H a xs/\xs.length<=i⟩
noncomputable def Itt(K:PySem.W.Frag)(a:Addr):It :=
 ⟨λi H=>∃xs x,SqT K H a xs/\xs[i]?=some x,λi H x H'=>H'=H/\∀xs,SqT K H a xs->xs[i]?=some x,λi H=>∃xs,SqT K H a xs/\xs.length<=i⟩
noncomputable def Itr(lo:Int)(n:Nat):It:=⟨λi _=>i<n,λi H x H'=>H'=H/\x = .int (lo+i),λi _=>n<=i⟩
theorem qPx{P:Program}{w:World}{K:PySem.W.Frag}{tg:Expr}(a it:Addr):Turn P w K tg (Itl K a) [it] it (λi h=>h.IsListIter it a i) where
 mem:=by simp
 obj:=λi h st b hb=>by
  have e:b=it:=by simpa using hb
  subst e;obtain⟨o,e,c,d⟩:=st;exact⟨o,e,λv z=>by rw[d]at z;cases z⟩
 keep:=λi h h' st k=>st.at λo e=>k it (by simp) o e
 item:=by
  intro X hP hw hK hc i aB s σ H E I hf st hg;subst hP hw hK;obtain⟨xs,x,hq,hx⟩:=hg;obtain⟨its,rv,p,hz⟩:=I.list hq;obtain⟨u,hu,ru⟩:=rv.get hx;obtain⟨f0,f1,f2,f3,f4,f5⟩:=hf it (by simp);refine wpAny_pyNext_list_item st p.isList (x:=u) (by simpa using hu) λh' st' sb=>?_
  have I1:Inv X aB σ H { s with heap:=h' }:=I.turned (t':=s.toks) (λb o hb e=>(sb.2 b hb).trans e) f0 f1 f3 f4 f5;obtain⟨o,e,c,d⟩:=id st';exact⟨u,rfl,qPh (s:={ s with heap:=h' }) e c d (by decide) ⟨x,H,I1,ru,⟨rfl,λys hy=>by rw[I.list_inj hy hq];exact hx⟩,st',λb hb=>(hf b hb).1⟩⟩
 done:=by
  intro X hP hw hK hc i aB s σ H E I hf st hg;subst hP hw hK;obtain⟨xs,hq,hx⟩:=hg;obtain⟨its,rv,p,hz⟩:=I.list hq;obtain⟨f0,f1,f2,f3,f4,f5⟩:=hf it (by simp);have hl:=rv.length;exact wpAny_pyNext_list_end (I.ok.hd hc) st p.isList (by simp;omega) λh' eb=>⟨rfl,I.turned (t':=s.toks) (λb o hb e=>eb b o hb e) f0 f1 f3 f4 f5⟩
 self:=λ_ _ _ _ _ st h=>wpAny_pyIter_listiter st h
theorem qO0{P:Program}{w:World}{K:PySem.W.Frag}{tg:Expr}(a it:Addr):Turn P w K tg (Itt K a) [it] it (λi h=>h.IsTupleIter it a i) where
 mem:=by simp
 obj:=λi h st b hb=>by
  have e:b=it:=by simpa using hb
  subst e;obtain⟨o,e,c,d⟩:=st;exact⟨o,e,λv z=>by rw[d]at z;cases z⟩
 keep:=λi h h' st k=>st.at λo e=>k it (by simp) o e
 item:=by
  intro X hP hw hK hc i aB s σ H E I hf st hg;subst hP hw hK;obtain⟨xs,x,hq,hx⟩:=hg;obtain⟨its,rv,p,hz⟩:=I.tuple hq;obtain⟨u,hu,ru⟩:=rv.get hx;obtain⟨f0,f1,f2,f3,f4,f5⟩:=hf it (by simp);refine wpAny_pyNext_tuple_item st (show s.heap.IsTuple a its.toArray from p) (x:=u) (by simpa using hu) λh' st' sb=>?_
  have I1:Inv X aB σ H { s with heap:=h' }:=I.turned (t':=s.toks) (λb o hb e=>(sb.2 b hb).trans e) f0 f1 f3 f4 f5;obtain⟨o,e,c,d⟩:=id st';exact⟨u,rfl,qPh (s:={ s with heap:=h' }) e c d (by decide) ⟨x,H,I1,ru,⟨rfl,λys hy=>by rw[I.tuple_inj hy hq];exact hx⟩,st',λb hb=>(hf b hb).1⟩⟩
 done:=by
  intro X hP hw hK hc i aB s σ H E I hf st hg;subst hP hw hK;obtain⟨xs,hq,hx⟩:=hg;obtain⟨its,rv,p,hz⟩:=I.tuple hq;obtain⟨f0,f1,f2,f3,f4,f5⟩:=hf it (by simp);have hl:=rv.length;exact wpAny_pyNext_tuple_end (I.ok.hd hc) st (show s.heap.IsTuple a its.toArray from p) (by simp;omega) λh' eb=>⟨rfl,I.turned (t':=s.toks) (λb o hb e=>eb b o hb e) f0 f1 f3 f4 f5⟩
 self:=λ_ _ _ _ _ st h=>wpAny_pyIter_tupleiter st h
theorem qO1{P:Program}{w:World}{K:PySem.W.Frag}{tg:Expr}(it:Addr)(lo:Int)(n:Nat):Turn P w K tg (Itr lo n) [it] it (λi h=>IsRangeIter h it (lo+(i:Nat)*1) ((n:Int)-(i:Nat)) 1) where
 mem:=by simp
 obj:=λi h st b hb=>by
  have e:b=it:=by simpa using hb
  subst e;exact⟨_,st,λv z=>by
   have z':Data.fields _=Data.cell v:=z;cases z'⟩
 keep:=λi h h' st k=>k it (by simp) _ st
 item:=by
  intro X hP hw hK hc i aB s σ H E I hf st hg;subst hP hw hK;obtain⟨f0,f1,f2,f3,f4,f5⟩:=hf it (by simp);have W:=Walks.range (prog:=X.prog) (w:=X.w) (I.ok.hd hc) it lo 1 n;refine W.item i s _ _ hg st λv h' tk hv st' kk=>?_
  obtain⟨t,rfl⟩:=hv;have I1:Inv X aB σ H { s with heap:=h',toks:=tk }:=I.turned (λb o hb e=>kk b o (by simpa using hb) e) f0 f1 f3 f4 f5;refine⟨_,rfl,qPh (s:={ s with heap:=h',toks:=tk }) (n:="range_iterator") st' rfl rfl (by decide) ⟨.int (lo+i),H,I1,⟨t,?_⟩,⟨rfl,rfl⟩,st',λb hb=>(hf b hb).1⟩⟩;rw[Int.mul_one]
 done:=by
  intro X hP hw hK hc i aB s σ H E I hf st hg;subst hP hw hK;obtain⟨f0,f1,f2,f3,f4,f5⟩:=hf it (by simp);exact wpAny_pyNext_range_end (I.ok.hd hc) st (by have:n<=i:=hg;omega) λh' eb=>⟨rfl,I.turned (t':=s.toks) (λb o hb e=>eb b o hb e) f0 f1 f3 f4 f5⟩
 self:=λ_ _ _ _ _ st h=>wpAny_pyIter_rangeiter st h
section
variable{X:Cx}{tg:Expr}
def zBp(K:PySem.W.Frag)(tl:TE):TI:=λσ H R=>tl σ H λx H1=>∃a,x = .ref a/\(∃xs,SqL K H1 a xs)/\R (Itl K a) H1
def zBm(K:PySem.W.Frag)(tl:TE):TI:=λσ H R=>tl σ H λx H1=>∃a,x = .ref a/\(∃xs,SqT K H1 a xs)/\R (Itt K a) H1
theorem qA1{l:Expr}{tl:TE}(hl:PE X l tl):PI X tg l (zBp X.K tl):=by
 intro aB s σ H R I h;refine thn (hl aB s σ H _ I h) λv s1 ⟨x,H1,I1,r1,q1⟩=>?_
 obtain⟨a,e,⟨xs,hq⟩,q⟩:=q1;subst e;cases r1;obtain⟨its,rv,p,hz⟩:=I1.list hq;refine hFc p.isList ?_;refine⟨s1.heap.objs.size,[s1.heap.objs.size],_,_,H1,rfl,I1.kept (t':=s1.toks) λb o e=>Heap.get?_push_of_some _ e,qPx a _,⟨_,Heap.get?_push_size _ rfl,rfl,rfl⟩,λb hb=>?_,q⟩;have e:b=s1.heap.objs.size:=by simpa using hb
 subst e;exact I1.fpOk (hAj _) (I1.hok.fresh (hAj _))
theorem qQ5{l:Expr}{tl:TE}(hl:PE X l tl):PI X tg l (zBm X.K tl):=by
 intro aB s σ H R I h;refine thn (hl aB s σ H _ I h) λv s1 ⟨x,H1,I1,r1,q1⟩=>?_
 obtain⟨a,e,⟨xs,hq⟩,q⟩:=q1;subst e;cases r1;obtain⟨its,rv,p,hz⟩:=I1.tuple hq;refine wpAny_pyIter_tuple (show s1.heap.IsTuple a its.toArray from p) ?_;refine⟨s1.heap.objs.size,[s1.heap.objs.size],_,_,H1,rfl,I1.kept (t':=s1.toks) λb o e=>Heap.get?_push_of_some _ e,qO0 a _,⟨_,Heap.get?_push_size _ rfl,rfl,rfl⟩,λb hb=>?_,q⟩;have e:b=s1.heap.objs.size:=by simpa using hb
 subst e;exact I1.fpOk (hAj _) (I1.hok.fresh (hAj _))
theorem qN1{aB:List (Addr×Obj)}{σ:St}{H:Hp}{s:Shared}{R:It->Hp->Prop}{E:Value->Shared->Prop}{lo hi:Int}{t u v:Tok}{tk:Nat}(I:Inv X aB σ H s)(h1:-(2^62)<=lo)(h2:lo<2^62)(h3:-(2^62)<=hi)(h4:hi<2^62)
  (q:R (Itr lo (hi-lo).toNat) H):wpAny (model X.prog X.w) X.A (pyIter (.ref s.heap.objs.size)) (PIE X aB σ tg R) E { s with heap:=s.heap.push { cls:=.type "range",data:=.fields #[.int lo t,.int hi u,.int 1 v] },toks:=tk }:=by
 refine wpAny_pyIter_range (IsRange.new ..) (small_one h1 h2 h3 h4) ?_;have I1:Inv X aB σ H { s with heap:=s.heap.push { cls:=.type "range",data:=.fields #[.int lo t,.int hi u,.int 1 v] },toks:=tk }:=I.kept λb o e=>Heap.get?_push_of_some _ e
 refine⟨(s.heap.push { cls:=.type "range",data:=.fields #[.int lo t,.int hi u,.int 1 v] }).objs.size,[(s.heap.push { cls:=.type "range",data:=.fields #[.int lo t,.int hi u,.int 1 v] }).objs.size],_,_,H,rfl,
  I1.kept (t':=tk) λb o e=>Heap.get?_push_of_some _ e,qO1 _ lo (hi-lo).toNat,?_,λb hb=>?_,q⟩
 ·have e1:lo+((0:Nat):Int)*1=lo:=by simp
  have e2:(((hi-lo).toNat:Nat):Int)-((0:Nat):Int)=Builtin.Range.rangeSize lo hi 1:=by rw[rangeSize_one];split <;> omega
  show IsRangeIter _ _ (lo+((0:Nat):Int)*1) ((((hi-lo).toNat:Nat):Int)-((0:Nat):Int)) 1;rw[e1,e2];exact Heap.get?_push_size _ rfl
 ·have e:b=(s.heap.push { cls:=.type "range",data:=.fields #[.int lo t,.int hi u,.int 1 v] }).objs.size:=by simpa using hb
  subst e;exact I1.fpOk (hAj _) (I1.hok.fresh (hAj _))
def zBo(ta:TA):TI:=λσ H R=>ta σ H λvs H1=>∃j:Int,vs=[.int j]/\-(2^62)<=j/\j<2^62/\R (Itr 0 j.toNat) H1
noncomputable def zBn(ta:TA):TI:=λσ H R=>ta σ H λvs H1=>∃i j:Int,vs=[.int i,.int j]/\(-(2^62)<=i/\i<2^62/\-(2^62)<=j/\j<2^62)/\R (Itr i (j-i).toNat) H1
theorem qBz{a:Expr}{ta:TA}{p pos:Pos}(hg:Gl X "range")(hm:X.mg "range"=none)(ha:PA X [a] ta)(hs:starEach [a] X.env=[(false,eval a X.env)]:=by rfl):PI X tg (.Call (.Name "range" p) [a] [] pos) (zBo ta):=by
 intro aB s σ H R I h;refine Call_ (qG1 I hg hm boot_range (hDl (thn (ha pos aB s σ H _ I h) λus s1 ⟨vs,H1,I1,r1,q1⟩=>?_) hs rfl));obtain⟨j,e,q1,q2,q⟩:=q1;subst e;cases r1 with
 |cons r rr =>
  cases rr;obtain⟨t,rfl⟩:=r;exact call_range_1 (qN1 I1 (by omega) (by omega) q1 q2 (by simpa using q))
theorem qQ6{a b:Expr}{ta:TA}{p pos:Pos}(hg:Gl X "range")(hm:X.mg "range"=none)(ha:PA X [a,b] ta)(hs:starEach [a,b] X.env=[(false,eval a X.env),(false,eval b X.env)]:=by rfl)(hs2:starEach [b] X.env=[(false,eval b X.env)]:=by rfl) :
  PI X tg (.Call (.Name "range" p) [a,b] [] pos) (zBn ta):=by
 intro aB s σ H R I h;refine Call_ (qG1 I hg hm boot_range (hDl (thn (ha pos aB s σ H _ I h) λus s1 ⟨vs,H1,I1,r1,q1⟩=>?_) (by rw[hs,hs2]) (by rw[hs2];rfl)));obtain⟨i,j,e,⟨q1,q2,q3,q4⟩,q⟩:=q1;subst e;cases r1 with
 |cons r rr =>
  cases rr with
  |cons r' rr =>
   cases rr;obtain⟨t,rfl⟩:=r;obtain⟨t',rfl⟩:=r';exact call_range_2 (qN1 I1 q1 q2 q3 q4 q)
def zCl(wi:TI)(g:TG)(tb:TS):TS:=λD σ H=>wi σ H λJ H1=>∃W:Nat->Nat->St->Hp->Prop,(∃m,W 0 m σ H1)/\∀i m σ H,W i m σ H ->
 (J.stop i H/\D.nx σ H)\/(J.go i H/\∃N:St->Hp->Prop,(∀σ' H',N σ' H'->∃m',m'<m/\W (i+1) m' σ' H')/\∀x H',J.yld i H x H'->g x σ H' λσ2 H2=>tb { D with nx:=N,ct:=N,bk:=D.nx } σ2 H2)
noncomputable def pinsAt(fp:List Addr)(h:Heap):List (Addr×Obj):=fp.filterMap λb=>(h.get? b).map λo=>(b,o)
theorem qCc{fp:List Addr}{h:Heap}{b:Addr}{o:Obj}(hb:b∈fp)(e:h.get? b=some o):(b,o)∈pinsAt fp h:=List.mem_filterMap.mpr ⟨b,hb,by rw[e];rfl⟩
theorem qKm{fp:List Addr}{h:Heap}{p:Addr×Obj}(hp:p∈pinsAt fp h):p.1∈fp/\h.get? p.1=some p.2:=by
 obtain⟨b,hb,e⟩:=List.mem_filterMap.mp hp;cases q:h.get? b with
 |none=>rw[q]at e;cases e
 |some o =>
  rw[q]at e;have e':(b,o)=p:=hAh e;subst e';exact⟨hb,q⟩
theorem Inv.pinned{aB:List (Addr×Obj)}{σ:St}{H:Hp}{s:Shared}{fp:List Addr}(I:Inv X aB σ H s)(hf:∀b∈fp,qJw X aB H b)(ho:∀b∈fp,∃o,s.heap.get? b=some o/\∀v,o.data≠.cell v):Inv X (aB++pinsAt fp s.heap) σ H s :=
 I.pins_of λp hp=>(hAp.mp hp).elim (λz=>I.pin p (hAq _ z)) λz=>by
  obtain⟨hb,e⟩:=qKm z;obtain⟨f0,f1,f2,_⟩:=hf p.1 hb;obtain⟨o,e',d⟩:=ho p.1 hb;rw[e]at e';cases e';exact⟨e,f0,f1,f2,d⟩
theorem Inv.unpinned{aB pl:List (Addr×Obj)}{σ:St}{H:Hp}{s:Shared}(I:Inv X (aB++pl) σ H s):Inv X aB σ H s:=I.pins_of λp hp=>I.pin p (hAq _ (hAx _ hp))
theorem qB3{iter:Expr}{body:List Stmt}{wi:TI}{g:TG}{tb:TS}{pos:Pos}(hp:PassesOwn (model X.prog X.w) X.A X.env X.xe)(hc:X.calm=true)(hi:PI X tg iter wi)(hg:PG X tg g)(hb:PSs X body tb)
  (hs:∀x,foldedSetIterable iter X.env x=pure x:=by intro _;rfl):PS X (.For tg iter body [] pos) (zCl wi g tb):=by
 intro aB s σ H D I h;refine wpAny_For (thn (hi aB s σ H _ I h) λv s1 h1=>thn h1 λitv s2 h2=>?_) hs;obtain⟨it,fp,tn,J,H2,e,I2,T,st2,f2,W,⟨m0,w0⟩,turn⟩:=h2;subst e;have stat:∀ {H':Hp},(∀b∈fp,H' b=none)->∀b∈fp,qJw X aB H' b:=λhn b hb=>⟨hn b hb,(f2 b hb).2⟩
 refine codeAny_forLoop_any (λn s'=>∃i σ' H',Inv X aB σ' H' s'/\tn i s'.heap/\(∀b∈fp,H' b=none)/\W i n σ' H') ?_ m0 ⟨0,σ,H2,I2,st2,λb hb=>(f2 b hb).1,w0⟩;rintro n s3 ⟨i,σ3,H3,I3,st3,fr3,w3⟩;rcases turn i n σ3 H3 w3 with ⟨stop,qn⟩|⟨go,N,hN,step⟩
 ·refine hFk hp (thn (T.done X rfl rfl rfl hc i aB s3 σ3 H3 X.xe I3 (stat fr3) st3 stop) λr s4 ⟨hr,I4⟩=>?_);subst hr;exact hG9 ⟨σ3,H3,I4,qn⟩
 ·refine hFk hp (thn (T.item X rfl rfl rfl hc i aB s3 σ3 H3 X.xe I3 (stat fr3) st3 go) λr s4 ⟨u,hr,h4⟩=>?_);subst hr;refine hFk hp (thn h4 λ_ s5 ⟨x,H5,I5,r5,y5,st5,fr5⟩=>?_);have I5':=I5.pinned (stat fr5) (T.obj _ _ st5);refine hFk hp (thn (hg _ s5 σ3 H5 x u _ I5' r5 (step x H5 y5)) λ_ s6 ⟨σ6,H6,I6,q6⟩=>?_);refine hFk hp (thn (hb _ s6 σ6 H6 _ I6 q6) λf s7 q7=>?_);have again:∀ {σ7:St} {H7:Hp},Inv X (aB++pinsAt fp s5.heap) σ7 H7 s7->N σ7 H7->∃m,m<n/\∃i σ' H',Inv X aB σ' H' s7/\tn i s7.heap/\(∀b∈fp,H' b=none)/\W i m σ' H':=λ{σ7 H7} I7 n7=>by
   obtain⟨m',hm,w7⟩:=hN σ7 H7 n7;refine⟨m',hm,i+1,σ7,H7,I7.unpinned,T.keep _ _ _ st5 λb hb o e=>(I7.pin (b,o) (hAq _ (hAq _ (qCc hb e)))).1,λb hb=>?_,w7⟩;obtain⟨o,e,d⟩:=T.obj _ _ st5 b hb;exact(I7.pin (b,o) (hAq _ (hAq _ (qCc hb e)))).2.1
  cases f with
  |next=>obtain⟨σ7,H7,I7,n7⟩:=q7;exact again I7 n7
  |cont=>obtain⟨σ7,H7,I7,n7⟩:=q7;exact again I7 n7
  |brk=>obtain⟨σ7,H7,I7,q7⟩:=q7;exact⟨σ7,H7,I7.unpinned,q7⟩
  |ret v=>obtain⟨x7,σ7,H7,I7,r7,q7⟩:=q7;exact⟨x7,σ7,H7,I7.unpinned,r7,q7⟩
end
theorem qC6{K:PySem.W.Frag}{a:Addr}{xs:List V}{g:TG}{tb:TS}{D:Ends}{σ:St}{H:Hp}(Pv:Nat->St->Hp->Prop)(h0:Pv 0 σ H)(hl:∀i σ H,i<=xs.length->Pv i σ H->SqL K H a xs)
  (hs:∀i x σ H,xs[i]?=some x->Pv i σ H->g x σ H λσ2 H2=>tb { D with nx:=Pv (i+1),ct:=Pv (i+1),bk:=D.nx } σ2 H2) (hd:∀σ H,Pv xs.length σ H->D.nx σ H) :
  ∃W:Nat->Nat->St->Hp->Prop,(∃m,W 0 m σ H)/\∀i m σ H,W i m σ H ->
   ((Itl K a).stop i H/\D.nx σ H)\/((Itl K a).go i H/\∃N:St->Hp->Prop,(∀σ' H',N σ' H'->∃m',m'<m/\W (i+1) m' σ' H')/\∀x H',(Itl K a).yld i H x H'->g x σ H' λσ2 H2=>tb { D with nx:=N,ct:=N,bk:=D.nx } σ2 H2):=by
 refine⟨λi m σ H=>m=xs.length-i/\i<=xs.length/\Pv i σ H,⟨xs.length,by simp,hAy _,h0⟩,?_⟩;rintro i m σ H ⟨rfl,hi,p⟩;have q:=hl i σ H hi p;by_cases hlt:i<xs.length
 ·refine .inr ⟨⟨xs,xs[i],q,by simp[hlt]⟩,Pv (i+1),λσ' H' p'=>⟨xs.length-(i+1),by omega,rfl,hlt,p'⟩,λx H' y=>?_⟩;obtain⟨e,y⟩:=y;subst e;exact hs i x σ _ (y xs q) p
 ·have e:i=xs.length:=by omega
  subst e;exact .inl ⟨⟨xs,q,hAj _⟩,hd σ H p⟩
theorem qX4{K:PySem.W.Frag}{a:Addr}{xs:List V}{g:TG}{tb:TS}{D:Ends}{σ:St}{H:Hp}(Pv:Nat->St->Hp->Prop)(h0:Pv 0 σ H)(hl:∀i σ H,i<=xs.length->Pv i σ H->SqT K H a xs)
  (hs:∀i x σ H,xs[i]?=some x->Pv i σ H->g x σ H λσ2 H2=>tb { D with nx:=Pv (i+1),ct:=Pv (i+1),bk:=D.nx } σ2 H2) (hd:∀σ H,Pv xs.length σ H->D.nx σ H) :
  ∃W:Nat->Nat->St->Hp->Prop,(∃m,W 0 m σ H)/\∀i m σ H,W i m σ H ->
   ((Itt K a).stop i H/\D.nx σ H)\/((Itt K a).go i H/\∃N:St->Hp->Prop,(∀σ' H',N σ' H'->∃m',m'<m/\W (i+1) m' σ' H')/\∀x H',(Itt K a).yld i H x H'->g x σ H' λσ2 H2=>tb { D with nx:=N,ct:=N,bk:=D.nx } σ2 H2):=by
 refine⟨λi m σ H=>m=xs.length-i/\i<=xs.length/\Pv i σ H,⟨xs.length,by simp,hAy _,h0⟩,?_⟩;rintro i m σ H ⟨rfl,hi,p⟩;have q:=hl i σ H hi p;by_cases hlt:i<xs.length
 ·refine .inr ⟨⟨xs,xs[i],q,by simp[hlt]⟩,Pv (i+1),λσ' H' p'=>⟨xs.length-(i+1),by omega,rfl,hlt,p'⟩,λx H' y=>?_⟩;obtain⟨e,y⟩:=y;subst e;exact hs i x σ _ (y xs q) p
 ·have e:i=xs.length:=by omega
  subst e;exact .inl ⟨⟨xs,q,hAj _⟩,hd σ H p⟩
theorem qCs{lo:Int}{n:Nat}{g:TG}{tb:TS}{D:Ends}{σ:St}{H:Hp}(Pv:Nat->St->Hp->Prop)(h0:Pv 0 σ H)
  (hs:∀i σ H,i<n->Pv i σ H->g (.int (lo+i)) σ H λσ2 H2=>tb { D with nx:=Pv (i+1),ct:=Pv (i+1),bk:=D.nx } σ2 H2) (hd:∀σ H,Pv n σ H->D.nx σ H) :
  ∃W:Nat->Nat->St->Hp->Prop,(∃m,W 0 m σ H)/\∀i m σ H,W i m σ H ->
   ((Itr lo n).stop i H/\D.nx σ H)\/((Itr lo n).go i H/\∃N:St->Hp->Prop,(∀σ' H',N σ' H'->∃m',m'<m/\W (i+1) m' σ' H')/\∀x H',(Itr lo n).yld i H x H'->g x σ H' λσ2 H2=>tb { D with nx:=N,ct:=N,bk:=D.nx } σ2 H2):=by
 refine⟨λi m σ H=>m=n-i/\i<=n/\Pv i σ H,⟨n,by simp,hAy _,h0⟩,?_⟩;rintro i m σ H ⟨rfl,hi,p⟩;by_cases hlt:i<n
 ·refine .inr ⟨hlt,Pv (i+1),λσ' H' p'=>⟨n-(i+1),by omega,rfl,hlt,p'⟩,λx H' y=>?_⟩;obtain⟨e,y⟩:=y;subst e y;exact hs i σ _ hlt p
 ·have e:i=n:=by omega
  subst e;exact .inl ⟨hAj _,hd σ H p⟩
abbrev R2:=V->V->Hp->VK->Prop
def OpR(X:Cx)(f:Value->Value->Sem Value)(r:R2):Prop :=
 ∀(aB:List (Addr×Obj)) (s:Shared) (σ:St) (H:Hp) (x y:V) (v u:Value) (Q:VK),Inv X aB σ H s->qBx x v->qBx y u->r x y H Q ->
  wpAny (model X.prog X.w) X.A (f v u) (EP X aB σ Q) X.xe s
def UnR(X:Cx)(f:Value->Sem Value)(r:V->Hp->VK->Prop):Prop :=
 ∀(aB:List (Addr×Obj)) (s:Shared) (σ:St) (H:Hp) (x:V) (v:Value) (Q:VK),Inv X aB σ H s->qBx x v->r x H Q ->
  wpAny (model X.prog X.w) X.A (f v) (EP X aB σ Q) X.xe s
def qCa(X:Cx)(f:Value)(r:List V->Hp->VK->Prop):Prop :=
 ∀(aB:List (Addr×Obj)) (s:Shared) (σ:St) (H:Hp) (xs:List V) (us:List Value) (Q:VK),Inv X aB σ H s->qBd xs us->r xs H Q ->
  wpAny (model X.prog X.w) X.A (call f us) (EP X aB σ Q) X.xe s
def tOp(r:R2)(ta tb:TE):TE:=λσ H Q=>ta σ H λx H1=>tb σ H1 λy H2=>r x y H2 Q
def tUn(r:V->Hp->VK->Prop)(ta:TE):TE:=λσ H Q=>ta σ H λx H1=>r x H1 Q
def rI(C:Int->Int->Prop)(g:Int->Int->V):R2:=λx y H Q=>∃i j,x = .int i/\y = .int j/\C i j/\Q (g i j) H
def rI0(g:Int->Int->V):R2:=λx y H Q=>∃i j,x = .int i/\y = .int j/\Q (g i j) H
def rU(g:Int->V):V->Hp->VK->Prop:=λx H Q=>∃i,x = .int i/\Q (g i) H
section
variable{X:Cx}{a b c:Expr}{ta tb tc:TE}{pos:Pos}
theorem zBx(ha:PE X a ta)(hb:PE X b tb){aB:List (Addr×Obj)}{s:Shared}{σ:St}{H:Hp}{R:V->V->Hp->Prop}(I:Inv X aB σ H s)
  (h:ta σ H λx H1=>tb σ H1 λy H2=>R x y H2) {Q:Value->Shared->Prop} {f:Value->Value->Sem Value}
  (hf:∀v u s2 x y H2,Inv X aB σ H2 s2->qBx x v->qBx y u->R x y H2->wpAny (model X.prog X.w) X.A (f v u) Q X.xe s2) :
  wpAny (model X.prog X.w) X.A (eval a X.env) (λv s₁=>wpAny (model X.prog X.w) X.A (eval b X.env) (λu s₂=>wpAny (model X.prog X.w) X.A (f v u) Q X.xe s₂) X.xe s₁) X.xe s:=by
 refine thn (ha aB s σ H _ I h) λv s1 ⟨x,H1,I1,r1,q1⟩=>?_
 refine thn (hb aB s1 σ H1 _ I1 q1) λu s2 ⟨y,H2,I2,r2,q2⟩=>?_
 exact hf v u s2 x y H2 I2 r1 r2 q2
theorem qA5{op:Operator}{r:R2}(ho:OpR X (binaryOp op) r)(ha:PE X a ta)(hb:PE X b tb):PE X (.BinOp a op b pos) (tOp r ta tb):=by
 intro aB s σ H Q I h;exact wpAny_BinOp (zBx ha hb I h λv u s2 x y H2 I2 rx ry q=>ho aB s2 σ H2 x y v u Q I2 rx ry q)
theorem zBb{op:UnaryOp}{r:V->Hp->VK->Prop}(ho:UnR X (unaryOp op) r)(ha:PE X a ta):PE X (.UnaryOp op a pos) (tUn r ta):=by
 intro aB s σ H Q I h;exact UnaryOp_ (thn (ha aB s σ H _ I h) λv s1 ⟨x,H1,I1,r1,q1⟩=>ho aB s1 σ H1 x v Q I1 r1 q1)
theorem opI{f:Value->Value->Sem Value}{C:Int->Int->Prop}{g:Int->Int->Int}
  (rule:∀(i j:Int) (t u:Tok) (s:Shared) (Q:Value->Shared->Prop) (E:Value->Shared->Prop),C i j->Q (.int (g i j) s.toks) { s with toks:=s.toks+1 }->wpAny (model X.prog X.w) X.A (f (.int i t) (.int j u)) Q E s) :
  OpR X f (rI C λi j=>.int (g i j)):=by
 intro aB s σ H x y v u Q I rx ry h;obtain⟨i,j,rfl,rfl,hc,q⟩:=h;obtain⟨t,rfl⟩:=rx;obtain⟨t',rfl⟩:=ry;exact rule i j t t' s _ _ hc ⟨.int (g i j),H,I.tok _,⟨_,rfl⟩,q⟩
theorem zCb{f:Value->Value->Sem Value}{g:Int->Int->Int}
  (rule:∀(i j:Int) (t u:Tok) (s:Shared) (Q:Value->Shared->Prop) (E:Value->Shared->Prop),Q (.int (g i j) s.toks) { s with toks:=s.toks+1 }->wpAny (model X.prog X.w) X.A (f (.int i t) (.int j u)) Q E s) :
  OpR X f (rI0 λi j=>.int (g i j)):=by
 intro aB s σ H x y v u Q I rx ry h;obtain⟨i,j,rfl,rfl,q⟩:=h;obtain⟨t,rfl⟩:=rx;obtain⟨t',rfl⟩:=ry;exact rule i j t t' s _ _ ⟨.int (g i j),H,I.tok _,⟨_,rfl⟩,q⟩
theorem zBf{f:Value->Value->Sem Value}{g:Int->Int->Bool}
  (rule:∀(i j:Int) (t u:Tok) (s:Shared) (Q:Value->Shared->Prop) (E:Value->Shared->Prop),Q (.bool (g i j)) s->wpAny (model X.prog X.w) X.A (f (.int i t) (.int j u)) Q E s) :
  OpR X f (rI0 λi j=>.bl (g i j)):=by
 intro aB s σ H x y v u Q I rx ry h;obtain⟨i,j,rfl,rfl,q⟩:=h;obtain⟨t,rfl⟩:=rx;obtain⟨t',rfl⟩:=ry;exact rule i j t t' s _ _ ⟨.bl (g i j),H,I,rfl,q⟩
def zDa(i j:Int):Prop:=0<j/\j<1073741824
noncomputable def zC9(i j:Int):Prop:=0<=j/\j<=1000000/\i.natAbs<2^64
def zB1(i j:Int):Prop:=(-(2^64)<i/\i<2^64)\/(-(2^64)<j/\j<2^64)
theorem zB1.ok{i j:Int}(h:zB1 i j):IntMulOk i j:=by
 rcases h with ⟨h1,h2⟩|⟨h1,h2⟩
 ·exact .of_left (intBits_le_64 h1 h2)
 ·exact .of_right (intBits_le_64 h1 h2)
theorem qCq:OpR X (binaryOp .Add) (rI0 λi j=>.int (i+j)):=zCb λ_ _ _ _ _ _ _ q=>add_int q
theorem qVr:OpR X (binaryOp .Sub) (rI0 λi j=>.int (i-j)):=zCb λ_ _ _ _ _ _ _ q=>sub_int q
theorem qEz:OpR X (binaryOp .Mult) (rI zB1 λi j=>.int (i*j)):=opI λ_ _ _ _ _ _ _ hc q=>mul_int q hc.ok
theorem qMd:OpR X (binaryOp .FloorDiv) (rI zDa λi j=>.int (i / j)):=opI λi j _ _ _ _ _ hc q=>by
 have h1:(0:Int)<j:=hc.1;have h2:j<1073741824:=hc.2;exact floordiv_int (by omega) (by rw[Int.fdiv_eq_ediv_of_nonneg i (by omega)];exact q) (.inl (PyProof.noPylong_small (by omega)))
theorem qEa:OpR X (binaryOp .Mod) (rI (λ_ j=>0<j) λi j=>.int (i % j)):=opI λi j _ _ _ _ _ hc q=>by
 have h1:(0:Int)<j:=hc;exact mod_int' (by omega) (by rw[Int.fmod_eq_emod_of_nonneg i (by omega)];exact q)
theorem qVs:OpR X (binaryOp .Pow) (rI zC9 λi j=>.int (i^j.toNat)):=opI λ_ _ _ _ _ _ _ hc q=>pow_int_small hc.1 hc.2.1 hc.2.2 q
theorem unI{f:Value->Sem Value}{g:Int->Int}
  (rule:∀(i:Int) (t:Tok) (s:Shared) (Q:Value->Shared->Prop) (E:Value->Shared->Prop),Q (.int (g i) s.toks) { s with toks:=s.toks+1 }->wpAny (model X.prog X.w) X.A (f (.int i t)) Q E s) :
  UnR X f (rU λi=>.int (g i)):=by
 intro aB s σ H x v Q I rx h;obtain⟨i,rfl,q⟩:=h;obtain⟨t,rfl⟩:=rx;exact rule i t s _ _ ⟨.int (g i),H,I.tok _,⟨_,rfl⟩,q⟩
theorem qYn:UnR X (unaryOp .USub) (rU λi=>.int (-i)):=unI λ_ _ _ _ _ q=>neg_int q
end
noncomputable def zA6:V->V->Bool
 |.non,.non=>true | .non,.int _=>true | .int _,.non=>true | .non,.bl _=>true | .bl _,.non=>true | .non,.str _=>true | .str _,.non=>true
 |.int _,.int _=>true | .bl _,.bl _=>true | .str _,.str _=>true | .byt _,.byt _=>true
 |.int _,.str _=>true | .str _,.int _=>true | .bl _,.str _=>true | .str _,.bl _=>true
 |_,_=>false
def rEq:R2:=λx y H Q=>zA6 x y=true/\Q (.bl (decide (x=y))) H
def rNe:R2:=λx y H Q=>zA6 x y=true/\Q (.bl (!decide (x=y))) H
theorem qSl{i j:Int}:decide (V.int i=V.int j)=(i == j):=by
 rw[hBq];simp
theorem qV6{i j:Bool}:decide (V.bl i=V.bl j)=(i == j):=by
 rw[hBq];simp
theorem qSk{i j:Str}:decide (V.str i=V.str j)=(i == j):=by
 rw[hBq];simp
theorem qSm{i j:Array UInt8}:decide (V.byt i=V.byt j)=(i.toList == j.toList):=by
 rw[hBq];cases i;cases j;simp
section
variable{X:Cx}{a b c:Expr}{ta tb tc:TE}{pos:Pos}
theorem qBe{aB:List (Addr×Obj)}{σ:St}{H:Hp}{s:Shared}{Q:VK}{k k':Bool}(I:Inv X aB σ H s)(q:Q (.bl k) H)(e:k=k'):EP X aB σ Q (.bool k') s:=by
 subst e;exact⟨.bl k,H,I,rfl,q⟩
theorem qE0:OpR X (compareOp .Eq) rEq:=by
 intro aB s σ H x y v u Q I rx ry h;obtain⟨hs,q⟩:=h;cases x with
 |non =>
  cases rx;cases y with
  |non=>cases ry;exact PySem.EqNone.eq_none_none (qBe I q (by simp))
  |bl j=>cases ry;exact PySem.EqNone.eq_none_bool (qBe I q (by simp))
  |int j=>obtain⟨t',rfl⟩:=ry;exact PySem.EqNone.eq_none_int (qBe I q (by simp))
  |str j=>obtain⟨t',rfl⟩:=ry;exact PySem.EqNone.eq_none_str (qBe I q (by simp))
  |_=>exact absurd (show false=true from hs) hAo
 |bl i =>
  cases rx;cases y with
  |non=>cases ry;exact PySem.EqNone.eq_bool_none (qBe I q (by simp))
  |bl j=>cases ry;exact eq_bool (qBe I q qV6)
  |str j=>obtain⟨t',rfl⟩:=ry;exact PySem.EqMixed.eq_bool_str (qBe I q (by simp))
  |_=>exact absurd (show false=true from hs) hAo
 |int i =>
  obtain⟨t,rfl⟩:=rx;cases y with
  |non=>cases ry;exact PySem.EqNone.eq_int_none (qBe I q (by simp))
  |int j=>obtain⟨t',rfl⟩:=ry;exact eq_int (qBe I q qSl)
  |str j=>obtain⟨t',rfl⟩:=ry;exact PySem.EqMixed.eq_int_str (qBe I q (by simp))
  |_=>exact absurd (show false=true from hs) hAo
 |str i =>
  obtain⟨t,rfl⟩:=rx;cases y with
  |non=>cases ry;exact PySem.EqNone.eq_str_none (qBe I q (by simp))
  |bl j=>cases ry;exact PySem.EqMixed.eq_str_bool (qBe I q (by simp))
  |int j=>obtain⟨t',rfl⟩:=ry;exact PySem.EqMixed.eq_str_int (qBe I q (by simp))
  |str j=>obtain⟨t',rfl⟩:=ry;exact eq_str (qBe I q qSk)
  |_=>exact absurd (show false=true from hs) hAo
 |byt i =>
  obtain⟨t,rfl⟩:=rx;cases y with
  |byt j=>obtain⟨t',rfl⟩:=ry;exact PySem.W.eq_bytes (qBe I q qSm)
  |_=>exact absurd (show false=true from hs) hAo
 |_=>cases y <;> exact absurd (show false=true from hs) hAo
theorem qT2:OpR X (compareOp .NotEq) rNe:=by
 intro aB s σ H x y v u Q I rx ry h;obtain⟨hs,q⟩:=h;cases x with
 |non =>
  cases rx;cases y with
  |non=>cases ry;exact PySem.EqNone.ne_none_none (qBe I q (by simp))
  |bl j=>cases ry;exact PySem.EqNone.ne_none_bool (qBe I q (by simp))
  |int j=>obtain⟨t',rfl⟩:=ry;exact PySem.EqNone.ne_none_int (qBe I q (by simp))
  |str j=>obtain⟨t',rfl⟩:=ry;exact PySem.EqNone.ne_none_str (qBe I q (by simp))
  |_=>exact absurd (show false=true from hs) hAo
 |bl i =>
  cases rx;cases y with
  |non=>cases ry;exact PySem.EqNone.ne_bool_none (qBe I q (by simp))
  |bl j=>cases ry;exact ne_bool (qBe I q (congrArg not qV6))
  |str j=>obtain⟨t',rfl⟩:=ry;exact PySem.EqMixed.ne_bool_str (qBe I q (by simp))
  |_=>exact absurd (show false=true from hs) hAo
 |int i =>
  obtain⟨t,rfl⟩:=rx;cases y with
  |non=>cases ry;exact PySem.EqNone.ne_int_none (qBe I q (by simp))
  |int j=>obtain⟨t',rfl⟩:=ry;exact ne_int (qBe I q (congrArg not qSl))
  |str j=>obtain⟨t',rfl⟩:=ry;exact PySem.EqMixed.ne_int_str (qBe I q (by simp))
  |_=>exact absurd (show false=true from hs) hAo
 |str i =>
  obtain⟨t,rfl⟩:=rx;cases y with
  |non=>cases ry;exact PySem.EqNone.ne_str_none (qBe I q (by simp))
  |bl j=>cases ry;exact PySem.EqMixed.ne_str_bool (qBe I q (by simp))
  |int j=>obtain⟨t',rfl⟩:=ry;exact PySem.EqMixed.ne_str_int (qBe I q (by simp))
  |str j=>obtain⟨t',rfl⟩:=ry;exact ne_str (qBe I q (congrArg not qSk))
  |_=>exact absurd (show false=true from hs) hAo
 |byt i =>
  obtain⟨t,rfl⟩:=rx;cases y with
  |byt j=>obtain⟨t',rfl⟩:=ry;exact PySem.W.ne_bytes (qBe I q (congrArg not qSm))
  |_=>exact absurd (show false=true from hs) hAo
 |_=>cases y <;> exact absurd (show false=true from hs) hAo
theorem qPb:OpR X (compareOp .Lt) (rI0 λi j=>.bl (decide (i<j))):=zBf λ_ _ _ _ _ _ _ q=>lt_int q
theorem zBd:OpR X (compareOp .Gt) (rI0 λi j=>.bl (decide (j<i))):=zBf λ_ _ _ _ _ _ _ q=>gt_int q
theorem zBe:OpR X (compareOp .GtE) (rI0 λi j=>.bl (decide (j<=i))):=zBf λ_ _ _ _ _ _ _ q=>ge_int q
theorem qA6(b:Expr){op:CmpOp}(h:op≠.In:=by decide)(h2:op≠.NotIn:=by decide):behindInMarks op b=false:=by
 have e1:(op == CmpOp.In)=false:=by cases op <;> first|rfl|exact absurd rfl h
 have e2:(op == CmpOp.NotIn)=false:=by cases op <;> first|rfl|exact absurd rfl h2
 cases b <;> simp[behindInMarks,e1,e2]
theorem qGz{op:CmpOp}{r:R2}(ho:OpR X (compareOp op) r)(ha:PE X a ta)(hb:PE X b tb)(hm:behindInMarks op b=false):PE X (.Compare a [op] [b] pos) (tOp r ta tb):=by
 intro aB s σ H Q I h;exact wpAny_Compare1 (zBx ha hb I h λv u s2 x y H2 I2 rx ry q=>ho aB s2 σ H2 x y v u Q I2 rx ry q) hm
def zAx(t:TE):TT:=λσ H Q=>t σ H λx H'=>∃k,x = .bl k/\Q k H'
theorem qAv{op:CmpOp}{r:R2}(ho:OpR X (compareOp op) r)(ha:PE X a ta)(hb:PE X b tb)(hm:behindInMarks op b=false):PT X (.Compare a [op] [b] pos) (zAx (tOp r ta tb)):=by
 intro aB s σ H Q I h;refine wpAny_isTrue_Compare1 (thn (ha aB s σ H _ I h) λv s1 ⟨x,H1,I1,r1,q1⟩=>thn (hb aB s1 σ H1 _ I1 q1) λu s2 ⟨y,H2,I2,r2,q2⟩ =>
  thn (ho aB s2 σ H2 x y v u _ I2 r1 r2 q2) λc s3 ⟨z,H3,I3,r3,k,e,q3⟩=>?_) hm
 subst e;cases r3;exact hFy ⟨H3,I3,q3⟩
theorem qKo:(sizeLine:Nat)<2^63:=by rw[hFi];decide
theorem qPc:OpR X (binaryOp .Add) (λx y H Q=>∃i j,x = .str i/\y = .str j/\i.length+j.length<=sizeLine/\Q (.str (i++j)) H):=by
 intro aB s σ H x y v u Q I rx ry h;obtain⟨i,j,rfl,rfl,hz,q⟩:=h;obtain⟨t,rfl⟩:=rx;obtain⟨t',rfl⟩:=ry;exact add_str (λt' tk=>⟨.str (i++j),H,I.tok _,⟨_,rfl⟩,q⟩) hz
theorem qC8{x:V}{us:List Value}(r:qBd [x] us):∃u,us=[u]/\qBx x u:=by
 cases r with
 |cons r1 r2=>cases r2;exact⟨_,rfl,r1⟩
theorem qLz{x y:V}{us:List Value}(r:qBd [x,y] us):∃u w',us=[u,w']/\qBx x u/\qBx y w':=by
 cases r with
 |cons r1 r2 =>
  cases r2 with
  |cons r3 r4=>cases r4;exact⟨_,_,rfl,r1,r3⟩
theorem qLi(hc:X.calm=true):qCa X (.builtin "max") (λxs H Q=>∃i j,xs=[.int i,.int j]/\Q (.int (if j > i then j else i)) H):=by
 intro aB s σ H xs us Q I r h;obtain⟨i,j,rfl,q⟩:=h;obtain⟨u,w',rfl,⟨t,rfl⟩,⟨t',rfl⟩⟩:=qLz r;refine max_two_ints (I.ok.hd hc) λh' tk k=>⟨_,H,I.kept k,?_,q⟩
 by_cases hj:j > i
 ·rw[hEs hj,hEs hj];exact⟨_,rfl⟩
 ·rw[hEr hj,hEr hj];exact⟨_,rfl⟩
theorem qLh(hc:X.calm=true):qCa X (.builtin "min") (λxs H Q=>∃i j,xs=[.int i,.int j]/\Q (.int (if j<i then j else i)) H):=by
 intro aB s σ H xs us Q I r h;obtain⟨i,j,rfl,q⟩:=h;obtain⟨u,w',rfl,⟨t,rfl⟩,⟨t',rfl⟩⟩:=qLz r;refine min_two_ints (I.ok.hd hc) λh' tk k=>⟨_,H,I.kept k,?_,q⟩
 by_cases hj:j<i
 ·rw[hEs hj,hEs hj];exact⟨_,rfl⟩
 ·rw[hEr hj,hEr hj];exact⟨_,rfl⟩
theorem qLj:qCa X (.type "int") (λxs H Q=>(∃i,xs=[.int i]/\Q (.int i) H)\/∃k,xs=[.bl k]/\Q (.int (if k then 1 else 0)) H):=by
 intro aB s σ H xs us Q I r h;rcases h with ⟨i,rfl,q⟩|⟨k,rfl,q⟩
 ·obtain⟨u,rfl,t,rfl⟩:=qC8 r;exact call_int_int ⟨.int i,H,I,⟨_,rfl⟩,q⟩
 ·obtain⟨u,rfl,r1⟩:=qC8 r;cases r1;exact call_int_bool ⟨.int (if k then 1 else 0),H,I.tok _,⟨_,rfl⟩,q⟩
end
structure ObjM(h:Heap)(x dx C:Addr)(mA:Str->Option Value):Prop where
 obj:h.get? x=some (PySem.W.instObj C dx)
 ns:h.Ns1 dx mA
 ne:dx≠x
theorem qRt{h:Heap}{dx:Addr}{mA:Str->Option Value}(n:h.Ns1 dx mA):∃od,h.get? dx=some od/\∀name,PySem.W.lookIn name od=some (mA name):=by
 obtain⟨o,es,ep,ho,hd,hk,_,hm⟩:=n;refine⟨o,ho,λname=>?_⟩;have e:=hm name;unfold nsFind findBy at e;rw[<-Array.find?_toList]at e;unfold PySem.W.lookIn;rw[hd];dsimp only;split
 ·rename_i y q;rw[q]at e;exact congrArg some e
 ·rename_i q;rw[q]at e;have a:es.toList.any (·.refKey)=false:=by
   rw[List.any_eq_false];intro y hy;obtain⟨z,t,hkey⟩:=hk y (Array.mem_toList_iff.mp hy);simp[DictEntry.refKey,hkey]
  have a':¬es.toList.any (·.refKey)=true:=by rw[a];exact hAo
  rw[hEr a'];exact congrArg some e
theorem ObjM.look{h:Heap}{x dx C:Addr}{mA:Str->Option Value}(I:ObjM h x dx C mA):∃od,PySem.W.InstAt h x (PySem.W.instObj C dx) C (some od)/\∀name,PySem.W.lookIn name od=some (mA name) :=
 let ⟨od,ho,hl⟩:=qRt I.ns
 ⟨od,⟨I.obj,rfl,rfl,ho⟩,hl⟩
theorem qPr.some_of{v:V}{o:Option Value}(r:qPr (some v) o):∃u,o=some u/\qBx v u:=by
 cases o with
 |none=>exact(show False from r).elim
 |some u=>exact⟨u,rfl,r⟩
section
variable{P:Program}{w:World}{H H':Hp}{h h':Heap}{a C dx:Addr}{fs fs':List (Str×V)}
theorem qXz(hok:HOk P w H h)(e:H a=some (.ins C dx fs)):∃mA,ObjM h a dx C mA/\(∀f,qPr (fs.lookup f) (mA f))/\PySem.Within mA (fs.map (·.1))/\fs.length<=1000/\H dx=some (.own a):=by
 obtain⟨d,z,ne,ob,mA,n,r,q⟩:=(show qB9 P w H h a (.ins C dx fs) from hok a _ e);exact⟨mA,⟨ob,n,ne⟩,r,q,z,d⟩
end
structure Cls(K:PySem.W.Frag)(C:Addr):Prop where
 pg:PySem.W.plainGet K C Str.empty=true
 hd:PySem.W.hasDictIn K C=true
 po:PySem.W.plainOver K C=true
 sa:PySem.W.findIn K (.ref C) "__setattr__"=some (some (.builtin "object.__setattr__"))
theorem Cls.get{K:PySem.W.Frag}{C:Addr}(c:Cls K C)(f:Str):PySem.W.plainGet K C f=true:=c.pg
structure Con(K:PySem.W.Frag)(C:Addr)(f:Str)(v:V)(u:Value):Prop where
 at_:PySem.W.findIn K (.ref C) f=some (some u)
 rel:qBx v u
 get:PySem.W.specialIn K u "__get__"=some none
 cp:PySem.W.copiedNames.contains f=false
structure Meth(K:PySem.W.Frag)(C:Addr)(m:Str)(f:Addr):Prop where
 at_:PySem.W.findIn K (.ref C) m=some (some (.ref f))
 fn:PySem.W.isFn K (.ref f)=true
 kp:PySem.W.keepIn K (.ref f)=true
section
variable{X:Cx}{aB:List (Addr×Obj)}{σ:St}{H:Hp}{s:Shared}{A:Around}{E:Value->Shared->Prop}{Q:Value->Shared->Prop}{c:Value}{b:Bool}
inductive TyOf (K:PySem.W.Frag) (H:Hp):V->Value->Prop where
 |non:TyOf K H .non (.type "NoneType")
 |bl (x:Bool):TyOf K H (.bl x) (.type "bool")
 |int (i:Int):TyOf K H (.int i) (.type "int")
 |str (x:Str):TyOf K H (.str x) (.type "str")
 |flt (x:UInt64):TyOf K H (.flt x) (.type "float")
 |lst {a:Addr} {xs:List V} (e:H a=some (.lst xs)):TyOf K H (.ref a) (.type "list")
 |frz {a:Addr} {o:Obj} {xs:List V} (e:H a=some (.frz o (.lst xs))):TyOf K H (.ref a) (.type "list")
 |tup {a:Addr} {xs:List V} (e:H a=some (.tup xs)):TyOf K H (.ref a) (.type "tuple")
 |dK {a:Addr} {kvs:List (Key×V)} (e:H a=some (.dK kvs)):TyOf K H (.ref a) (.type "dict")
 |dT {a:Addr} {kvs:List (List Key×V)} (e:H a=some (.dT kvs)):TyOf K H (.ref a) (.type "dict")
 |ins {a C dx:Addr} {fs:List (Str×V)} (e:H a=some (.ins C dx fs)) (cl:Cls K C) (ha:PySem.W.findIn K (.ref C) "__class__"=some (some (.builtin "object.__class__")))
   (hn:PySem.W.specialIn K (.builtin "object.__class__") "__get__"=some (some (.builtin "getset_descriptor.__get__"))) (htk:PySem.W.takesIn K (.builtin "object.__class__")=some true)
   (hm:PySem.W.mroIn K C (.type "object")=some true):TyOf K H (.ref a) (.ref C)
theorem qRz{x:V}{u t:Value}(I:Inv X aB σ H s)(rx:qBx x u)(ty:TyOf X.K H x t)(e:PySem.W.kitOne X.K t c=some b)(h:∀tk,Q (.bool b) { s with toks:=tk }) :
  wpAny (model X.prog X.w) A (call (.builtin "isinstance") [u,c]) Q E s:=by
 cases ty with
 |non=>cases(show u=Value.none from rx);exact hCp PySem.W.kitx_none I.kIn True.intro e (λz=>nomatch z) h
 |bl y=>cases(show u=Value.bool y from rx);exact hCp PySem.W.kitx_bool I.kIn True.intro e (λz=>nomatch z) h
 |int i=>obtain⟨t,q⟩:=(show ∃t,u=Value.int i t from rx);cases q;exact hCp PySem.W.kitx_int I.kIn True.intro e (λz=>nomatch z) h
 |str y=>obtain⟨t,q⟩:=(show ∃t,u=Value.str y t from rx);cases q;exact hCp PySem.W.kitx_str I.kIn True.intro e (λz=>nomatch z) h
 |flt y=>obtain⟨t,q⟩:=(show ∃t,u=Value.float y t from rx);cases q;exact hCp PySem.W.kitx_float I.kIn True.intro e (λz=>nomatch z) h
 |@lst a xs ea =>
  cases(show u=Value.ref a from rx);obtain⟨_,_,n,_,h1⟩:=(show qB9 X.prog X.w H s.heap a (.lst xs) from I.hok a _ ea);exact hCp PySem.W.kitx_list I.kIn ⟨_,h1,rfl⟩ e (λz=>nomatch z) h
 |@frz a ob xs ea =>
  cases(show u=Value.ref a from rx);obtain⟨_,_,_,n,_,h1⟩:=(show qB9 X.prog X.w H s.heap a (.frz ob (.lst xs)) from I.hok a _ ea);exact hCp PySem.W.kitx_list I.kIn ⟨_,h1,rfl⟩ e (λz=>nomatch z) h
 |@tup a xs ea =>
  cases(show u=Value.ref a from rx);obtain⟨_,_,_,p⟩:=(show qB9 X.prog X.w H s.heap a (.tup xs) from I.hok a _ ea);obtain⟨o,h1,h2,_⟩:=p;exact hCp PySem.W.kitx_tuple I.kIn ⟨o,h1,h2⟩ e (λz=>nomatch z) h
 |@dK a kvs ea =>
  cases(show u=Value.ref a from rx);obtain⟨_,_,vs,_,p⟩:=(show qB9 X.prog X.w H s.heap a (.dK kvs) from I.hok a _ ea);obtain⟨o,es,ep,h1,h2,_⟩:=p;exact hCp PySem.W.kitx_dict I.kIn ⟨o,h1,h2.1⟩ e (λz=>nomatch z) h
 |@dT a kvs ea =>
  cases(show u=Value.ref a from rx);obtain⟨_,_,xs,_,o,es,ep,h1,h2,_⟩:=(show qB9 X.prog X.w H s.heap a (.dT kvs) from I.hok a _ ea);exact hCp PySem.W.kitx_dict I.kIn ⟨o,h1,h2.1⟩ e (λz=>nomatch z) h
 |@ins a C dx fs ea cl ha hn htk hm =>
  cases(show u=Value.ref a from rx);obtain⟨mA,O,_⟩:=qXz I.hok ea;obtain⟨od,J,_⟩:=O.look;exact hCp (PySem.W.kitx_own (cl.get _) cl.hd ha hn htk hm) I.kIn J e (λz=>nomatch z) h
end
structure Room(k:Nat)(A:Around):Prop where
 hd:A.handled=none
 dp:A.depth+3*k+5<recursionLimit
 un:A.units+16*k+200<cLine
 gd:A.guards=some []
theorem Room.mono{j k:Nat}{A:Around}(r:Room k A)(h:j<=k):Room j A:=⟨r.hd,by have:=r.dp;omega,by have:=r.un;omega,r.gd⟩
theorem Room.deeper{k:Nat}{A:Around}(r:Room (k+1) A)(env:Env):Room k (A.deeper env) :=
 ⟨r.hd,by have:=r.dp;show A.depth+1+3*k+5<_;omega,by have:=r.un;show A.units+3+16*k+200<_;omega,r.gd⟩
theorem Room.depth{k:Nat}{A:Around}(r:Room k A):A.depth<recursionLimit:=by have:=r.dp;omega
theorem Room.units{k:Nat}{A:Around}(r:Room k A):A.units+64<cLine:=by have:=r.un;omega
def zA0:TA:=λ_ H Q=>Q [] H
def qIi(ta:TE)(tr:TA):TA:=λσ H Q=>ta σ H λx H1=>tr σ H1 λxs H2=>Q (x :: xs) H2
section
variable{X:Cx}{e:Expr}{es:List Expr}{te:TE}{t:TA}{pos:Pos}
theorem qC3:PA X [] zA0:=λ_ _ _ _ H Q I h=>Calls.spliced_nil ⟨[],H,I,.nil,h⟩
theorem qAe(ha:PE X e te)(hr:PA X es t)(hs:starEach (e :: es) X.env=(false,eval e X.env) :: starEach es X.env:=by rfl):PA X (e :: es) (qIi te t):=by
 intro pos aB s σ H Q I h;rw[hs];show wpAny _ _ (spliced ((false,eval e X.env) :: backTo pos (starEach es X.env))) _ _ s;refine Calls.spliced_cons (thn (ha aB s σ H _ I h) λu s1 ⟨x,H1,I1,r1,q1⟩=>?_);exact thn (hr pos aB s1 σ H1 _ I1 q1) λus s2 ⟨xs,H2,I2,r2,q2⟩=>⟨x :: xs,H2,I2,.cons r1 r2,q2⟩
theorem pa1{X:Cx}{e:Expr}{te:TE}(ha:PE X e te)(hs:starEach [e] X.env=(false,eval e X.env) :: starEach [] X.env:=by rfl):PA X [e] (qIi te zA0):=qAe ha qC3 hs
def zB3(t:TA):TE:=λσ H Q=>t σ H λxs H1=>xs.length<=sizeLine/\∀p,H1 p=none->Q (.ref p) (upd H1 p (.tup xs))
def zB5(t:TA):TE:=λσ H Q=>t σ H λxs H1=>xs.length<=sizeLine/\∀p,H1 p=none->Q (.ref p) (upd H1 p (.lst xs))
theorem qB4{x1}(h:PA X es t):PE X (.Tuple es x1 pos) (zB3 t):=by
 intro aB s σ H Q I hq;refine wpAny_Tuple_spliced (thn (h pos aB s σ H _ I hq) λus s1 ⟨xs,H1,I1,r,z,q⟩=>⟨by rw[<-r.length];exact z,?_⟩);have hf:H1 s1.heap.objs.size=none:=I1.hok.fresh (hAj _);refine⟨.ref s1.heap.objs.size,upd H1 s1.heap.objs.size (.tup xs),I1.laid (t':=s1.toks) (λb u e=>Heap.get?_push_of_some _ e) (hAj _) ?_,rfl,q _ hf⟩;exact⟨z,us,r,⟨_,Heap.get?_push_size _ rfl,rfl,_,rfl⟩⟩
theorem qBo(h:PA X es t):PE X (.List es pos) (zB5 t):=by
 intro aB s σ H Q I hq;refine wpAny_List_spliced (thn (h pos aB s σ H _ I hq) λus s1 ⟨xs,H1,I1,r,z,q⟩=>⟨by rw[<-r.length];exact z,?_⟩);have hf:H1 s1.heap.objs.size=none:=I1.hok.fresh (hAj _);refine⟨.ref s1.heap.objs.size,upd H1 s1.heap.objs.size (.lst xs),I1.laid (t':=s1.toks) (λb u e=>Heap.get?_push_of_some _ e) (hAj _) ?_,rfl,q _ hf⟩;exact⟨z,us,0,r,Heap.get?_push_size _ rfl⟩
end
abbrev Sp:=List V->Hp->VK->XK->Prop
abbrev CXT:=List Env->Hp->Shared->XK->Value->Shared->Prop
structure Env0(P:Program)(w:World)(K:PySem.W.Frag)(mg:Str->Option Value)(base:Heap)(A:Around)(outer:List Env)(s:Shared)(H:Hp):Prop where
 frames:A.frames=some outer
 mod:Mod K mg base
 bs:∀b o,base.get? b=some o->s.heap.get? b=some o/\H b=none
 bsz:base.objs.size<=s.heap.objs.size
 funs:s.heap.FunFrames base outer
 frf:∀b∈frs outer,H b=none
 hok:HOk P w H s.heap
 bare:AllBare s.gens
def CE(outer:List Env)(P:Program)(w:World)(H:Hp)(s:Shared)(Q:VK)(u:Value)(s':Shared):Prop :=
 ∃v H',s'.os=s.os/\AllBare s'.gens/\Un (frs outer) [] H H' s.heap s'.heap/\HOk P w H' s'.heap/\qBx v u/\Q v H'
def CR(CX:CXT)(outer:List Env)(P:Program)(w:World)(H:Hp)(s:Shared)(Q:VK)(E:XK)(r:Result)(s':Shared):Prop :=
 match r with
 |.ok (.ret u)=>CE outer P w H s Q u s'
 |.ok _=>False
 |.error e=>CX outer H s E e s'
structure FnOk(P:Program)(w:World)(K:PySem.W.Frag)(mg:Str->Option Value)(base:Heap)(CX:CXT)(k:Nat)(f:Addr)(fd:FuncData)(ps:List Str)(sp:Sp):Prop where
 len:∀vs H Q E,sp vs H Q E->vs.length=ps.length
 run:∀(A:Around) (outer:List Env) (s:Shared) (H:Hp) (args:Args) (us:List Value) (vs:List V) (Q:VK) (E:XK),Room k A->Env0 P w K mg base A outer s H->BindsTo s fd args (ps.zip us)->qBd vs us->sp vs H Q E ->
  codeAny (model P w) A (.call (.ref f) args) (CR CX outer P w H s Q E) s
section
variable{X:Cx}{aB:List (Addr×Obj)}{σ:St}{H:Hp}{s s':Shared}
theorem Inv.env0(I:Inv X aB σ H s):Env0 X.prog X.w X.K X.mg X.base X.A X.stack s H :=
 ⟨I.ok.frames,I.ok.mod,I.bs,hBa I.ok.bsz I.sz,I.stack,I.stkFree,I.hok,I.bare⟩
theorem Inv.after{Q:VK}{u:Value}(I:Inv X aB σ H s)(h:CE X.stack X.prog X.w H s Q u s'):EP X aB σ Q u s':=by
 obtain⟨v,H',os,bare,un,hok,r,q⟩:=h;obtain⟨hh,g,d,t,os'⟩:=s';obtain rfl:os'=s.os:=os;exact⟨v,H',I.call (h':=hh) (g':=g) (d':=d) (t':=t) (ch:=[]) un hok bare (λb z=>absurd z (by simp)),r,q⟩
end
noncomputable def qYw(sp:Sp)(dvs:List V)(E:XK)(t:TA):TE:=λσ H Q=>t σ H λvs H1=>sp (vs++dvs) H1 Q E
def qPs(K:PySem.W.Frag)(fd:FuncData)(ps:List Str)(ds:List Value):Prop :=
 ∀(s:Shared) (us:List Value),K.In s.heap->(us++ds).length=ps.length->BindsTo s fd ⟨us,[]⟩ (ps.zip (us++ds))
theorem qPs.all{K:PySem.W.Frag}{fd:FuncData}{ps:List Str}(h:∀us:List Value,us.length=ps.length->bindArgs fd ⟨us,[]⟩=pure (ps.zip us)):qPs K fd ps []:=λs us _ hl=>by
 rw[hBr]at hl ⊢;exact .of_eq (h us hl)
def qOw(CX:CXT)(X:Cx)(E:XK):Prop:=∀(aB:List (Addr×Obj)) (σ:St) (H:Hp) (s:Shared) (e:Value) (s':Shared),Inv X aB σ H s->CX X.stack H s E e s'->X.xe e s'
section
variable{X:Cx}{CX:CXT}{k:Nat}{f C:Addr}{fd:FuncData}{ps:List Str}{sp:Sp}{dvs:List V}{ds:List Value}{E:XK}{x m:Str}{p pos apos:Pos}{e o:Expr}{es:List Expr}{ta:TE}{t:TA}
theorem qY9{aB:List (Addr×Obj)}{σ:St}{H:Hp}{s:Shared}{Q:VK}{us:List Value}{vs:List V}(F:FnOk X.prog X.w X.K X.mg X.base CX k f fd ps sp)(hr:Room k X.A)(hb:qPs X.K fd ps ds)(hd:qBd dvs ds)(hx:qOw CX X E)
  (I:Inv X aB σ H s) (r:qBd vs us) (h:sp (vs++dvs) H Q E):wpAny (model X.prog X.w) X.A (call (.ref f) us) (EP X aB σ Q) X.xe s:=by
 have r2:qBd (vs++dvs) (us++ds):=r.append hd;have hl:(us++ds).length=ps.length:=by rw[<-r2.length];exact F.len _ _ _ _ h
 refine wpAny_call (hFw (F.run X.A X.stack s H ⟨us,[]⟩ (us++ds) (vs++dvs) Q E hr I.env0 (hb s us I.kIn hl) r2 h) λr s' hq=>?_);cases r with
 |error e=>exact hx aB σ H s e s' I hq
 |ok fl =>
  cases fl with
  |ret u=>exact I.after hq
  |next=>exact False.elim hq
  |brk=>exact False.elim hq
  |cont=>exact False.elim hq
theorem qW5(F:FnOk X.prog X.w X.K X.mg X.base CX k f fd ps sp)(hr:Room k X.A)(hg:Gl X x)(hm:X.mg x=some (.ref f))(hk:PySem.W.keepIn X.K (.ref f)=true)(hb:qPs X.K fd ps ds)(hd:qBd dvs ds)(hx:qOw CX X E)
  (ha:PA X (e :: es) t) (hdb:(x == ("__debug__" : Str))=false:=by decide) (he:starEach (e :: es) X.env=(false,eval e X.env) :: starEach es X.env:=by rfl) (hpl:(backTo pos (starEach es X.env)).any (·.1)=false:=by rfl) :
  PE X (.Call (.Name x p) (e :: es) [] pos) (qYw sp dvs E t):=by
 intro aB s σ H Q I h;refine hG2 (qXt I hg hm ?_ hdb);refine PySem.W.callWith_K (h₀:=X.base) I.ok.mod.kin hk (thn (ha pos aB s σ H _ I h) λus s1 ⟨vs,H1,I1,r,q⟩=>⟨I1.kIn,?_⟩) he hpl;exact qY9 F hr hb hd hx I1 r q
structure Mk(K:PySem.W.Frag)(C f:Addr):Prop where
 makes:PySem.W.makesIn K C=true
 init:PySem.W.findIn K (.ref C) "__init__"=some (some (.ref f))
 fn:PySem.W.isFn K (.ref f)=true
 kp:PySem.W.keepIn K (.ref C)=true
end
section
variable{X:Cx}{CX:CXT}{k:Nat}{f C:Addr}{fd:FuncData}{ps ks:List Str}{sp:Sp}{E:XK}{x m:Str}{p pos apos kpos:Pos}{e o:Expr}{es:List Expr}{kws:List Keyword}{te ta:TE}{t tk:TA}{nm:Option Str}
structure KBinds(K:PySem.W.Frag)(fd:FuncData)(ps ks:List Str)(g:List Value->List Value->List Value)(gV:List V->List V->List V):Prop where
 to:∀(s:Shared) (us ws:List Value),K.In s.heap->(g us ws).length=ps.length->BindsTo s fd ⟨us,ks.zip ws⟩ (ps.zip (g us ws))
 rel:∀ {vs:List V} {us:List Value} {zs:List V} {ws:List Value},qBd vs us->qBd zs ws->qBd (gV vs zs) (g us ws)
variable{g:List Value->List Value->List Value}{gV:List V->List V->List V}
end
structure FnScope(N P:List Str)(sc:Scope):Prop where
 kind:sc.kind = .function
 co:sc.isCoroutine=false
 gen:sc.isGenerator=false
 nd:N.Nodup
 pre:N.take P.length=P
 par:∀x∈P,sc.names.lookup x=some .local\/sc.names.lookup x=some .cell
 nofree:∀y∈sc.names,y.2≠.free
theorem fsk{N P:List Str}{sc:Scope}(a:sc.kind = .function:=by rfl)(b:sc.isCoroutine=false:=by rfl)(c:sc.isGenerator=false:=by rfl)(d:N.Nodup:=by decide +kernel)(e:N.take P.length=P:=by rfl)(f:∀x∈P,sc.names.lookup x=some .local\/sc.names.lookup x=some .cell:=by decide +kernel)(g:∀y∈sc.names,y.2≠.free:=by decide +kernel):FnScope N P sc:=⟨a,b,c,d,e,f,g⟩
theorem qLo{kindOf:Str->Option NameKind}{x:Str}:∀ {binds:List (Str×Value)} {m:Str->Option Value},(∀v,(x,v)∉binds)->bindL kindOf binds m x=m x
 |[],_,_=>rfl
 |(n,v) :: r,m,h=>by
  unfold bindL;rw[qLo λw hw=>h w (hAe _ hw)];split
  ·have:x≠n:=by rintro rfl;exact h v hAb
   simp[this]
  ·rfl
theorem qLq{kindOf:Str->Option NameKind}{x:Str}:∀ {binds:List (Str×Value)} {m:Str->Option Value},(∀v,(x,v)∉binds)->bindC kindOf binds m x=m x
 |[],_,_=>rfl
 |(n,v) :: r,m,h=>by
  unfold bindC;rw[qLq λw hw=>h w (hAe _ hw)];split
  ·rfl
  ·have:x≠n:=by rintro rfl;exact h v hAb
   simp[this]
theorem qLp{kindOf:Str->Option NameKind}{x:Str}{v:Value}:∀ {P:List Str} {vs:List Value} {i:Nat} {m:Str->Option Value},P.Nodup->P[i]?=some x->vs[i]?=some v->kindOf x=some .local ->
  bindL kindOf (P.zip vs) m x=some v
 |[],_,_,_,_,h,_,_=>by simp at h
 |_ :: _,[],_,_,_,_,h,_=>by simp at h
 |p :: P,w :: vs,0,m,nd,h1,h2,hk=>by
  simp at h1 h2;subst h1;subst h2;show bindL kindOf ((p,w) :: P.zip vs) m p=_;unfold bindL;rw[qLo λv hv=>(hB7.mp nd).1 (List.of_mem_zip hv).1,hEs hk];simp
 |p :: P,w :: vs,i+1,m,nd,h1,h2,hk=>by
  show bindL kindOf ((p,w) :: P.zip vs) m x=_;unfold bindL;exact qLp (i:=i) (hB7.mp nd).2 (by simpa using h1) (by simpa using h2) hk
theorem qLr{kindOf:Str->Option NameKind}{x:Str}{v:Value}:∀ {P:List Str} {vs:List Value} {i:Nat} {m:Str->Option Value},P.Nodup->P[i]?=some x->vs[i]?=some v->kindOf x≠some .local ->
  bindC kindOf (P.zip vs) m x=some v
 |[],_,_,_,_,h,_,_=>by simp at h
 |_ :: _,[],_,_,_,_,h,_=>by simp at h
 |p :: P,w :: vs,0,m,nd,h1,h2,hk=>by
  simp at h1 h2;subst h1;subst h2;show bindC kindOf ((p,w) :: P.zip vs) m p=_;unfold bindC;rw[qLq λv hv=>(hB7.mp nd).1 (List.of_mem_zip hv).1,hEr hk];simp
 |p :: P,w :: vs,i+1,m,nd,h1,h2,hk=>by
  show bindC kindOf ((p,w) :: P.zip vs) m x=_;unfold bindC;exact qLr (i:=i) (hB7.mp nd).2 (by simpa using h1) (by simpa using h2) hk
noncomputable def start(N:List Str)(vs:List V):St:=vs.map some++List.replicate (N.length-vs.length) none
noncomputable def qM3(CX:CXT)(P:Program)(w:World)(K:PySem.W.Frag)(mg:Str->Option Value)(base:Heap)(N:List Str)(qual:Str)(scope:Scope)(f:Addr)(cd:Value)(A:Around)(outer:List Env)(s:Shared)(H:Hp)(E:XK):Cx where
 prog:=P
 w:=w
 K:=K
 mg:=mg
 base:=base
 A:=A.deeper (envOfC qual scope s.heap.objs.size f cd)
 N:=N
 s₀:=s
 H₀:=H
 env:=envOfC qual scope s.heap.objs.size f cd
 outer:=outer
 stack:=envOfC qual scope s.heap.objs.size f cd :: outer
 ex:=[]
 calm:=true
 fn:=λ_=>true
 pn:=[]
 xe:=λe s'=>wpAny (model P w) (A.deeper (envOfC qual scope s.heap.objs.size f cd)) (leaving (envOfC qual scope s.heap.objs.size f cd) e) (λ_ s''=>CX outer H s E e s'') (λe' s''=>CX outer H s E e' s'') s'
theorem qOu{sc:Scope}{n:Nat}{x:Str}(h:sc.names.lookup x=some .cell):∃c,(cellsFrom n sc.names []).lookup x=some c:=by
 have q:=hEc sc.names n [] (.inl h);exact hCy.mp q
theorem qR2{CX:CXT}{P:Program}{w:World}{K:PySem.W.Frag}{mg:Str->Option Value}{base:Heap}{N ps:List Str}{qual:Str}{scope:Scope}{f:Addr}{cd:Value}{A:Around}{outer:List Env}{s s1:Shared}{H:Hp}{E:XK}{us:List Value}{vs:List V}
  (S:FnScope N ps scope) (hd:A.handled=none) (e0:Env0 P w K mg base A outer s H) (hl:vs.length=ps.length) (r:qBd vs us)
  (x:InCallC s s.heap.objs.size (bindL (envOfC qual scope s.heap.objs.size f cd).kindOf (ps.zip us) λ_=>none) (cellsFrom (s.heap.objs.size+1) scope.names []) (bindC (envOfC qual scope s.heap.objs.size f cd).kindOf (ps.zip us) λ_=>none) s1) :
  Inv (qM3 CX P w K mg base N qual scope f cd A outer s H E) [] (start N vs) H s1:=by
 have hpl:ps.length<=N.length:=by have:=congrArg List.length S.pre;rw[hB2]at this;omega
 obtain⟨h1,tk,rfl,hk⟩:=x.done;have noA:∀b:Addr,b∉(qM3 CX P w K mg base N qual scope f cd A outer s H E).ex:=λb z=>absurd (show b∈([]:List Addr) from z) (by simp)
 refine⟨⟨e0.mod,S.kind,rfl,rfl,hAj _,λy z c h1 h2=>?_,λy hy=>?_,λy c _ h=>?_,λ_=>hd,Around.frames_deeper e0.frames,.inr ⟨rfl,rfl⟩,λb z=>absurd z (noA b),e0.bs,e0.bsz,λb _ _=>noA b,λb z=>absurd z (noA b),e0.funs,e0.frf⟩,
  rfl,e0.bare,Un.kept hk,⟨_,x.toInCall.ns,λi y v h1 h2 h3=>?_⟩,λy c h=>⟨_,x.cell y c h⟩,e0.hok.fresh (hAj _),λy c h=>?_,λp hp=>absurd (show p∈([]:List (Addr×Obj)) from hp) (by simp),e0.hok.kept hk,?_⟩
 ·exact name_of_addr x.apart (hC7 h1) (hC7 h2)
 ·have hy:scope.names.lookup y=some .cell\/scope.names.lookup y=some .free:=hy;rcases hy with hy|hy
  ·exact qOu hy
  ·exact absurd rfl (S.nofree _ (hC7 hy))
 ·exact hBz (x.above y c (hC7 h))
 ·have hi:i<vs.length:=by
   unfold start at h2;by_cases hi:i<vs.length
   ·exact hi
   ·rw[hD8 (by simpa using hi)]at h2;rw[List.getElem?_replicate]at h2;split at h2 <;> cases h2
  have ha:vs[i]?=some v:=by
   unfold start at h2;rw[hDu (by simpa using hi),hAc]at h2;cases e:vs[i]? with
   |none=>rw[e]at h2;cases h2
   |some a=>rw[e]at h2;cases h2;rfl
  obtain⟨u,hu,rv⟩:=r.get ha;have hp:ps[i]?=some y:=by
   rw[<-S.pre,List.getElem?_take_of_lt (by omega)];exact h1
  have ndP:ps.Nodup:=by rw[<-S.pre];exact S.nd.sublist (List.take_sublist _ _)
  refine⟨u,rv,?_⟩;rcases S.par y (hAs hp) with k|k
  ·exact .inl ⟨k,qLp ndP hp hu k⟩
  ·obtain⟨c,e⟩:=qOu (n:=s.heap.objs.size+1) k;refine .inr ⟨.inl k,c,e,?_⟩;have q:=x.cell y c e;rw[qLr ndP hp hu (by show scope.names.lookup y≠_;rw[k];decide)]at q;exact q
 ·exact e0.hok.fresh (hBz (x.above y c (hC7 h)))
 ·unfold start;show _=N.length;rw[hAk,hA4,List.length_replicate];omega
theorem zBu{CX:CXT}{P:Program}{w:World}{K:PySem.W.Frag}{mg:Str->Option Value}{base:Heap}{k:Nat}{f:Addr}{name qual:Str}{params:Arguments}{body:List Stmt}{scope:Scope}{dV kV doc pm cdv ct oc:Value}{an od:Option Addr}
  {osl:Array (Option Value)} {N ps:List Str} {sp:Sp} (lk:K.lookup f=some ⟨oc,od,.func (PySem.W.fnOf name qual params body scope dV kV doc pm an cdv ct),osl⟩) (hcd:PySem.W.codeIn K cdv qual=true) (S:FnScope N ps scope)
  (len:∀vs H Q E,sp vs H Q E->vs.length=ps.length)
  (hbody:∀(A:Around) (outer:List Env) (s:Shared) (H:Hp) (vs:List V) (Q:VK) (E:XK),Room k (A.deeper (envOfC qual scope s.heap.objs.size f cdv))->sp vs H Q E ->
   ∃t,PSs (qM3 CX P w K mg base N qual scope f cdv A outer s H E) body t/\t { nx:=λ_ H'=>Q .non H',rt:=Q } (start N vs) H) :
  FnOk P w K mg base CX (k+1) f (PySem.W.fnOf name qual params body scope dV kV doc pm an cdv ct) ps sp:=by
 refine⟨len,λA outer s H args us vs Q E hr e0 hb r hsp=>?_⟩;have hl:=len _ _ _ _ hsp;have KX:K.In s.heap:=e0.mod.kin.keeps λb o e=>(e0.bs b o e).1
 have lim:s.heap.NoLimit:=e0.mod.nolimit.keeps λb o e=>(e0.bs b o e).1
 have hkind:∀y∈ps.zip us,scope.names.lookup y.1=some .local\/(scope.names.lookup y.1=some .cell/\((cellsFrom (s.heap.objs.size+1) scope.names []).lookup y.1).isSome=true):=λ⟨n,v⟩ hy=>by
  rcases S.par n (List.of_mem_zip hy).1 with q|q
  ·exact .inl q
  ·exact .inr ⟨q,hEc _ _ _ (.inl q)⟩
 refine codeAny_call_function hr.depth (KX _ _ lk) rfl S.co S.gen rfl (PySem.W.codeRec_of KX hcd) (hb _ _ _ _ ?_);refine wpAny_newFunctionEnv_cells S.kind hkind λenv he s1 x=>?_
 subst he;refine⟨lim.keeps x.toInCall.keep,codeAny_func ?_⟩;obtain⟨t,ht,hq⟩:=hbody A outer s H vs Q E (hr.deeper _) hsp;have I:Inv (qM3 CX P w K mg base N qual scope f cdv A outer s H E) [] (start N vs) H s1:=qR2 S hr.hd e0 hl r x;refine hF2 (ht [] s1 (start N vs) H _ I hq) (λfl s' hs=>?_) λe s' hs=>hs
 have fin:∀ {σ':St} {H':Hp} {v:V} {u:Value},Inv (qM3 CX P w K mg base N qual scope f cdv A outer s H E) [] σ' H' s'->qBx v u->Q v H'->CE outer P w H s Q u s' :=
  λ{σ' H' v u} J rv q=>⟨v,H',J.os,J.bare,J.base,J.hok,rv,q⟩
 cases fl with
 |ret u =>
  obtain⟨v,σ',H',J,rv,q⟩:=hs;exact fin J rv q
 |next =>
  obtain⟨σ',H',J,q⟩:=hs;exact fin (v:=V.non) (u:=Value.none) J rfl q
 |brk =>
  obtain⟨_,_,_,q⟩:=hs;exact False.elim q
 |cont =>
  obtain⟨_,_,_,q⟩:=hs;exact False.elim q
section
variable{X:Cx}{x:Str}{p pos:Pos}{e:Expr}{es:List Expr}{t:TA}{id T:String}{r:List V->Hp->VK->Prop}
def tCB(r:List V->Hp->VK->Prop)(t:TA):TE:=λσ H Q=>t σ H λvs H1=>r vs H1 Q
theorem qAh(hc:qCa X (.builtin id) r)(hg:Gl X x)(hm:X.mg x=none)(hv:bootBuiltins x=some (.builtin id))(ha:PA X (e :: es) t)(hn:x≠"__name__":=by decide)(hdb:(x == ("__debug__" : Str))=false:=by decide)
  (he:starEach (e :: es) X.env=(false,eval e X.env) :: starEach es X.env:=by rfl) (hpl:(backTo pos (starEach es X.env)).any (·.1)=false:=by rfl):PE X (.Call (.Name x p) (e :: es) [] pos) (tCB r t):=by
 intro aB s σ H Q I h;refine hG2 (qG1 I hg hm hv ?_ hn hdb);exact PyProof.Rows.callWith_builtin1 (thn (ha pos aB s σ H _ I h) λus s1 ⟨vs,H1,I1,r1,q1⟩=>hc aB s1 σ H1 vs us Q I1 r1 q1) he hpl
theorem qA7(hc:qCa X (.type T) r)(hg:Gl X x)(hm:X.mg x=none)(hv:bootBuiltins x=some (.type T))(ha:PA X (e :: es) t)(hn:x≠"__name__":=by decide)(hdb:(x == ("__debug__" : Str))=false:=by decide)
  (he:starEach (e :: es) X.env=(false,eval e X.env) :: starEach es X.env:=by rfl) (hpl:(backTo pos (starEach es X.env)).any (·.1)=false:=by rfl):PE X (.Call (.Name x p) (e :: es) [] pos) (tCB r t):=by
 intro aB s σ H Q I h;refine hG2 (qG1 I hg hm hv ?_ hn hdb);exact hDl (thn (ha pos aB s σ H _ I h) λus s1 ⟨vs,H1,I1,r1,q1⟩=>hc aB s1 σ H1 vs us Q I1 r1 q1) he hpl
end
end L2
namespace HT
open PySem PyProof.Rows
section
variable{prog:Program}{w:World}{A:Around}{E:Value->Shared->Prop}{s:Shared}
noncomputable def sIx(n d:Nat):Option Int->Nat
 |none=>d
 |some v=>if v<0 then (v+(n:Int)).toNat else min v.toNat n
theorem sIx_none(n d:Nat):sIx n d none=d:=rfl
theorem sIx_nat(n d k:Nat):sIx n d (some (k:Int))=min k n:=by
 show(if (k:Int)<0 then ((k:Int)+(n:Int)).toNat else min (k:Int).toNat n)=min k n;rw[hEr (by omega),hB8]
end
end HT
namespace L2
open PySem PySem.Spec PyProof.Rows
abbrev TO:=St->Hp->(Option Int->Hp->Prop)->Prop
def PO(X:Cx)(e:Option Expr)(t:TO):Prop :=
 ∀(aB:List (Addr×Obj)) (s:Shared) (σ:St) (H:Hp) (Q:Option Int->Hp->Prop),Inv X aB σ H s->t σ H Q ->
  wpAny (model X.prog X.w) X.A (evalPart e X.env) (λu s'=>∃o H',Inv X aB σ H' s'/\IsPart u o/\Q o H') X.xe s
def qWf:TO:=λ_ H Q=>Q none H
def zAz(t:TE):TO:=λσ H Q=>t σ H λx H1=>∃i,x = .int i/\Q (some i) H1
section
variable{X:Cx}{e:Expr}{te:TE}{lo hi:Option Expr}{tl th:TO}{pos p2:Pos}
theorem qQ0:PO X none qWf:=by
 intro aB s σ H Q I h;rw[evalPart_none];exact hEq ⟨none,H,I,.none,h⟩
theorem qQz(h:PE X e te):PO X (some e) (zAz te):=by
 intro aB s σ H Q I hw;rw[evalPart_some];refine thn (h aB s σ H _ I hw) λu s1 ⟨x,H1,I1,r1,q1⟩=>?_
 obtain⟨i,rfl,q⟩:=q1;obtain⟨t,rfl⟩:=r1;exact⟨some i,H1,I1,.int i t,q⟩
def SlR(X:Cx)(r:V->Option Int->Option Int->Hp->VK->Prop):Prop :=
 ∀(aB:List (Addr×Obj)) (s:Shared) (σ:St) (H:Hp) (x:V) (v vl vu:Value) (lo hi:Option Int) (sl:Addr) (Q:VK),Inv X aB σ H s->qBx x v->s.heap.IsSliceOf sl vl vu .none->IsPart vl lo->IsPart vu hi->r x lo hi H Q ->
  ∃T id,typeLookup (.type T) "__getitem__"=pure (some (.builtin id))/\s.TypeIs v T/\wpAny (model X.prog X.w) X.A (getItem v (.ref sl)) (EP X aB σ Q) X.xe s
def tSl(r:V->Option Int->Option Int->Hp->VK->Prop)(te:TE)(tl th:TO):TE:=λσ H Q=>te σ H λx H1=>tl σ H1 λl H2=>th σ H2 λu H3=>r x l u H3 Q
theorem qN8{r:V->Option Int->Option Int->Hp->VK->Prop}(hr:SlR X r)(he:PE X e te)(hl:PO X lo tl)(hu:PO X hi th):PE X (.Subscript e (.Slice lo hi none p2) pos) (tSl r te tl th):=by
 intro aB s σ H Q I h;refine Subscript_ (thn (he aB s σ H _ I h) λv s1 ⟨x,H1,I1,r1,q1⟩=>?_);refine wpAny_Slice (thn (hl aB s1 σ H1 _ I1 q1) λvl s2 ⟨l,H2,I2,pl,q2⟩=>thn (hu aB s2 σ H2 _ I2 q2) λvu s3 ⟨u,H3,I3,pu,q3⟩=>?_);rw[evalPart_none];refine hEq ?_;have I4:Inv X aB σ H3 { s3 with heap:=s3.heap.push { cls:=.type "slice",data:=.fields #[vl,vu,.none] } }:=I3.kept (t':=s3.toks) λb ob q=>Heap.get?_push_of_some _ q
 obtain⟨T,id,hT,ht,hg⟩:=hr aB { s3 with heap:=s3.heap.push { cls:=.type "slice",data:=.fields #[vl,vu,.none] } } σ H3 x v vl vu l u s3.heap.objs.size Q I4 r1 (Heap.IsSliceOf.new ..) pl pu q3;show wpAny (model X.prog X.w) X.A (subscriptTail e (.Slice lo hi none p2) v (.ref s3.heap.objs.size)) (EP X aB σ Q) X.xe { s3 with heap:=s3.heap.push { cls:=.type "slice",data:=.fields #[vl,vu,.none] } };exact tail_any (ops:=[.ref s3.heap.objs.size,v]) ht hT hg (by with_unfolding_all rfl)
def qV7(xs:List V)(lo hi:Option Int):List V:=(xs.drop (HT.sIx xs.length 0 lo)).take (HT.sIx xs.length xs.length hi-HT.sIx xs.length 0 lo)
theorem qM4(xs:List V)(lo hi:Option Int):(qV7 xs lo hi).length<=xs.length:=by
 unfold qV7;rw[hB2,hC8];omega
end
noncomputable def ixN(n:Nat)(i:Int):Option Nat:=if 0<=i then (if i<n then some i.toNat else none) else if -(n:Int)<=i then some (i+n).toNat else none
noncomputable def atI{α:Type}(xs:List α)(i:Int):Option α:=(ixN xs.length i).bind λj=>xs[j]?
theorem qG2{n:Nat}{i:Int}{j:Nat}(h:ixN n i=some j):seqIndex? i n=some j/\j<n/\-(n:Int)<=i/\i<n:=by
 unfold ixN at h;by_cases h0:0<=i
 ·rw[hEs h0]at h;by_cases h1:i<n
  ·rw[hEs h1]at h;have e:i.toNat=j:=hAh h;exact⟨by rw[seqIndex_of h0 h1,e],by omega,by omega,h1⟩
  ·rw[hEr h1]at h;cases h
 ·rw[hEr h0]at h;by_cases h1:-(n:Int)<=i
  ·rw[hEs h1]at h;have e:(i+n).toNat=j:=hAh h;exact⟨by rw[seqIndex_neg (by omega) h1,e],by omega,h1,by omega⟩
  ·rw[hEr h1]at h;cases h
theorem qNa{α:Type}{xs:List α}{i:Int}{v:α}(h:atI xs i=some v):∃j,seqIndex? i xs.length=some j/\xs[j]?=some v/\j<xs.length/\-(xs.length:Int)<=i/\i<xs.length:=by
 unfold atI at h;cases e:ixN xs.length i with
 |none=>rw[e]at h;cases h
 |some j =>
  rw[e]at h;obtain⟨h1,h2,h3,h4⟩:=qG2 e;exact⟨j,h1,h,h2,h3,h4⟩
theorem qAq{α:Type}{xs:List α}{j:Nat}{v:α}(h:xs[j]?=some v):atI xs (j:Int)=some v:=by
 have hj:j<xs.length:=(hAz.mp h).1;have e:ixN xs.length (j:Int)=some j:=by
  unfold ixN;rw[hEs (by omega),hEs (by omega)];simp
 unfold atI;rw[e];exact h
def qYf(b:Expr):Prop:=∀o i,subscripted b false o i=operate [o,i] (getItem o i)
def IxR(X:Cx)(r:R2):Prop :=
 ∀(value slice:Expr) (aB:List (Addr×Obj)) (s:Shared) (σ:St) (H:Hp) (x y:V) (v u:Value) (Q:VK),Inv X aB σ H s->qBx x v->qBx y u->r x y H Q ->
  subscripted slice false v u=operate [v,u] (getItem v u)->wpAny (model X.prog X.w) X.A (subscriptTail value slice v u) (EP X aB σ Q) X.xe s
def MtR(X:Cx)(id:String)(r:V->List V->Hp->VK->Prop):Prop :=
 ∀(aB:List (Addr×Obj)) (s:Shared) (σ:St) (H:Hp) (x:V) (xs:List V) (v:Value) (us:List Value) (Q:VK),Inv X aB σ H s->qBx x v->qBd xs us->r x xs H Q ->
  wpAny (model X.prog X.w) X.A (call (.builtin id) (v :: us)) (EP X aB σ Q) X.xe s
section
variable{X:Cx}{a b:Expr}{ta tb:TE}{pos:Pos}
theorem qAt{r:R2}(hr:IxR X r)(ha:PE X a ta)(hb:PE X b tb)(hs:qYf b):PE X (.Subscript a b pos) (tOp r ta tb):=by
 intro aB s σ H Q I h;exact Subscript_ (zBx ha hb I h λv u s2 x y H2 I2 rx ry q=>hr a b aB s2 σ H2 x y v u Q I2 rx ry q (hs _ _))
def qWw(K:PySem.W.Frag):R2:=λx y H Q=>∃p xs i v,x = .ref p/\y = .int i/\SqL K H p xs/\atI xs i=some v/\Q v H
def qZf(K:PySem.W.Frag):R2:=λx y H Q=>∃p xs i v,x = .ref p/\y = .int i/\SqT K H p xs/\atI xs i=some v/\Q v H
def zCt:R2:=λx y H Q=>∃z i c,x = .str z/\y = .int i/\z.length<=sizeLine/\atI z.cps.toList i=some c/\Q (.str ⟨#[c]⟩) H
theorem qAm:IxR X (qWw X.K):=by
 intro value slice aB s σ H x y v u Q I rx ry h hs;obtain⟨p,xs,i,z,rfl,rfl,hq,he,q⟩:=h;cases rx;obtain⟨t,rfl⟩:=ry;obtain⟨its,r,pl,hz⟩:=I.list hq;obtain⟨j,h1,h2,h3,h4,h5⟩:=qNa he;obtain⟨w,ew,rw'⟩:=r.get h2;have hl:=r.length;have hn:=qKo;have fin:EP X aB σ Q w s:=⟨z,H,I,rw',q⟩;by_cases h0:0<=i
 ·have hj:i.toNat=j:=by
   rw[seqIndex_of h0 h5]at h1;exact hAh h1
  exact item_listR pl.isList h0 (by omega) (by rw[hj];simpa using ew) fin hs
 ·have hj:(i+(its.toArray.size:Int)).toNat=j:=by
   rw[seqIndex_neg (by omega) h4]at h1;rw[hAu,<-hl];exact hAh h1
  exact subscriptTail_builtinR (x:=w) pl.isList.typeIs slot_list_getitem.lookup
   (wpAny_getItem_list_neg (Q:=λr s'=>r=w/\EP X aB σ Q r s') pl.isList (by omega) (by rw[hAu] <;> omega) (by omega) (by rw[hj];simpa using ew) ⟨rfl,fin⟩) hs
theorem qCk:IxR X (qZf X.K):=by
 intro value slice aB s σ H x y v u Q I rx ry h hs;obtain⟨p,xs,i,z,rfl,rfl,hq,he,q⟩:=h;cases rx;obtain⟨t,rfl⟩:=ry;obtain⟨its,r,pl,hz⟩:=I.tuple hq;obtain⟨j,h1,h2,h3,h4,h5⟩:=qNa he;obtain⟨w,ew,rw'⟩:=r.get h2;have hl:=r.length;have hn:=qKo;have fin:EP X aB σ Q w s:=⟨z,H,I,rw',q⟩;exact subscriptTail_builtinR (x:=w) pl.typeIs slot_tuple_getitem.lookup
  (getItem_tuple (j:=j) (Q:=λr s'=>r=w/\EP X aB σ Q r s') pl (by omega) (by omega) (by rw[hAu,<-hl];exact h1) (by simpa using ew) ⟨rfl,fin⟩) hs
theorem qV1:IxR X zCt:=by
 intro value slice aB s σ H x y v u Q I rx ry h hs;obtain⟨z,i,c,rfl,rfl,hz,he,q⟩:=h;obtain⟨t,rfl⟩:=rx;obtain⟨t',rfl⟩:=ry;obtain⟨j,h1,h2,h3,h4,h5⟩:=qNa he;have hl:z.cps.toList.length=z.length:=by simp[Str.length]
 rw[hl]at h1 h4 h5;have hn:=qKo;exact tail_any (typeIs_str s z t) slot_str_getitem.lookup (getItem_str (c:=c) (by
  have e1:decide (i < -(2^63:Int))=false:=hEu (by omega);have e2:decide (i >= 2^63)=false:=hEu (by omega);rw[e1,e2,Bool.or_false]) (by rw[h1];simpa using h2) ⟨.str ⟨#[c]⟩,H,I.tok _,⟨_,rfl⟩,q⟩) hs
theorem qPe(its:List Value)(n j:Nat)(u:Value):Obj.mapSeq (·.setIfInBounds j u) { cls:=.type "list",data:=.seq its.toArray n }={ cls:=.type "list",data:=.seq (its.set j u).toArray n }:=by
 simp[Obj.mapSeq]
theorem Inv.lst{aB:List (Addr×Obj)}{σ:St}{H:Hp}{s:Shared}{p:Addr}{xs:List V}(I:Inv X aB σ H s)(h:H p=some (.lst xs)) :
  ∃(its:List Value) (n:Nat),qBd xs its/\s.heap.get? p=some { cls:=.type "list",data:=.seq its.toArray n }/\xs.length<=sizeLine:=by
 obtain⟨z,its,n,r,e⟩:=I.hok p _ h;exact⟨its,n,r,e,z⟩
theorem Inv.lstUpd{aB:List (Addr×Obj)}{σ:St}{H:Hp}{s:Shared}{p:Addr}{xs ys:List V}{its its':List Value}{n n':Nat}{f:Obj->Obj}(I:Inv X aB σ H s)(h:H p=some (.lst xs))
  (ho:s.heap.get? p=some { cls:=.type "list",data:=.seq its.toArray n }) (hf:f { cls:=.type "list",data:=.seq its.toArray n }={ cls:=.type "list",data:=.seq its'.toArray n' }) (r:qBd ys its') (hz:ys.length<=sizeLine) (t:Nat) :
  Inv X aB σ (upd H p (.lst ys)) { s with heap:=s.heap.update p f,toks:=t }:=by
 have e:(s.heap.update p f).get? p=some { cls:=.type "list",data:=.seq its'.toArray n' }:=by
  rw[Heap.get?_update_self f ho (by rw[hf] <;> rfl),hf]
 refine I.write (x:=p) (e:=p) (by rw[h];trivial) (.inl rfl) (λb u hb q=>(Heap.get?_update_other _ _ (Ne.symm hb)).trans q) ⟨_,e⟩ ?_;exact⟨hz,its',n',r,e⟩
def zA9:V->V->V->Hp->(Hp->Prop)->Prop:=λo i v H Q=>∃p xs k j,o = .ref p/\i = .int k/\H p=some (.lst xs)/\ixN xs.length k=some j/\Q (upd H p (.lst (xs.set j v)))
theorem qEt:zCe X zA9:=by
 intro aB s σ H o i v ov iv u Q I ro ri rv h;obtain⟨p,xs,k,j,rfl,rfl,hp,hj,q⟩:=h;cases ro;obtain⟨t,rfl⟩:=ri;obtain⟨its,n,r,ho,hz⟩:=I.lst hp;obtain⟨h1,h2,h3,h4⟩:=qG2 hj;have hl:=r.length;have hn:=qKo;have I':Inv X aB σ (upd H p (.lst (xs.set j v))) { s with heap:=s.heap.update p (Obj.mapSeq (·.setIfInBounds j u)) } :=
  I.lstUpd hp ho (qPe its n j u) (r.set rv j) (by rw[hCz];exact hz) s.toks
 by_cases h0:0<=k
 ·have hk:k.toNat=j:=by
   rw[seqIndex_of h0 h4]at h1;exact hAh h1
  exact PySem.W.ki_setAt ho h0 (by omega) (by rw[hAu,<-hl];exact h4) (by rw[hk];exact⟨_,I',q⟩)
 ·have hk:(k+(its.toArray.size:Int)).toNat=j:=by
   rw[seqIndex_neg (by omega) h3]at h1;rw[hAu,<-hl];exact hAh h1
  exact PySem.W.ki_setBack ho (by omega) (by rw[hAu,<-hl];exact h3) (by omega) (by rw[hk];exact⟨_,I',q⟩)
theorem qJ6(lo hi:Option Int)(n:Nat):(sliceBounds lo hi none n).1=((HT.sIx n 0 lo:Nat):Int)/\(sliceBounds lo hi none n).2.1=((HT.sIx n n hi:Nat):Int)/\(sliceBounds lo hi none n).2.2=1:=by
 refine⟨?_,?_,rfl⟩
 ·cases lo with
  |none=>simp[sliceBounds,HT.sIx]
  |some i =>
   simp only[sliceBounds,HT.sIx,Option.getD_none,show(1:Int) > 0 by decide,hG3];by_cases h:i<0
   ·simp only[h,hG3] <;> omega
   ·simp only[h,hFg] <;> omega
 ·cases hi with
  |none=>simp[sliceBounds,HT.sIx]
  |some i =>
   simp only[sliceBounds,HT.sIx,Option.getD_none,show(1:Int) > 0 by decide,hG3];by_cases h:i<0
   ·simp only[h,hG3] <;> omega
   ·simp only[h,hFg] <;> omega
theorem qIo(its:List Value)(lo hi:Option Int):slicePick its.toArray lo hi none=((its.drop (HT.sIx its.length 0 lo)).take (HT.sIx its.length its.length hi-HT.sIx its.length 0 lo)).toArray:=by
 obtain⟨h1,h2,h3⟩:=qJ6 lo hi its.toArray.size;unfold slicePick;rw[h1,h2,h3];simp only[sliceRange_one,pick_run,hAu] <;> rfl
def zCq(K:PySem.W.Frag):V->Option Int->Option Int->Hp->VK->Prop:=λx lo hi H Q=>∃a xs,x = .ref a/\SqL K H a xs/\∀p,H p=none->Q (.ref p) (upd H p (.lst (qV7 xs lo hi)))
theorem qP8:SlR X (zCq X.K):=by
 intro aB s σ H x v vl vu lo hi sl Q I rx hs pl pu h;obtain⟨a,xs,rfl,hx,q⟩:=h;cases rx;obtain⟨its,r,ht,hz⟩:=I.list hx;have hlen:=r.length;refine⟨"list",_,slot_list_getitem.lookup,ht.isList.typeIs,?_⟩;refine wpAny_getItem_list_slice ht.isList hs pl pu .none (by simp) ?_ (by rw[hAu] <;> omega);rw[qIo,<-hlen];refine⟨.ref s.heap.objs.size,_,I.laid (t':=s.toks) (o:=.lst (qV7 xs lo hi)) (λb ob q=>Heap.get?_push_of_some _ q) (hAj _) ?_,rfl,q _ (I.hok.fresh (hAj _))⟩;exact⟨hBa (qM4 xs lo hi) hz,_,0,(r.drop (HT.sIx xs.length 0 lo)).take (HT.sIx xs.length xs.length hi-HT.sIx xs.length 0 lo),Heap.get?_push_size _ rfl⟩
noncomputable def qJg:V->Bool
 |.non=>true
 |.bl _=>true
 |.int _=>true
 |.str _=>true
 |_=>false
noncomputable def eqV:V->V->Bool
 |.non,.non=>true
 |.bl a,.bl b=>a == b
 |.bl a,.int b=>(if a then 1 else 0) == b
 |.int a,.bl b=>a == (if b then 1 else 0)
 |.int a,.int b=>a == b
 |.str a,.str b=>a == b
 |_,_=>false
theorem zAj{A:Around}{s:Shared}{y x:V}{u v:Value}(ry:qBx y u)(rx:qBx x v)(fy:qJg y=true)(fx:qJg x=true):SeqAt.EqAt A s u v (eqV y x):=by
 cases y with
 |non =>
  cases ry;cases x with
  |non=>cases rx;exact SeqAt.EqAt.same _
  |bl b=>cases rx;exact SeqAt.EqAt.none_bool b
  |int b=>obtain⟨t,rfl⟩:=rx;exact SeqAt.EqAt.none_int b t
  |str b=>obtain⟨t,rfl⟩:=rx;exact SeqAt.EqAt.none_str b t
  |_=>exact absurd (show false=true from fx) hAo
 |bl a =>
  cases ry;cases x with
  |non=>cases rx;exact SeqAt.EqAt.bool_none a
  |bl b=>cases rx;exact SeqAt.EqAt.bool_bool a b
  |int b=>obtain⟨t,rfl⟩:=rx;exact SeqAt.EqAt.bool_int a b t
  |str b=>obtain⟨t,rfl⟩:=rx;exact SeqAt.EqAt.bool_str a b t
  |_=>exact absurd (show false=true from fx) hAo
 |int a =>
  obtain⟨t',rfl⟩:=ry;cases x with
  |non=>cases rx;exact SeqAt.EqAt.int_none a t'
  |bl b=>cases rx;exact SeqAt.EqAt.int_bool a t' b
  |int b=>obtain⟨t,rfl⟩:=rx;exact SeqAt.EqAt.int_int a t' b t
  |str b=>obtain⟨t,rfl⟩:=rx;exact SeqAt.EqAt.int_str a t' b t
  |_=>exact absurd (show false=true from fx) hAo
 |str a =>
  obtain⟨t',rfl⟩:=ry;cases x with
  |non=>cases rx;exact SeqAt.EqAt.str_none a t'
  |bl b=>cases rx;exact SeqAt.EqAt.str_bool a t' b
  |int b=>obtain⟨t,rfl⟩:=rx;exact SeqAt.EqAt.str_int a t' b t
  |str b=>obtain⟨t,rfl⟩:=rx;exact SeqAt.EqAt.str_str a t' b t
  |_=>exact absurd (show false=true from fx) hAo
 |_=>exact absurd (show false=true from fy) hAo
noncomputable def eqU(x:V)(u:Value):Bool:=match u with
 |.none=>eqV .non x
 |.bool b=>eqV (.bl b) x
 |.int i _=>eqV (.int i) x
 |.str z _=>eqV (.str z) x
 |_=>false
theorem qV4{x y:V}{u:Value}(r:qBx y u)(f:qJg y=true):eqU x u=eqV y x:=by
 cases y with
 |non=>cases r;rfl
 |bl b=>cases r;rfl
 |int i=>obtain⟨t,rfl⟩:=r;rfl
 |str z=>obtain⟨t,rfl⟩:=r;rfl
 |_=>exact absurd (show false=true from f) hAo
theorem qNc{x:V}:∀ {xs:List V} {us:List Value},qBd xs us->xs.all qJg=true->us.any (eqU x)=xs.any λy=>eqV y x
 |_,_,.nil,_=>rfl
 |y :: xs,u :: us,.cons r t,f=>by
  rw[List.all_cons,hC4]at f;rw[hCj,hCj,qV4 r f.1,qNc t f.2]
theorem qI8{A:Around}{s:Shared}{x:V}{v:Value}(rx:qBx x v)(fx:qJg x=true):∀ {xs:List V} {us:List Value},qBd xs us->xs.all qJg=true->∀u∈us,SeqAt.EqAt A s u v (eqU x u)
 |_,_,.nil,_=>λu hu=>by cases hu
 |y :: xs,u :: us,.cons r t,f=>λu' hu=>by
  rw[List.all_cons,hC4]at f;rcases hAg.mp hu with rfl|hu
  ·rw[qV4 r f.1];exact zAj r rx f.1 fx
  ·exact qI8 rx fx t f.2 u' hu
noncomputable def inV(x:V)(xs:List V):Bool:=xs.any λy=>eqV y x
def rIn(K:PySem.W.Frag)(neg:Bool):R2:=λx y H Q=>∃p xs,y = .ref p/\(SqL K H p xs\/SqT K H p xs)/\qJg x=true/\xs.all qJg=true/\Q (.bl (if neg then !inV x xs else inV x xs)) H
theorem qKl:OpR X (compareOp .In) (rIn X.K false):=by
 intro aB s σ H x y v u Q I rx ry h;obtain⟨p,xs,rfl,hq,fx,fs,q⟩:=h;cases ry;rcases hq with hq|hq
 ·obtain⟨its,r,pl,hz⟩:=I.list hq;refine SeqAt.in_listAt (eqU x) pl.isList (λw hw=>qI8 rx fx r fs w (by simpa using hw)) ⟨.bl _,H,I,rfl,?_⟩;rw[show its.toArray.any (eqU x)=its.any (eqU x) by simp,qNc r fs];exact q
 ·obtain⟨its,r,pl,hz⟩:=I.tuple hq;refine SeqAt.in_tupleAt (eqU x) pl (λw hw=>qI8 rx fx r fs w (by simpa using hw)) ⟨.bl _,H,I,rfl,?_⟩;rw[show its.toArray.any (eqU x)=its.any (eqU x) by simp,qNc r fs];exact q
theorem qAj:qCa X (.builtin "len") (λxs H Q=>∃p ys,xs=[.ref p]/\(SqL X.K H p ys\/SqT X.K H p ys)/\Q (.int ys.length) H):=by
 intro aB s σ H xs us Q I r h;obtain⟨p,ys,rfl,hq,q⟩:=h;obtain⟨u,rfl,rx⟩:=qC8 r;cases rx;have hn:=qKo;rcases hq with hq|hq
 ·obtain⟨its,r',pl,hz⟩:=I.list hq;have hlen:=r'.length;exact Calls.call_len_list pl.isList (by simp only[hAu] <;> omega) ⟨.int ys.length,H,I.tok _,⟨s.toks+1,by rw[hAu,hlen]⟩,q⟩
 ·obtain⟨its,r',pl,hz⟩:=I.tuple hq;have hlen:=r'.length;exact len_tuple pl (by simp only[hAu] <;> omega) ⟨.int ys.length,H,I.tok _,⟨s.toks+1,by rw[hAu,hlen]⟩,q⟩
theorem qB1:qCa X (.type "list") (λxs H Q=>∃p ys,xs=[.ref p]/\(SqL X.K H p ys\/SqT X.K H p ys)/\∀l,H l=none->Q (.ref l) (upd H l (.lst ys))):=by
 intro aB s σ H xs us Q I r h;obtain⟨p,ys,rfl,hq,q⟩:=h;obtain⟨u,rfl,rx⟩:=qC8 r;cases rx;have fin:∀(its:List Value),qBd ys its->ys.length<=sizeLine->∀(h':Heap) (c':Nat),(∀b o',s.heap.get? b=some o'->h'.get? b=some o') ->
   h'.get? s.heap.objs.size=some { cls:=.type "list",dict:=none,data:=.seq its.toArray c',slots:=#[] }->EP X aB σ Q (.ref s.heap.objs.size) { s with heap:=h' }:=λits r' hz h' c' kp e =>
  ⟨.ref s.heap.objs.size,_,I.laid (t':=s.toks) kp (hAj _) (show qB9 X.prog X.w _ h' _ (.lst ys) from ⟨hz,its,c',r',e⟩),rfl,q _ (I.hok.fresh (hAj _))⟩
 rcases hq with hq|hq
 ·obtain⟨its,r',pl,hz⟩:=I.list hq;have hlen:=r'.length;obtain⟨o,ho,hc,n,hd⟩:=pl.isList;exact call_list_seq p (.inl rfl) ho hc hd (λh' c' kp e=>fin its r' hz h' c' kp e) (by simp only[hAu] <;> omega)
 ·obtain⟨its,r',pl,hz⟩:=I.tuple hq;have hlen:=r'.length;obtain⟨o,ho,hc,n,hd⟩:=pl;exact call_list_seq p (.inr rfl) ho hc hd (λh' c' kp e=>fin its r' hz h' c' kp e) (by simp only[hAu] <;> omega)
theorem qFc:qCa X (.type "tuple") (λxs H Q=>∃p ys,xs=[.ref p]/\((SqL X.K H p ys/\∀l,H l=none->Q (.ref l) (upd H l (.tup ys)))\/(SqT X.K H p ys/\Q (.ref p) H))):=by
 intro aB s σ H xs us Q I r h;obtain⟨p,ys,rfl,h⟩:=h;obtain⟨u,rfl,rx⟩:=qC8 r;cases rx;rcases h with ⟨hq,q⟩|⟨hq,q⟩
 ·obtain⟨its,r',pl,hz⟩:=I.list hq;have hlen:=r'.length;refine call_tuple_list pl.isList (λh' kp=>?_) (by simp only[hAu] <;> omega);have I1:Inv X aB σ H { s with heap:=h' }:=I.kept (t':=s.toks) kp;have I2:Inv X aB σ (upd H h'.objs.size (.tup ys)) { s with heap:=h'.push { cls:=.type "tuple",data:=.seq its.toArray } } :=
   I1.laid (t':=s.toks) (λb o e=>Heap.get?_push_of_some _ e) (hAj _) (show qB9 X.prog X.w _ _ _ (.tup ys) from ⟨hz,its,r',IsTup.new _ _⟩)
  exact⟨.ref h'.objs.size,_,I2,rfl,q _ (I1.hok.fresh (hAj _))⟩
 ·obtain⟨its,r',pl,hz⟩:=I.tuple hq;exact call_tuple_same pl ⟨.ref p,H,I,rfl,q⟩
def tyV(K:PySem.W.Frag)(T:String)(x:V)(H:Hp):Prop:=match x with
 |.str _=>T = "str"
 |.int _=>T = "int"
 |.ref p=>(T = "list"/\∃xs,SqL K H p xs)\/(T = "tuple"/\∃o,K.lookup p=some o/\o.cls = .type "tuple"/\o.dict=none) \/
   (T = "dict"/\((∃kvs,H p=some (.dK kvs))\/∃kvs,H p=some (.dT kvs)))\/(T = "set"/\∃S n,H p=some (.set S n))
 |_=>False
theorem qJ3{aB:List (Addr×Obj)}{σ:St}{H:Hp}{s:Shared}{T:String}{x:V}{v:Value}(I:Inv X aB σ H s)(r:qBx x v)(ty:tyV X.K T x H) :
  s.TypeIs v T/\∀a,v = .ref a->∃ob,s.heap.get? a=some ob/\ob.dict=none:=by
 cases x with
 |str z =>
  obtain⟨t,rfl⟩:=r;cases(show T = "str" from ty);exact⟨typeIs_str s z t,λ_ e=>nomatch e⟩
 |int i =>
  obtain⟨t,rfl⟩:=r;cases(show T = "int" from ty);exact⟨typeIs_int s i t,λ_ e=>nomatch e⟩
 |ref p =>
  cases r;rcases ty with ⟨rfl,xs,hq⟩|⟨rfl,o,hk,hc,hd⟩|⟨rfl,hk⟩|⟨rfl,S,n,hk⟩
  ·obtain⟨its,_,pl,_⟩:=I.list hq;refine⟨pl.isList.typeIs,λa e=>?_⟩;cases e;obtain⟨o,n,e,c,hd,_⟩:=pl;exact⟨o,e,hd⟩
  ·refine⟨⟨o,I.kIn p o hk,hc⟩,λa e=>?_⟩;cases e;exact⟨o,I.kIn _ o hk,hd⟩
  ·have z:∃o,s.heap.get? p=some o/\o.ExactDict:=by
    rcases hk with ⟨kvs,hk⟩|⟨kvs,hk⟩
    ·obtain⟨_,_,_,_,o,_,_,e,ex,_⟩:=I.hok p _ hk;exact⟨o,e,ex⟩
    ·obtain⟨_,_,_,_,o,_,_,e,ex,_⟩:=I.hok p _ hk;exact⟨o,e,ex⟩
   obtain⟨o,e,ex⟩:=z;refine⟨⟨o,e,ex.1⟩,λa e2=>?_⟩;cases e2;exact⟨o,e,ex.2.1⟩
  ·obtain⟨o,_,_,_,e,ex,_⟩:=I.hok p _ hk;refine⟨⟨o,e,ex.1⟩,λa e2=>?_⟩;cases e2;exact⟨o,e,ex.2.1⟩
 |_=>exact False.elim ty
def zCn(K:PySem.W.Frag)(T:String)(r:V->List V->Hp->VK->Prop)(to:TE):TE:=λσ H Q=>to σ H λx H1=>tyV K T x H1/\r x [] H1 Q
def tBM(K:PySem.W.Frag)(T:String)(r:V->List V->Hp->VK->Prop)(to:TE)(t:TA):TE:=λσ H Q=>to σ H λx H1=>tyV K T x H1/\t σ H1 λxs H2=>r x xs H2 Q
variable{o e:Expr}{es:List Expr}{to:TE}{t:TA}{name:Str}{apos cpos:Pos}{T id:String}{r:V->List V->Hp->VK->Prop}
theorem qZm(pa:PlainAttrs T)(slot:Slot T name id)(hty:typeOf (.builtin id)=pure (.type "method_descriptor"))(hm:MtR X id r)(ho:PE X o to)
  (hbase:attributeBase o name X.env (eval o X.env)=eval o X.env:=by rfl) (hline:(apos.endLine == cpos.line)=true:=by rfl):PE X (.Call (.Attribute o name apos) [] [] cpos) (zCn X.K T r to):=by
 intro aB s σ H Q I h;refine hFp hbase hline (thn (ho aB s σ H _ I h) λv s1 ⟨x,H1,I1,r1,ty,q1⟩=>?_);obtain⟨h1,h2⟩:=qJ3 I1 r1 ty;exact⟨T,id,pa,slot,hty,h1,h2,Calls.callWith_builtin rfl (hEm (hm aB s1 σ H1 x [] v [] Q I1 r1 .nil q1))⟩
theorem qF8(pa:PlainAttrs T)(slot:Slot T name id)(hty:typeOf (.builtin id)=pure (.type "method_descriptor"))(hm:MtR X id r)(ho:PE X o to)(ha:PA X (e :: es) t)
  (hbase:attributeBase o name X.env (eval o X.env)=eval o X.env:=by rfl)
  (hfew:((backTo cpos (starEach (e :: es) X.env)).all (λx=>!x.1) && (backToKw cpos (keywordEach [] X.env)).all (λx=>x.1.isSome)
   && decide ((e :: es).length+([]:List Keyword).length+(if ([]:List Keyword).isEmpty then 0 else 1)<30))=true:=by rfl)
  (hline:(apos.endLine == cpos.line)=true:=by rfl) (hs:starEach (e :: es) X.env=(false,eval e X.env) :: starEach es X.env:=by rfl) (hplain:(backTo cpos (starEach es X.env)).any (·.1)=false:=by rfl) :
  PE X (.Call (.Attribute o name apos) (e :: es) [] cpos) (tBM X.K T r to t):=by
 intro aB s σ H Q I h;refine wpAny_Call_method_late hbase hfew hline rfl (thn (ho aB s σ H _ I h) λv s1 ⟨x,H1,I1,r1,ty,q1⟩=>?_);obtain⟨h1,h2⟩:=qJ3 I1 r1 ty;refine⟨T,id,pa,slot,hty,h1,h2,?_⟩;have hA:=ha cpos aB s1 σ H1 _ I1 q1;rw[hs]at hA ⊢;refine Calls.callWith_builtin (by show(false || (backTo cpos (starEach es X.env)).any (·.1))=false;rw[hplain] <;> rfl) (Calls.evalArgs_plain ?_);exact thn hA λus s2 ⟨vs,H2,I2,r2,q2⟩=>hm aB s2 σ H2 x vs v us Q I2 r1 r2 q2
end
def MtM(X:Cx)(id:String)(r:V->List V->Hp->VK->Prop):Prop :=
 ∀(aB:List (Addr×Obj)) (s:Shared) (σ:St) (H:Hp) (x:V) (xs:List V) (v:Value) (us:List Value) (Q:VK),Inv X aB σ H s->qBx x v->qBd xs us->r x xs H Q ->
  wpAny (model X.prog X.w) X.A (call (.builtin id) (v :: us)) (EP X aB σ Q) X.xe s
theorem qBd.one:∀ {x:V} {us:List Value},qBd [x] us->∃u,us=[u]/\qBx x u
 |_,_,.cons r .nil=>⟨_,rfl,r⟩
theorem qBd.eraseIdx:∀ {xs:List V} {us:List Value} (i:Nat),qBd xs us->qBd (xs.eraseIdx i) (us.eraseIdx i)
 |_,_,_,.nil=>.nil
 |_,_,0,.cons _ t=>t
 |_,_,i+1,.cons r t=>.cons r (qBd.eraseIdx i t)
theorem qKp{α:Type}:∀(l:List α) (i:Nat),(l.eraseIdx i).length<=l.length
 |[],_=>hAj _
 |_ :: _,0=>hBl _
 |_ :: r,i+1=>Nat.succ_le_succ (qKp r i)
section
variable{X:Cx}{aB:List (Addr×Obj)}{σ:St}{H:Hp}{s:Shared}{l b:Addr}{xs ys zs:List V}
theorem Inv.lset{its its':List Value}{n:Nat}{f:Array Value->Array Value}{t':Nat}(I:Inv X aB σ H s)(hH:H l=some (.lst xs))
  (e:s.heap.get? l=some { cls:=.type "list",data:=.seq its.toArray n }) (hf:f its.toArray=its'.toArray) (hv:qBd ys its') (hz:ys.length<=sizeLine) :
  Inv X aB σ (upd H l (.lst ys)) { s with heap:=s.heap.update l (Obj.mapSeq f),toks:=t' }:=by
 have q:=PySem.IsL.update e f;rw[hf]at q;refine I.write (x:=l) (e:=l) (by rw[hH];exact trivial) (.inl rfl) (λb' u hb hu=>(Heap.get?_update_other s.heap (Obj.mapSeq f) (Ne.symm hb)).trans hu) ⟨_,q⟩ ?_;exact⟨hz,its',_,hv,q⟩
theorem Inv.lnew{its:List Value}{t':Nat}(I:Inv X aB σ H s)(hv:qBd ys its)(hz:ys.length<=sizeLine) :
  Inv X aB σ (upd H s.heap.objs.size (.lst ys)) { s with heap:=s.heap.push { cls:=.type "list",data:=.seq its.toArray },toks:=t' } :=
 I.laid (λ_ _ q=>Heap.get?_push_of_some _ q) (hAj _) ⟨hz,its,0,hv,Heap.get?_push_size _ rfl⟩
theorem Inv.fresh(I:Inv X aB σ H s):H s.heap.objs.size=none:=I.hok.fresh (hAj _)
theorem Inv.lstM(I:Inv X aB σ H s)(hH:H l=some (.lst xs)):xs.length<=sizeLine/\∃(its:List Value) (n:Nat),qBd xs its/\xs.length=its.length/\s.heap.get? l=some { cls:=.type "list",data:=.seq its.toArray n }:=by
 obtain⟨z,its,n,r,e⟩:=I.hok l _ hH;exact⟨z,its,n,r,r.length,e⟩
end
section
variable{X:Cx}
def qWz:V->List V->Hp->VK->Prop:=λx vs H Q=>∃l xs y,x = .ref l/\vs=[y]/\H l=some (.lst xs)/\xs.length<sizeLine/\Q .non (upd H l (.lst (xs++[y])))
theorem qE3:MtM X "list.append" qWz:=by
 intro aB s σ H x vs v us Q I rx rv h;obtain⟨l,xs,y,rfl,rfl,hH,hz,q⟩:=h;cases rx;obtain⟨u,rfl,ru⟩:=rv.one;obtain⟨z,its,n,r,hl,e⟩:=I.lstM hH;refine call_meets F.slot_list_append ⟨_,e,rfl⟩ F.entry_list_append (F.args_list_append_2 _ _) (PySem.list_append l its.toArray n u (by rw[hAu];omega)) ⟨e,?_⟩;refine⟨.non,_,I.lset (its':=its++[u]) hH e (by simp) (r.append (.cons ru .nil)) ?_,rfl,q⟩;rw[hAk,hBf];omega
def qZd:V->List V->Hp->VK->Prop:=λx vs H Q=>∃l xs i k y,x = .ref l/\vs=[.int i]/\H l=some (.lst xs)/\-(2^63)<=i/\i<2^63/\seqIndex? i xs.length=some k/\xs[k]?=some y/\Q y (upd H l (.lst (xs.eraseIdx k)))
theorem qI7:MtM X "list.pop" qZd:=by
 intro aB s σ H x vs v us Q I rx rv h;obtain⟨l,xs,i,k,y,rfl,rfl,hH,h1,h2,hk,hy,q⟩:=h;cases rx;obtain⟨u,rfl,ru⟩:=rv.one;obtain⟨t,rfl⟩:=ru;obtain⟨z,its,n,r,hl,e⟩:=I.lstM hH;obtain⟨w,hw,rw'⟩:=r.get hy;refine call_meets F.slot_list_pop ⟨_,e,rfl⟩ F.entry_list_pop (F.args_list_pop_2 _ _)
  (MeetsSeq.list_pop_at l its.toArray n i t k w (fitsIndex_both h1 h2) (by rw[hAu,<-hl];exact hk) (by rw[<-hB0];exact hw) (by rw[hAu];omega)) ⟨e,?_⟩
 refine⟨y,_,I.lset (its':=its.eraseIdx k) hH e ?_ (r.eraseIdx k) ?_,rw',q⟩
 ·show its.toArray.eraseIdxIfInBounds k=(its.eraseIdx k).toArray;rw[List.eraseIdxIfInBounds_toArray]
 ·have:=qKp xs k;omega
def zCu:R2:=λx y H Q=>∃l b xs zs,x = .ref l/\y = .ref b/\H l=some (.lst xs)/\H b=some (.lst zs)/\xs.length+zs.length<=sizeLine/\∀p,H p=none->Q (.ref p) (upd H p (.lst (xs++zs)))
theorem qE1:OpR X (binaryOp .Add) zCu:=by
 intro aB s σ H x y v u Q I rx ry h;obtain⟨l,b,xs,zs,rfl,rfl,hH,hB,hz,q⟩:=h;cases rx;cases ry;obtain⟨z,its,n,r,hl,e⟩:=I.lstM hH;obtain⟨z2,its2,n2,r2,hl2,e2⟩:=I.lstM hB;refine PySem.P.add_list e e2 ?_ (by rw[hAu,hAu];omega);have ea:its.toArray++its2.toArray=(its++its2).toArray:=by simp
 rw[ea];exact⟨.ref _,_,I.lnew (t':=s.toks) (r.append r2) (by rw[hAk];omega),rfl,q _ I.fresh⟩
end
end L2
namespace Att
open PySem PySem.W PySem.Calls PyProof.Rows
theorem qG3{P:Params}{h:Heap}:∀(ns:List Int) (vs:List Value),WellAll P h vs (ns.map WData.int)->IntsAre vs ns:=by
 intro ns
 induction ns with
 |nil =>
  intro vs w;rw[List.map_nil]at w;cases w;exact .nil
 |cons n ns ih =>
  intro vs w;rw[hAn]at w;cases w with
  |cons a b =>
   cases a;exact .cons _ _ (ih _ b)
theorem qQe{l:OpenLaw}{n:Nat}(hn:l.most=some n){P:Params}{h:Heap}{args:List WData}{vals:List Value}
  (hpre:l.row.toRowW.claim.pre args=true) (hwl:WellAll P h vals args) :
  ∃a vs ns,vals=[Value.ref a]/\args=[WData.list (ns.map WData.int)]/\h.get? a=some { cls:=.type "list",data:=.seq vs.toArray }/\IntsAre vs ns/\ns.length<=n:=by
 have hsh:WShape.hasAll [] args [.list .int]=true:=(pre_splitW hpre).1;have hc:l.pre.holds [] { args:=args }=true:=(pre_splitW hpre).2;obtain⟨d,r,rfl,h1,h2⟩:=hasAllW_cons hsh;obtain rfl:=hasAllW_nil h2;obtain⟨xs,rfl,h3⟩:=hasW_list h1;obtain⟨ns,rfl⟩:=items_int h3;have hlen:ns.length<=n:=by
  unfold OpenLaw.pre at hc;have h4:(WTm.not (.lt (.lit (.int (n:Int))) (.len (.arg 0)))).holds [] { args:=[.list (ns.map .int)] }=true:=by
   have h4:=(holds_andW hc).1;rw[hn]at h4;exact h4
  have h5:=condW_of h4 (w_not (w_lt w_lit (w_len_list (w_arg rfl))));rw[hA4]at h5;refine Nat.le_of_not_lt λq=>?_
  have q':(n:Int)<((ns.length:Nat):Int):=by omega
  first
   |(rw[hEt q']at h5;exact absurd h5 (by decide))
   |(simp at h5;omega)
 cases hwl with
 |cons w1 w2 =>
  cases w2;cases w1 with
  |list ho hall=>exact⟨_,_,ns,rfl,rfl,ho,qG3 ns _ hall,hlen⟩
theorem qQy(l:OpenLaw)(args:List WData):l.row.toRowW.claim.post args (.bool true) args=true :=
 postW_of (r:=l.row.toRowW) (X:=(true == true))
  (show WShape.has [] (.bool true) .bool=true by first|rfl|decide|simp[WShape.has,WShape.arms,WShape.armsAll])
  (show(WTm.eq .res (.lit (.bool true))).value [] { args:=args,res:=some (.bool true),after:=args }=some (.bool (true == true)) from w_eq_bool (w_res rfl) w_lit) rfl
theorem attach_call{l:OpenLaw}{n:Nat}{q:Program}{loose:List Str}{XP:(Str->Option Value)->Heap->Prop}{YP:World->Heap->Prop}{d:DefRec}
  (hn:l.most=some n) (hdf:d.params.defaults=[])
  (call:∀(w:World) (s₀ s₁:Shared) (mg mb:Str->Option Value) (fa:Addr) (o:Obj) (pm cd doc:Value) (a:Addr) (vs:List Value) (ns:List Int),
   Ground q loose [] XP w s₀ mg mb s₁.heap->YP w s₁.heap ->
   s₁.heap.get? fa=some o->o.data = .func (docDef d.name d.params d.body d.scope pm cd doc)->s₁.heap.CodeRec cd d.name->mg d.name=some (.ref fa) ->
   s₁.heap.get? a=some { cls:=.type "list",data:=.seq vs.toArray }->IntsAre vs ns->ns.length<=n->s₁.gens=#[] ->
   codeAny (model l.prog w) callerA (.call (.ref fa) ⟨[.ref a],[]⟩) (λr s'=>r = .ok (.ret (.bool true))/\OldK s₁.heap s'.heap/\s'.os=s₁.os/\AllBare s'.gens) s₁) :
  WalkO q loose XP YP l.row.toRowW d [] (λf vs=>PySem.call f vs):=by
 intro w s₀ s₁ mg mb G Y fa o pm cd doc dV kV ho hd hcd hD hmg hg args vals as hpre hlay hrd hwl hlo;obtain rfl:dV = .none:=Dflts.none hD hdf;obtain rfl:kV = .none:=Dflts.noKw hD;obtain⟨a,vs,ns,rfl,rfl,hobj,hints,hlen⟩:=qQe hn hpre hwl;refine enter_call (hFw (call w s₀ s₁ mg mb fa o pm cd doc a vs ns G Y ho (fd_plain hd) hcd hmg hobj hints hlen hg) λr s' hq=>?_);obtain⟨rfl,h2,h3,h4⟩:=hq;exact⟨.inl ⟨.bool true,.bool true,[],rfl,λ_=>rfl,.bool true,qQy l _,λ_=>⟨List.Pairwise.nil,λ_ hm=>(nomatch hm)⟩⟩,h2,h3,h4⟩
section
variable{prog:Program}{w:World}{A:Around}{E:Value->Shared->Prop}{s:Shared}{K:Frag}
noncomputable def zCc(h:Heap)(L d:Addr):List (Addr×Obj):=(List.range h.objs.size).filterMap λa=>if a=L\/a=d then none else (h.get? a).map λo=>(a,o)
end
end Att
namespace L2
open PySem PySem.Spec PyProof.Rows
theorem qJ1:∀ {vs:List Value} {ns:List Int},IntsAre vs ns->qBd (ns.map V.int) vs
 |_,_,.nil=>.nil
 |_,_,.cons n t h=>.cons ⟨t,rfl⟩ (qJ1 h)
def zB0(H:Hp):Prop:=∀b,H b=none\/∃o xs,H b=some (.frz o (.lst xs))
theorem qT8{P:Program}{w:World}{K:PySem.W.Frag}{mg mb:Str->Option Value}{CX:CXT}{k:Nat}{fa a:Addr}{fd:FuncData}{x:Str}{sp:Sp}{s₁:Shared}{vs:List Value}{ns:List Int}
  (KX:K.In s₁.heap) (hns:s₁.heap.Ns mainGlobals mg) (hb:s₁.heap.Ns builtinsNs mb) (hbb:∀x:Str,x≠"__name__"->mb x=bootBuiltins x) (hlim:s₁.heap.NoLimit) (hg:s₁.gens=#[])
  (ha:s₁.heap.get? a=some { cls:=.type "list",data:=.seq vs.toArray }) (hi:IntsAre vs ns) (hl:ns.length<=sizeLine) (hr:Room k callerA)
  (F:∀base:Heap,K.In base->base.Ns mainGlobals mg->FnOk P w K mg base CX k fa fd [x] sp) (hbind:∀(s:Shared) (u:Value),BindsTo s fd ⟨[u],[]⟩ [(x,u)])
  (hsp:∀H:Hp,zB0 H->SqL K H a (ns.map V.int)->sp [.ref a] H (λv _=>v = .bl true) λ_ _ _=>False)
  (hCX:∀H e s',CX [] H s₁ (λ_ _ _=>False) e s'->False) :
  codeAny (model P w) callerA (.call (.ref fa) ⟨[.ref a],[]⟩) (λr s'=>r = .ok (.ret (.bool true))/\OldK s₁.heap s'.heap/\s'.os=s₁.os/\AllBare s'.gens) s₁:=by
 have rv:=qJ1 hi;have lenV:=hi.length;have core:∀H:Hp,zB0 H->SqL K H a (ns.map V.int)->HOk P w H s₁.heap->(∀b,H b≠none->b=a)->(H a≠none->K.lookup a=none) ->
   codeAny (model P w) callerA (.call (.ref fa) ⟨[.ref a],[]⟩) (λr s'=>r = .ok (.ret (.bool true))/\OldK s₁.heap s'.heap/\s'.os=s₁.os/\AllBare s'.gens) s₁:=by
  intro H hO hS hok hA hK;have base_of:∀ {b:Addr} {o:Obj},s₁.heap.get? b=some o->H b=none->(qUd s₁.heap H).get? b=some o:=λe n=>qUc e n
  have noA:∀ {b:Addr} {o:Obj} {es:Array DictEntry} {ep:Nat},s₁.heap.get? b=some o->o.data = .dict es ep->H b=none:=λ{b o es ep} e d=>by
   cases q:H b with
   |none=>rfl
   |some u =>
    have e':b=a:=hA b (by rw[q];simp);subst e';rw[ha]at e;cases e;have d':Data.seq vs.toArray _=Data.dict es ep:=d;cases d'
  have nsK:∀ {b:Addr} {m:Str->Option Value},s₁.heap.Ns b m->(qUd s₁.heap H).Ns b m:=λ{b m} ⟨o,es,ep,e,d,r⟩=>⟨o,es,ep,base_of e (noA e d),d,r⟩
  have hKb:K.In (qUd s₁.heap H):=λb o e=>base_of (KX b o e) (by
   cases q:H b with
   |none=>rfl
   |some u =>
    have e':b=a:=hA b (by rw[q];simp);subst e';rw[hK (by rw[q];simp)]at e;cases e)
  have hM:Mod K mg (qUd s₁.heap H):=⟨hKb,nsK hns,⟨mb,nsK hb,hbb⟩,let ⟨mc,h1,h2⟩:=hlim;⟨mc,nsK h1,h2⟩⟩;have e0:Env0 P w K mg (qUd s₁.heap H) callerA [] s₁ H:=⟨rfl,hM,λb o e=>qXm e,Nat.le_of_eq (qR8 _ _),trivial,λb hb=>absurd (show b∈([]:List Addr) from hb) (by simp),hok,.of_eq hg⟩;refine hFw ((F _ hKb (nsK hns)).run callerA [] s₁ H ⟨[.ref a],[]⟩ [.ref a] [.ref a] _ _ hr e0 (hbind s₁ (.ref a)) (.cons rfl .nil) (hsp H hO hS)) λr s' h=>?_
  cases r with
  |error e=>exact(hCX H e s' h).elim
  |ok fl =>
   cases fl with
   |next=>exact False.elim h
   |brk=>exact False.elim h
   |cont=>exact False.elim h
   |ret u =>
    obtain⟨v,H',os,bare,un,hok',r',q⟩:=h;have q':v = .bl true:=q;subst q';obtain rfl:u=Value.bool true:=r';refine⟨rfl,OldK.of_keep λb o e=>?_,os,bare⟩;cases q:H b with
    |none=>exact un.keep b o e q (by intro z;exact absurd (show b∈([]:List Addr) from z) (by simp)) (by simp)
    |some u =>
     rcases hO b with z|⟨ob,xs,z⟩
     ·rw[q]at z;cases z
     ·have z2:=un.frzs b ob _ z;obtain⟨e1,_⟩:=hok b _ z;obtain⟨e2,_⟩:=hok' b _ z2;rw[e]at e1;cases e1;exact e2
 cases hk:K.lookup a with
 |some o =>
  have e:=KX a o hk;rw[ha]at e;cases e;refine core (λ_=>none) (λ_=>.inl rfl) (.inr ⟨_,vs.toArray,_,hk,rfl,rfl,rfl,by rw[hAu,lenV];exact hl,by simpa using rv⟩) (λb u z=>by have z':(none:Option HO)=some u:=z;cases z') (λb z=>absurd rfl z) λz=>absurd rfl z
 |none =>
  refine core (λb=>if b=a then some (.frz { cls:=.type "list",data:=.seq vs.toArray } (.lst (ns.map V.int))) else none) (λb=>?_) (.inl (.inr ⟨{ cls:=.type "list",data:=.seq vs.toArray },hEs rfl⟩)) (λb u z=>?_) (λb z=>?_) λ_=>hk
  ·by_cases hb:b=a
   ·exact .inr ⟨_,_,hEs hb⟩
   ·exact .inl (hEr hb)
  ·by_cases hb:b=a
   ·have z':=(hEs hb).symm.trans z;cases z';subst hb;exact⟨ha,by rw[hA4];exact hl,vs,_,rv,ha⟩
   ·have z':=(hEr hb).symm.trans z;cases z'
  ·by_cases hb:b=a
   ·exact hb
   ·exact absurd (hEr hb) z
theorem walk_of{l:PySem.W.OpenLaw}{n k:Nat}{q:Program}{loose:List Str}{XP:(Str->Option Value)->Heap->Prop}{YP:World->Heap->Prop}{d:DefRec}{K:Params->PySem.W.Frag}{CX:World->CXT}{sp:World->Sp}{x:Str}
  (hn:l.most=some n) (hn2:n<=sizeLine) (hdf:d.params.defaults=[]) (hr:Room k callerA)
  (hY:∀(w:World) (h:Heap),YP w h->(K w.params).In h)
  (F:∀(w:World) (mg:Str->Option Value) (fa:Addr) (h:Heap),(K w.params).In h->h.Ns mainGlobals mg->mg d.name=some (.ref fa) ->
   ∃fd:FuncData,(∀(s:Shared) (u:Value),BindsTo s fd ⟨[u],[]⟩ [(x,u)]) /\
    ∀base:Heap,(K w.params).In base->base.Ns mainGlobals mg->FnOk l.prog w (K w.params) mg base (CX w) k fa fd [x] (sp w))
  (hsp:∀(w:World) (H:Hp) (a:Addr) (ns:List Int),ns.length<=n->zB0 H->SqL (K w.params) H a (ns.map V.int)->sp w [.ref a] H (λv _=>v = .bl true) λ_ _ _=>False)
  (hCX:∀(w:World) (H:Hp) (s:Shared) (e:Value) (s':Shared),CX w [] H s (λ_ _ _=>False) e s'->False) :
  PySem.W.WalkO q loose XP YP l.row.toRowW d [] (λf vs=>PySem.call f vs):=by
 refine Att.attach_call hn hdf λw s₀ s₁ mg mb fa o pm cd doc a vs ns G Y ho hd hcd hmg hobj hints hlen hg=>?_
 have KX:=hY w _ Y;obtain⟨fd,hb,hF⟩:=F w mg fa _ KX G.T.g hmg;exact qT8 KX G.T.g G.T.b G.T.builtins G.T.nolimit hg hobj hints (hBa hlen hn2) hr hF hb (λH hO hS=>hsp w H a ns hlen hO hS) λH e s'=>hCX w H s₁ e s'
end L2
namespace L2
open PySem PySem.Spec PyProof.Rows
noncomputable def qDz(s:Stmt):Arguments:=match s with
 |.FunctionDef _ a _ _ _ _ _ _ _ _=>a
 |_=>{ posonlyargs:=[],args:=[],vararg:=none,kwonlyargs:=[],kw_defaults:=[],kwarg:=none,defaults:=[] }
noncomputable def qDb(s:Stmt):List Stmt:=match s with
 |.FunctionDef _ _ b _ _ _ _ _ _ _=>b
 |_=>[]
noncomputable def qAc(s:Stmt):Scope:=match s with
 |.FunctionDef _ _ _ _ _ _ sc _ _ _=>sc
 |_=>{ kind:=.function,names:=[],isGenerator:=false,isCoroutine:=false }
abbrev CX0:CXT:=λ_ _ _ _ _ _=>False
abbrev E0:XK:=λ_ _ _=>False
theorem qBg{X:Cx}:qOw CX0 X E0:=λ_ _ _ _ _ _ _ h=>h.elim
structure Fun(K:PySem.W.Frag)(x qual:Str)(st:Stmt)(f:Addr)(fd:FuncData):Prop where
 ex:∃(oc:Value) (od:Option Addr) (kV doc pm:Value) (an:Option Addr) (cdv ct:Value) (osl:Array (Option Value)),
  fd=PySem.W.fnOf x qual (qDz st) (qDb st) (qAc st) .none kV doc pm an cdv ct/\K.lookup f=some ⟨oc,od,.func fd,osl⟩/\PySem.W.codeIn K cdv qual=true
 kp:PySem.W.keepIn K (.ref f)=true
section
variable{P:Program}{w:World}{K:PySem.W.Frag}{mg:Str->Option Value}{base:Heap}
theorem Fun.ok{x qual:Str}{st:Stmt}{f:Addr}{fd:FuncData}{N ps:List Str}{k:Nat}{sp:Sp}(F:Fun K x qual st f fd)(S:FnScope N ps (qAc st))(len:∀vs H Q E,sp vs H Q E->vs.length=ps.length)
  (hbody:∀(cdv:Value) (A:Around) (outer:List Env) (s:Shared) (H:Hp) (vs:List V) (Q:VK) (E:XK),Room k (A.deeper (envOfC qual (qAc st) s.heap.objs.size f cdv))->sp vs H Q E ->
   ∃t,PSs (qM3 CX0 P w K mg base N qual (qAc st) f cdv A outer s H E).nox (qDb st) t/\t { nx:=λ_ H'=>Q .non H',rt:=Q } (start N vs) H):FnOk P w K mg base CX0 (k+1) f fd ps sp:=by
 obtain⟨oc,od,kV,doc,pm,an,cdv,ct,osl,rfl,lk,hcd⟩:=F.ex;refine zBu lk hcd S len λA outer s H vs Q E hr hsp=>?_
 obtain⟨t,h,q⟩:=hbody cdv A outer s H vs Q E hr hsp;exact⟨t,h.nox,q⟩
theorem Fun.okA{x qual:Str}{st:Stmt}{f:Addr}{fd:FuncData}{N ps:List Str}{k:Nat}{sp:Sp}(F:Fun K x qual st f fd)(S:FnScope N ps (qAc st))
  (hbody:∀(cdv:Value) (A:Around) (outer:List Env) (s:Shared) (H:Hp) (vs:List V) (Q:VK) (E:XK),Room k (A.deeper (envOfC qual (qAc st) s.heap.objs.size f cdv))->sp vs H Q E ->
   ∃t,PSs (qM3 CX0 P w K mg base N qual (qAc st) f cdv A outer s H E).nox (qDb st) t/\t { nx:=λ_ H'=>Q .non H',rt:=Q } (start N vs) H)
  (len:∀vs H Q E,sp vs H Q E->vs.length=ps.length:=by exact kO1):FnOk P w K mg base CX0 (k+1) f fd ps sp:=Fun.ok F S len hbody
theorem Fun.binds{x qual:Str}{st:Stmt}{f:Addr}{fd:FuncData}{ps:List Str}(F:Fun K x qual st f fd)
  (h:∀(kV doc pm:Value) (an:Option Addr) (cdv ct:Value) (us:List Value),us.length=ps.length->bindArgs (PySem.W.fnOf x qual (qDz st) (qDb st) (qAc st) .none kV doc pm an cdv ct) ⟨us,[]⟩=pure (ps.zip us)):qPs K fd ps []:=by
 obtain⟨oc,od,kV,doc,pm,an,cdv,ct,osl,rfl,lk,hcd⟩:=F.ex;exact .all (h kV doc pm an cdv ct)
theorem qV3{x qual:Str}{st:Stmt}{f:Addr}{oc:Value}{od an:Option Addr}{osl:Array (Option Value)}{kV doc pm cdv ct:Value}(l:K.lookup f=some ⟨oc,od,.func (PySem.W.fnOf x qual (qDz st) (qDb st) (qAc st) .none kV doc pm an cdv ct),osl⟩)
  (c:PySem.W.codeIn K cdv qual=true) (k:PySem.W.keepIn K (.ref f)=true):Fun K x qual st f (PySem.W.fnOf x qual (qDz st) (qDb st) (qAc st) .none kV doc pm an cdv ct):=⟨⟨oc,od,kV,doc,pm,an,cdv,ct,osl,rfl,l,c⟩,k⟩
end
theorem qCh{A:Around}{k:Nat}(hr:Room k A):A.units+1<cLine:=Nat.lt_of_le_of_lt (Nat.add_le_add_left (by decide:1<=64) _) hr.units
theorem qAd{n:Nat}(h:n<=1000):n<sizeLine:=Nat.lt_of_le_of_lt h (by decide)
section
variable{X:Cx}
theorem pv(i:Nat){x:Str}{pos:Pos}(hN:X.N[i]?=some x:=by rfl)(hv:Vis X.env.scope x:=by exact kO3)(hd:(x == ("__debug__" : Str))=false:=by decide)
  (hcd:(x == ("__classdict__" : Str))=false:=by decide):PE X (.Name x pos) (zB2 i):=qZk hN hv hd hcd
end
theorem qFs{A B:Prop}(h:B):if false=true then A else B:=by
 rw[hEr hAo];exact h
theorem iteT{A B:Prop}(h:A):if true=true then A else B:=by
 rw[hEs rfl];exact h
theorem qGi{c A B:Prop}[Decidable c](h1:c->A)(h2:¬c->B):if c then A else B:=by
 by_cases h:c
 ·rw[hEs h];exact h1 h
 ·rw[hEr h];exact h2 h
end L2
set_option linter.all false
namespace L2
open PySem PySem.Spec PyProof.Rows
section
variable{κ:Type}[DecidableEq κ]
noncomputable def valV(kvs:List (κ×V))(k:κ):Option V:=(kvs.find? λkv=>decide (kv.1=k)).map (·.2)
noncomputable def qCz(kvs:List (κ×V))(k:κ)(v:V):List (κ×V) :=
 if (kvs.any λkv=>decide (kv.1=k))=true then kvs.map (λkv=>if kv.1=k then (kv.1,v) else kv) else kvs++[(k,v)]
theorem qBc{p:κ×V}{r:List (κ×V)}{k:κ}(e:p.1=k):valV (p :: r) k=some p.2:=by simp[valV,hEg,e]
theorem qAz{p:κ×V}{r:List (κ×V)}{k:κ}(e:¬p.1=k):valV (p :: r) k=valV r k:=by simp[valV,hEg,e]
theorem qCl(k:κ):∀kvs:List (κ×V),(kvs.any λkv=>decide (kv.1=k))=(valV kvs k).isSome
 |[]=>rfl
 |p :: r=>by
  rw[hCj];by_cases e:p.1=k
  ·simp only[qBc e,hEt e,Bool.true_or,hEe]
  ·rw[qAz e,hEu e,Bool.false_or];exact qCl k r
theorem qNg(k j:κ)(y:V):∀kvs:List (κ×V),valV (kvs.map λkv=>if kv.1=k then (kv.1,y) else kv) j=(valV kvs j).map λx=>if j=k then y else x
 |[]=>rfl
 |p :: r=>by
  have ih:=qNg k j y r;rw[hAn];by_cases h:p.1=k
  ·rw[hEs h];by_cases e:p.1=j
   ·rw[qBc (p:=(p.1,y)) e,qBc e,hD0,hEs (e.symm.trans h)]
   ·rw[qAz (p:=(p.1,y)) e,qAz e,ih]
  ·rw[hEr h];by_cases e:p.1=j
   ·rw[qBc (p:=p) e,qBc e,hD0,hEr (λz=>h (e.trans z))]
   ·rw[qAz (p:=p) e,qAz e,ih]
theorem qJ2(k j:κ)(y:V):∀kvs:List (κ×V),valV kvs k=none->valV (kvs++[(k,y)]) j=if j=k then some y else valV kvs j
 |[],_=>by
  by_cases e:k=j
  ·rw[hEs e.symm];exact qBc (p:=(k,y)) e
  ·rw[hEr (λz=>e z.symm)];exact qAz (p:=(k,y)) e
 |p :: r,hn=>by
  rw[hBx];have hk:¬p.1=k:=λz=>by rw[qBc z]at hn;cases hn
  rw[qAz hk]at hn;have ih:=qJ2 k j y r hn;by_cases e:p.1=j
  ·rw[qBc e,qBc e,hEr (λz=>hk (e.trans z))]
  ·rw[qAz e,qAz e,ih]
theorem qTb(kvs:List (κ×V))(k j:κ)(y:V):valV (qCz kvs k y) j=if j=k then some y else valV kvs j:=by
 unfold qCz;by_cases a:(kvs.any λkv=>decide (kv.1=k))=true
 ·rw[hEs a,qNg];rw[qCl]at a;by_cases e:j=k
  ·obtain⟨x,hx⟩:=hCy.mp a;rw[hEs e,e,hx,hD0,hEs rfl]
  ·rw[hEr e];cases valV kvs j with
   |none=>rfl
   |some x=>rw[hD0,hEr e]
 ·rw[hEr a];refine qJ2 k j y kvs ?_;rw[qCl]at a;cases q:valV kvs k with
  |none=>rfl
  |some x=>rw[q]at a;exact(a rfl).elim
theorem qC4(kvs:List (κ×V))(k:κ)(v:V):(qCz kvs k v).length<=kvs.length+1:=by
 unfold qCz;split
 ·rw[hA4];omega
 ·rw[hAk,hBg,List.length_nil];omega
theorem qCn{kvs:List (κ×V)}{k:κ}(v:V)(h:valV kvs k=none):qCz kvs k v=kvs++[(k,v)]:=by
 unfold qCz;rw[qCl,h];exact hEr (by decide)
theorem qPr.isSome_eq{o:Option V}{u:Option Value}(r:qPr o u):o.isSome=u.isSome:=by
 cases o with
 |none=>cases u with
  |none=>rfl
  |some _=>exact(show False from r).elim
 |some _=>cases u with
  |none=>exact(show False from r).elim
  |some _=>rfl
theorem qPr.getD{o:Option V}{u:Option Value}{d:V}{d':Value}(r:qPr o u)(rd:qBx d d'):qBx (o.getD d) (u.getD d'):=by
 cases o with
 |none=>cases u with
  |none=>exact rd
  |some _=>exact(show False from r).elim
 |some _=>cases u with
  |none=>exact(show False from r).elim
  |some _=>exact r
theorem KV.val{kvs:List (κ×V)}{vs:List (κ×Value)}(r:KV kvs vs)(k:κ):qPr (valV kvs k) (valueAt vs k):=by
 unfold KV at r
 induction r with
 |nil=>exact True.intro
 |@cons p q ps qs h t ih =>
  obtain⟨h1,h2⟩:=h;by_cases e:p.1=k
  ·have e':q.1=k:=h1.symm.trans e;have b:valueAt (q :: qs) k=some q.2:=by simp[valueAt,hEg,e']
   rw[qBc e,b];exact h2
  ·have e':¬q.1=k:=λz=>e (h1.trans z)
   have b:valueAt (q :: qs) k=valueAt qs k:=by simp[valueAt,hEg,e']
   rw[qAz e,b];exact ih
theorem KV.any{kvs:List (κ×V)}{vs:List (κ×Value)}(r:KV kvs vs)(k:κ):(kvs.any λkv=>decide (kv.1=k))=vs.any λkv=>decide (kv.1=k):=by
 unfold KV at r
 induction r with
 |nil=>rfl
 |cons h t ih=>rw[hCj,hCj,ih,h.1]
theorem KV.repl{kvs:List (κ×V)}{vs:List (κ×Value)}(r:KV kvs vs)(k:κ){y:V}{u:Value}(ry:qBx y u) :
  KV (kvs.map λkv=>if kv.1=k then (kv.1,y) else kv) (vs.map λkv=>if kv.1=k then (kv.1,u) else kv):=by
 unfold KV at r ⊢
 induction r with
 |nil=>exact .nil
 |@cons p q ps qs h t ih =>
  rw[hAn,hAn];refine .cons ?_ ih;obtain⟨h1,h2⟩:=h;by_cases e:p.1=k
  ·rw[hEs e,hEs (h1.symm.trans e)];exact⟨h1,ry⟩
  ·rw[hEr e,hEr (λz=>e (h1.trans z))];exact⟨h1,h2⟩
theorem KV.put{kvs:List (κ×V)}{vs:List (κ×Value)}(r:KV kvs vs)(k:κ){y:V}{u:Value}(ry:qBx y u):KV (qCz kvs k y) (stored vs k u):=by
 unfold qCz stored;rw[r.any k];by_cases e:(vs.any λkv=>decide (kv.1=k))=true
 ·rw[hEs e,hEs e];exact r.repl k ry
 ·rw[hEr e,hEr e];exact Paired.snoc r ⟨rfl,ry⟩
theorem KV.keys{kvs:List (κ×V)}{vs:List (κ×Value)}(r:KV kvs vs):kvs.map (·.1)=vs.map (·.1):=by
 unfold KV at r
 induction r with
 |nil=>rfl
 |cons h t ih=>rw[hAn,hAn,ih,h.1]
theorem KV.length{kvs:List (κ×V)}{vs:List (κ×Value)}(r:KV kvs vs):kvs.length=vs.length:=Paired.length r
end
theorem qMm{P:Program}{w:World}{k:Key}{u:Value}(r:qBx (kV k) u):(qAu P w).is k u=true:=by
 cases k with
 |inl i=>obtain⟨t,e⟩:=(show ∃t,u=Value.int i t from r);subst e;exact qMh P w i t
 |inr x=>obtain⟨t,e⟩:=(show ∃t,u=Value.str x t from r);subst e;exact qMg P w x t
theorem qKs{P:Program}{w:World}:∀ {ks:List Key} {us:List Value},qBd (ks.map kV) us->ItemsAre (qAu P w) ks us
 |[],_,r=>by rw[List.map_nil]at r;cases r;exact .nil
 |k :: ks,_,r=>by
  rw[hAn]at r;cases r with
  |cons h t=>exact .cons (qMm h) (qKs t)
abbrev KT(H:Hp):List (List Key×V)->List (List Key×Addr×Value)->Prop:=Paired λp q=>p.1=q.1/\H q.2.1=some (.tup (p.1.map kV))/\qBx p.2 q.2.2
theorem KT.val{H:Hp}{kvs:List (List Key×V)}{xs:List (List Key×Addr×Value)}(r:KT H kvs xs)(k:List Key):qPr (valV kvs k) ((atKey xs k).map (·.2)):=by
 induction r with
 |nil=>exact True.intro
 |@cons p q ps qs h t ih =>
  obtain⟨h1,_,h2⟩:=h;by_cases e:p.1=k
  ·have e':q.1=k:=h1.symm.trans e;have b:atKey (q :: qs) k=some q.2:=by simp[atKey,hEg,e']
   rw[qBc e,b];exact h2
  ·have e':¬q.1=k:=λz=>e (h1.trans z)
   have b:atKey (q :: qs) k=atKey qs k:=by simp[atKey,hEg,e']
   rw[qAz e,b];exact ih
theorem KT.repl{H:Hp}{kvs:List (List Key×V)}{xs:List (List Key×Addr×Value)}(r:KT H kvs xs)(k:List Key){y:V}{u:Value}(ry:qBx y u) :
  KT H (kvs.map λkv=>if kv.1=k then (kv.1,y) else kv) (xs.map (putAt k u)):=by
 induction r with
 |nil=>exact .nil
 |@cons p q ps qs h t ih =>
  rw[hAn,hAn];refine .cons ?_ ih;obtain⟨h1,h2,h3⟩:=h;unfold putAt;by_cases e:p.1=k
  ·rw[hEs e,hEs (h1.symm.trans e)];exact⟨h1,h2,ry⟩
  ·rw[hEr e,hEr (λz=>e (h1.trans z))];exact⟨h1,h2,h3⟩
theorem KT.put{H:Hp}{kvs:List (List Key×V)}{xs:List (List Key×Addr×Value)}(r:KT H kvs xs)(k:List Key){b:Addr}{y:V}{u:Value}(hb:H b=some (.tup (k.map kV)))(ry:qBx y u) :
  KT H (qCz kvs k y) (storedH xs k b u):=by
 have e:(kvs.any λkv=>decide (kv.1=k))=(atKey xs k).isSome:=by
  rw[qCl,(r.val k).isSome_eq,Option.isSome_map]
 unfold qCz storedH;rw[e];by_cases q:(atKey xs k).isSome=true
 ·rw[hEs q,hEs q];exact r.repl k ry
 ·rw[hEr q,hEr q];exact Paired.snoc r ⟨rfl,hb,ry⟩
theorem KT.keeps{H H':Hp}{kvs:List (List Key×V)}{xs:List (List Key×Addr×Value)}(r:KT H kvs xs)(ht:∀b ys,H b=some (.tup ys)->H' b=some (.tup ys)):KT H' kvs xs :=
 Paired.mapP r λ_ _ z=>⟨z.1,ht _ _ z.2.1,z.2.2⟩
section
variable{P:Program}{w:World}{H:Hp}{h:Heap}{a:Addr}
theorem qZc{u:HO}(ok:HOk P w H h)(e:Rd H a u):qB9 P w H h a u:=e.ok ok
theorem qM1{kvs:List (Key×V)}(ok:HOk P w H h)(e:Rd H a (.dK kvs)):kvs.length<=sizeLine/\(a == sysModules)=false/\∃vs,KV kvs vs/\h.DictOf (qAu P w) a vs :=
 show qB9 P w H h a (.dK kvs) from qZc ok e
theorem qPk{kvs:List (Key×V)}(ok:HOk P w H h)(e:H a=some (.dK kvs)):kvs.length<=sizeLine/\(a == sysModules)=false/\∃vs,KV kvs vs/\h.DictOf (qAu P w) a vs:=qM1 ok (.inl e)
theorem qH7{ks:List Key}(ok:HOk P w H h)(e:H a=some (.tup (ks.map kV))):(tupleKind (qAu P w)).is h ks a:=by
 obtain⟨_,its,r,o,h1,h2,n,h3⟩:=(show qB9 P w H h a (.tup (ks.map kV)) from ok a _ e);exact⟨o,its.toArray,n,h1,h2,h3,by simpa using qKs r⟩
theorem qK4{kvs:List (List Key×V)}(ok:HOk P w H h)(e:Rd H a (.dT kvs)):kvs.length<=sizeLine/\(a == sysModules)=false /\
  ∃xs,KT H kvs xs/\h.DictOfH (tupleKind (qAu P w)) a xs:=by
 obtain⟨z,y,xs,r,o,es,ep,h1,h2,h3,h4,h5⟩:=(show qB9 P w H h a (.dT kvs) from qZc ok e);refine⟨z,y,xs,r,o,es,ep,h1,h2,h3,h4,λx hx=>?_,h5⟩;have all:∀ {l:List (List Key×V)} {m:List (List Key×Addr×Value)},KT H l m->∀x∈m,(tupleKind (qAu P w)).is h x.1 x.2.1:=by
  intro l m q
  induction q with
  |nil=>intro x hx;exact nomatch hx
  |@cons p q ps qs hq t ih =>
   intro x hx;rcases hAg.mp hx with e|hx
   ·subst e;exact qH7 ok (by rw[<-hq.1];exact hq.2.1)
   ·exact ih x hx
 exact all r x hx
theorem zBv{kvs:List (List Key×V)}(ok:HOk P w H h)(e:H a=some (.dT kvs)):kvs.length<=sizeLine/\(a == sysModules)=false /\
  ∃xs,KT H kvs xs/\h.DictOfH (tupleKind (qAu P w)) a xs:=qK4 ok (.inl e)
end
def qD3(H:Hp)(a:Addr)(y:V)(r:Option V):Prop :=
 (∃kvs k,Rd H a (.dK kvs)/\y=kV k/\r=valV kvs k)\/∃kvs k b,Rd H a (.dT kvs)/\y = .ref b/\H b=some (.tup (k.map kV))/\r=valV kvs k
def qJx(H:Hp)(a:Addr)(y v:V)(H':Hp):Prop :=
 (∃kvs k,H a=some (.dK kvs)/\y=kV k/\kvs.length<sizeLine/\H'=upd H a (.dK (qCz kvs k v))) \/
 ∃kvs k b,H a=some (.dT kvs)/\y = .ref b/\H b=some (.tup (k.map kV))/\kvs.length<sizeLine/\H'=upd H a (.dT (qCz kvs k v))
theorem qD3.k{H:Hp}{a:Addr}{kvs:List (Key×V)}{k:Key}(e:H a=some (.dK kvs)):qD3 H a (kV k) (valV kvs k):=.inl ⟨kvs,k,.inl e,rfl,rfl⟩
theorem qD3.t{H:Hp}{a b:Addr}{kvs:List (List Key×V)}{k:List Key}(e:H a=some (.dT kvs))(eb:H b=some (.tup (k.map kV))):qD3 H a (.ref b) (valV kvs k):=.inr ⟨kvs,k,b,.inl e,rfl,eb,rfl⟩
theorem qJx.k{H:Hp}{a:Addr}{kvs:List (Key×V)}{k:Key}{v:V}(e:H a=some (.dK kvs))(hl:kvs.length<sizeLine):qJx H a (kV k) v (upd H a (.dK (qCz kvs k v))):=.inl ⟨kvs,k,e,rfl,hl,rfl⟩
theorem qJx.t{H:Hp}{a b:Addr}{kvs:List (List Key×V)}{k:List Key}{v:V}(e:H a=some (.dT kvs))(eb:H b=some (.tup (k.map kV)))(hl:kvs.length<sizeLine) :
  qJx H a (.ref b) v (upd H a (.dT (qCz kvs k v))):=.inr ⟨kvs,k,b,e,rfl,eb,hl,rfl⟩
section
variable{X:Cx}{aB:List (Addr×Obj)}{σ:St}{H:Hp}{s:Shared}{a:Addr}{y v:V}{u r:Value}{o:Option V}{A:Around}{E:Value->Shared->Prop}
theorem Inv.big(I:Inv X aB σ H s):sysModules<s.heap.objs.size:=by
 have h:mainGlobals<s.heap.objs.size:=(I.mod.glob.keeps I.bk).lt;exact Nat.lt_trans (by decide) h
theorem qSp{Q:Value->Shared->Prop}(hu:A.units+1<cLine)(I:Inv X aB σ H s)(g:qD3 H a y (some v))(ry:qBx y u)(h:∀w' s',Inv X aB σ H s'->qBx v w'->Q w' s') :
  wpAny (model X.prog X.w) A (getItem (.ref a) u) Q E s:=by
 rcases g with ⟨kvs,k,e,ey,l⟩|⟨kvs,k,b,e,ey,eb,l⟩
 ·subst ey;obtain⟨z,hd,vs,rel,dd⟩:=qM1 I.hok e;obtain⟨w',hw,rw'⟩:=qPr.some_of (v:=v) (o:=valueAt vs k) (by rw[l];exact rel.val k);exact wpAny_getItem_of (qMm ry) dd.mapOf hw (h w' _ (I.tok _) rw')
 ·subst ey;cases(show u=Value.ref b from ry);obtain⟨z,hd,xs,rel,dd⟩:=qK4 I.hok e;obtain⟨w',hw,rw'⟩:=qPr.some_of (v:=v) (o:=(atKey xs k).map (·.2)) (by rw[l];exact rel.val k);obtain⟨p,hp,hp2⟩:=Option.map_eq_some_iff.mp hw;refine wpAny_getItem_heap (hFu hu) (qH7 I.hok eb) dd hp ?_;rw[hp2];exact h w' _ (I.tok _) rw'
theorem zC6{Q:Value->Shared->Prop}(hu:A.units+1<cLine)(I:Inv X aB σ H s)(g:qD3 H a y o)(ry:qBx y u)(h:∀s',Inv X aB σ H s'->Q (.bool o.isSome) s') :
  wpAny (model X.prog X.w) A (compareOp .In u (.ref a)) Q E s:=by
 rcases g with ⟨kvs,k,e,ey,l⟩|⟨kvs,k,b,e,ey,eb,l⟩
 ·subst ey;obtain⟨z,hd,vs,rel,dd⟩:=qM1 I.hok e;refine wpAny_in_of (qMm ry) hd dd.mapOf ?_;rw[<-(rel.val k).isSome_eq,<-l];exact h _ (I.tok _)
 ·subst ey;cases(show u=Value.ref b from ry);obtain⟨z,hd,xs,rel,dd⟩:=qK4 I.hok e;refine wpAny_in_heap (hFu hu) (qH7 I.hok eb) hd dd ?_;have q:=(rel.val k).isSome_eq;rw[Option.isSome_map]at q;rw[<-q,<-l];exact h _ (I.tok _)
theorem qYc{Q:Value->Shared->Prop}(hu:A.units+1<cLine)(I:Inv X aB σ H s)(g:qD3 H a y o)(ry:qBx y u)(h:∀s',Inv X aB σ H s'->Q (.bool (!o.isSome)) s') :
  wpAny (model X.prog X.w) A (compareOp .NotIn u (.ref a)) Q E s:=by
 rcases g with ⟨kvs,k,e,ey,l⟩|⟨kvs,k,b,e,ey,eb,l⟩
 ·subst ey;obtain⟨z,hd,vs,rel,dd⟩:=qM1 I.hok e;refine wpAny_notIn_of (qMm ry) hd dd.mapOf ?_;rw[<-(rel.val k).isSome_eq,<-l];exact h _ (I.tok _)
 ·subst ey;cases(show u=Value.ref b from ry);obtain⟨z,hd,xs,rel,dd⟩:=qK4 I.hok e;refine wpAny_notIn_heap (hFu hu) (qH7 I.hok eb) hd dd ?_;have q:=(rel.val k).isSome_eq;rw[Option.isSome_map]at q;rw[<-q,<-l];exact h _ (I.tok _)
theorem qSn{h':Heap}{t':Nat}{ob:HO}(I:Inv X aB σ H s)(mu:Mut (H a))(hs:Heap.SameBut a s.heap h')(he:∃q,h'.get? a=some q)(new:qB9 X.prog X.w (upd H a ob) h' a ob) :
  Inv X aB σ (upd H a ob) { s with heap:=h',toks:=t' } :=
 I.write (x:=a) (e:=a) mu (.inl rfl) (λb q hb z=>(hs.2 b hb).trans z) he new
theorem qV5{P:Program}{w:World}{H':Hp}{h':Heap}{kvs:List (Key×V)}{vs:List (Key×Value)}(z:kvs.length<=sizeLine)(hd:(a == sysModules)=false)(rel:KV kvs vs)(dd:h'.DictOf (qAu P w) a vs) :
  qB9 P w H' h' a (.dK kvs):=⟨z,hd,vs,rel,dd⟩
theorem qSo{H':Hp}{Q:Unit->Shared->Prop}(hu:A.units+1<cLine)(I:Inv X aB σ H s)(g:qJx H a y v H')(ry:qBx y u)(rv:qBx v r)(h:∀s',Inv X aB σ H' s'->Q () s') :
  wpAny (model X.prog X.w) A (setItem (.ref a) u r) Q E s:=by
 rcases g with ⟨kvs,k,e,ey,l,eH⟩|⟨kvs,k,b,e,ey,eb,l,eH⟩
 ·subst ey eH;obtain⟨z,hd,vs,rel,dd⟩:=qPk I.hok e;have hz:vs.length<=sizeLine:=by rw[<-rel.length];exact z
  have hl:(qCz kvs k v).length<=sizeLine:=by have:=qC4 kvs k v;omega
  refine wpAny_setItem_pairs (hsz:=hz) (qMm ry) dd λh' dd' hs=>h _ ?_
  have he:∃q,h'.get? a=some q:=let ⟨q,_,_,hq,_⟩:=dd';⟨q,hq⟩;exact qSn I (by rw[e];exact True.intro) hs he (qV5 hl hd (rel.put k rv) dd')
 ·subst ey eH;cases(show u=Value.ref b from ry);obtain⟨z,hd,xs,rel,dd⟩:=zBv I.hok e;have hz:xs.length<=sizeLine:=by rw[<-Paired.length rel];exact z
  have hl:(qCz kvs k v).length<=sizeLine:=by have:=qC4 kvs k v;omega
  refine wpAny_setItem_heap (hsz:=hz) (hFu hu) (qH7 I.hok eb) dd λh' dd' hs=>h _ ?_
  obtain⟨q,es,ep,hq,h2,h3,h4,_,h5⟩:=dd';refine qSn I (by rw[e];exact True.intro) hs ⟨q,hq⟩ ⟨hl,hd,_,(rel.put k eb rv).keeps λc ys ec=>?_,q,es,ep,hq,h2,h3,h4,h5⟩;rw[qAb (zBh ec e (λz=>nomatch z))];exact ec
end
def zCf(i:Expr):Prop:=∀ov iv,subscripted i false ov iv=operate [ov,iv] (getItem ov iv)
theorem qWi{prog:Program}{w:World}{A:Around}{E:Value->Shared->Prop}{s:Shared}{env:Env}{value slice:Expr}{pos:Pos}{T id:String}{Q:Value->Shared->Prop}
  (hl:typeLookup (.type T) "__getitem__"=pure (some (.builtin id))) (hs:zCf slice)
  (h:wpAny (model prog w) A (eval value env) (λo s₁=>wpAny (model prog w) A (eval slice env) (λi s₂=>s₂.TypeIs o T/\wpAny (model prog w) A (getItem o i) Q E s₂) E s₁) E s) :
  wpAny (model prog w) A (eval (.Subscript value slice pos) env) Q E s:=by
 refine Subscript_ (hF2 h (λo s₁ h₁=>hF2 h₁ (λi s₂ h₂=>?_) λ_ _ x=>x) λ_ _ x=>x);obtain⟨hT,h₂⟩:=h₂;unfold subscriptTail;refine hEp ?_;rw[getitemInPython_of_ne hT.not_modules];refine hEp (hGa hT hl ?_);have fin:wpAny (model prog w) A (subscripted slice false o i) (λr s₃=>wpAny (model prog w) A (letTemporaryGo value o r >>= λ_=>pure r) Q E s₃) E s₂:=by
  rw[hs o i];exact wpAny_operating (hF2 h₂ (λr s₃ h₃=>hEp (wpAny_letTemporaryGo (hEq h₃))) λ_ _ x=>x)
 first
  |exact hEq (hEp fin)
  |exact hEp (hEq (hEp fin))
  |exact hEp fin
theorem qM2{X:Cx}{aB:List (Addr×Obj)}{σ:St}{H:Hp}{s:Shared}{a:Addr}{y:V}{o:Option V}(I:Inv X aB σ H s)(g:qD3 H a y o):s.TypeIs (.ref a) "dict":=by
 rcases g with ⟨kvs,k,e,_,_⟩|⟨kvs,k,b,e,_,_,_⟩
 ·obtain⟨_,_,vs,_,dd⟩:=qM1 I.hok e;exact dd.typeIs
 ·obtain⟨_,_,xs,_,dd⟩:=qK4 I.hok e;exact dd.typeIs
noncomputable def zA3(td ty:TE):TE:=λσ H Q=>td σ H λx H1=>ty σ H1 λy H2=>∃a v,x = .ref a/\qD3 H2 a y (some v)/\Q v H2
noncomputable def zCm(ty td:TE):TE:=λσ H Q=>ty σ H λy H1=>td σ H1 λx H2=>∃a o,x = .ref a/\qD3 H2 a y o/\Q (.bl o.isSome) H2
def qWg(ty td:TE):TE:=λσ H Q=>ty σ H λy H1=>td σ H1 λx H2=>∃a o,x = .ref a/\qD3 H2 a y o/\Q (.bl (!o.isSome)) H2
def zA7(td ty tv:TE):TS:=λD σ H=>tv σ H λv H1=>td σ H1 λx H2=>ty σ H2 λy H3=>∃a H4,x = .ref a/\qJx H3 a y v H4/\D.nx σ H4
section
variable{X:Cx}{o i e value:Expr}{pos pos' tpos:Pos}{td ty tv:TE}
theorem qCv(hu:X.A.units+1<cLine)(ho:PE X o td)(hi:PE X i ty)(hs:zCf i):PE X (.Subscript o i pos) (zA3 td ty):=by
 intro aB s σ H Q I h;refine qWi PySem.F.slot_dict_getitem.lookup hs (thn (ho aB s σ H _ I h) λu s1 ⟨x,H1,I1,rx,q1⟩=>thn (hi aB s1 σ H1 _ I1 q1) λiv s2 ⟨y,H2,I2,ry,a,v,ex,g,q2⟩=>?_);subst ex;obtain rfl:u=Value.ref a:=rx;exact⟨qM2 I2 g,qSp hu I2 g ry λw' s3 I3 rw'=>⟨v,H2,I3,rw',q2⟩⟩
theorem qZn(hu:X.A.units+1<cLine)(hi:PE X i ty)(ho:PE X o td):PC X .In i o (zCm ty td):=by
 intro aB s σ H Q I h;refine thn (hi aB s σ H _ I h) λiv s1 ⟨y,H1,I1,ry,q1⟩=>thn (ho aB s1 σ H1 _ I1 q1) λu s2 ⟨x,H2,I2,rx,a,ov,ex,g,q2⟩=>?_
 subst ex;obtain rfl:u=Value.ref a:=rx;exact zC6 hu I2 g ry λs3 I3=>⟨.bl ov.isSome,H2,I3,rfl,q2⟩
theorem qKj(hu:X.A.units+1<cLine)(hi:PE X i ty)(ho:PE X o td):PC X .NotIn i o (qWg ty td):=by
 intro aB s σ H Q I h;refine thn (hi aB s σ H _ I h) λiv s1 ⟨y,H1,I1,ry,q1⟩=>thn (ho aB s1 σ H1 _ I1 q1) λu s2 ⟨x,H2,I2,rx,a,ov,ex,g,q2⟩=>?_
 subst ex;obtain rfl:u=Value.ref a:=rx;exact qYc hu I2 g ry λs3 I3=>⟨.bl (!ov.isSome),H2,I3,rfl,q2⟩
theorem qDi(hu:X.A.units+1<cLine)(ho:PE X o td)(hi:PE X i ty)(hv:PE X value tv)(hs:swapsWith value (some (.Subscript o i pos')) pos.line X.env=pure false) :
  PS X (.Assign [.Subscript o i pos'] value pos) (zA7 td ty tv):=by
 intro aB s σ H D I h;refine wpAny_Assign_Subscript (thn (hv aB s σ H _ I h) λr s1 ⟨v,H1,I1,rv,q1⟩=>thn (ho aB s1 σ H1 _ I1 q1) λu s2 ⟨x,H2,I2,rx,q2⟩=>thn (hi aB s2 σ H2 _ I2 q2) λiv s3 ⟨y,H3,I3,ry,a,H4,ex,g,q3⟩=>?_) hs;subst ex;obtain rfl:u=Value.ref a:=rx;exact qSo hu I3 g ry rv λs4 I4=>⟨σ,H4,I4,q3⟩
end
theorem qUt{P:Program}{w:World}{H:Hp}(h:Heap)(hb:sysModules<h.objs.size):qB9 P w H (h.push { cls:=.type "dict",data:=.dict #[] }) h.objs.size (.dK []) :=
 ⟨hAy _,beq_eq_false_iff_ne.mpr (Ne.symm (hAt hb)),[],.nil,Heap.DictOf.new h⟩
theorem qUs{P:Program}{w:World}{H:Hp}(h:Heap)(hb:sysModules<h.objs.size):qB9 P w H (h.push { cls:=.type "dict",data:=.dict #[] }) h.objs.size (.dT []) :=
 ⟨hAy _,beq_eq_false_iff_ne.mpr (Ne.symm (hAt hb)),[],.nil,_,#[],0,Heap.get?_push_size _ rfl,⟨rfl,rfl,rfl⟩,rfl,rfl,hCf⟩
def qYu:TE:=λ_ H Q=>∀p,H p=none->Q (.ref p) (upd H p (.dK []))
def qYt:TE:=λ_ H Q=>∀p,H p=none->Q (.ref p) (upd H p (.dT []))
section
variable{X:Cx}{pos:Pos}
theorem qEy:PE X (.Dict [] [] pos) qYu:=λaB s σ H Q I h =>
 wpAny_Dict_empty ⟨.ref s.heap.objs.size,_,I.laid (a:=s.heap.objs.size) (o:=.dK []) (t':=s.toks) (λ_ _ q=>Heap.get?_push_of_some _ q) (hAj _) (qUt s.heap I.big),rfl,h _ (I.hok.fresh (hAj _))⟩
theorem qIy:PE X (.Dict [] [] pos) qYt:=λaB s σ H Q I h =>
 wpAny_Dict_empty ⟨.ref s.heap.objs.size,_,I.laid (a:=s.heap.objs.size) (o:=.dT []) (t':=s.toks) (λ_ _ q=>Heap.get?_push_of_some _ q) (hAj _) (qUs s.heap I.big),rfl,h _ (I.hok.fresh (hAj _))⟩
end
structure M1(X:Cx)(o:Expr)(m:Str)(apos:Pos)(e:Expr)(cpos:Pos):Prop where
 base:attributeBase o m X.env (eval o X.env)=eval o X.env
 few:((backTo cpos (starEach [e] X.env)).all (λx=>!x.1) && (backToKw cpos (keywordEach [] X.env)).all (λx=>x.1.isSome)
  && decide (([e]:List Expr).length+([]:List Keyword).length+(if ([]:List Keyword).isEmpty then 0 else 1)<30))=true
 line:(apos.endLine == cpos.line)=true
 trees:backTo cpos (starEach [e] X.env)=[(false,eval e X.env)]
structure M2(X:Cx)(o:Expr)(m:Str)(apos:Pos)(e f:Expr)(cpos:Pos):Prop where
 base:attributeBase o m X.env (eval o X.env)=eval o X.env
 few:((backTo cpos (starEach [e,f] X.env)).all (λx=>!x.1) && (backToKw cpos (keywordEach [] X.env)).all (λx=>x.1.isSome)
  && decide (([e,f]:List Expr).length+([]:List Keyword).length+(if ([]:List Keyword).isEmpty then 0 else 1)<30))=true
 line:(apos.endLine == cpos.line)=true
 trees:backTo cpos (starEach [e,f] X.env)=[(false,eval e X.env),(false,eval f X.env)]
def IsD(H:Hp)(a:Addr):Prop:=(∃kvs,Rd H a (.dK kvs))\/∃kvs,Rd H a (.dT kvs)
theorem qZ7{X:Cx}{aB:List (Addr×Obj)}{σ:St}{H:Hp}{s:Shared}{a:Addr}(I:Inv X aB σ H s)(d:IsD H a) :
  s.TypeIs (.ref a) "dict"/\(∀b,Value.ref a = .ref b->∃ob,s.heap.get? b=some ob/\ob.dict=none)/\(a == sysModules)=false:=by
 rcases d with ⟨kvs,e⟩|⟨kvs,e⟩
 ·obtain⟨_,hd,vs,_,dd⟩:=qM1 I.hok e;refine⟨dd.typeIs,λb q=>?_,hd⟩;cases q;obtain⟨ob,_,_,h1,h2,_⟩:=dd;exact⟨ob,h1,h2.2.1⟩
 ·obtain⟨_,hd,xs,_,dd⟩:=qK4 I.hok e;refine⟨dd.typeIs,λb q=>?_,hd⟩;cases q;obtain⟨ob,_,_,h1,h2,_⟩:=dd;exact⟨ob,h1,h2.2.1⟩
section
variable{X:Cx}{aB:List (Addr×Obj)}{σ:St}{H:Hp}{s:Shared}{a:Addr}{y d:V}{u r:Value}{o:Option V}{A:Around}{E:Value->Shared->Prop}
theorem zAl{Q:Value->Shared->Prop}(hu:A.units+1<cLine)(I:Inv X aB σ H s)(g:qD3 H a y o)(ry:qBx y u)(rd:qBx d r)(h:∀w' s',Inv X aB σ H s'->qBx (o.getD d) w'->Q w' s') :
  wpAny (model X.prog X.w) A (call (.builtin "dict.get") [.ref a,u,r]) Q E s:=by
 rcases g with ⟨kvs,k,e,ey,l⟩|⟨kvs,k,b,e,ey,eb,l⟩
 ·subst ey;obtain⟨z,hd,vs,rel,dd⟩:=qM1 I.hok e;refine call_meetsIn PySem.F.slot_dict_get dd.typeIs PySem.F.entry_dict_get (PySem.F.args_dict_get_3 _ _ _) (meets_dict_get_default (qAu X.prog X.w) a (qMm ry) hd r) ⟨_,dd.mapOf,h _ _ (I.tok _) ?_⟩;rw[l];exact(rel.val k).getD rd
 ·subst ey;cases(show u=Value.ref b from ry);obtain⟨z,hd,xs,rel,dd⟩:=qK4 I.hok e;refine call_meetsIn PySem.F.slot_dict_get dd.typeIs PySem.F.entry_dict_get (PySem.F.args_dict_get_3 _ _ _) (meetsH_dict_get_default (tupleKind (qAu X.prog X.w)) a b hd r) ⟨hFu hu,k,xs,qH7 I.hok eb,dd,h _ _ (I.tok _) ?_⟩;rw[l];exact(rel.val k).getD rd
end
def qYv(td ty tx:TE):TE:=λσ H Q=>td σ H λx H1=>∃a,x = .ref a/\IsD H1 a/\ty σ H1 λy H2=>tx σ H2 λz H3=>∃o,qD3 H3 a y o/\Q (o.getD z) H3
section
variable{X:Cx}{o e f:Expr}{apos cpos:Pos}{td ty tx:TE}
theorem qGd(hu:X.A.units+1<cLine)(ho:PE X o td)(he:PE X e ty)(hf:PE X f tx)(m:M2 X o "get" apos e f cpos):PE X (.Call (.Attribute o "get" apos) [e,f] [] cpos) (qYv td ty tx):=by
 intro aB s σ H Q I h;refine wpAny_Call_method m.base m.few m.line hDg PySem.F.slot_dict_get PySem.F.type_dict_get (thn (ho aB s σ H _ I h) λu s1 ⟨x,H1,I1,rx,a,ex,d,q1⟩=>?_);subst ex;obtain rfl:u=Value.ref a:=rx;obtain⟨t1,t2,_⟩:=qZ7 I1 d;refine⟨t1,t2,?_⟩;rw[m.trees];refine Calls.callWith_builtin rfl (Calls.evalArgs_plain (Calls.spliced_cons (thn (he aB s1 σ H1 _ I1 q1) λiv s2 ⟨y,H2,I2,ry,q2⟩ =>
  Calls.spliced_cons (thn (hf aB s2 σ H2 _ I2 q2) λfv s3 ⟨z,H3,I3,rz,ov,g,q3⟩=>Calls.spliced_nil ?_))))
 exact zAl hu I3 g ry rz λw' s4 I4 rw'=>⟨_,H3,I4,rw',q3⟩
end
section
variable{κ:Type}[DecidableEq κ]
theorem qTc{kvs:List (κ×V)}{k:κ}(h:valV kvs k=none):¬k∈kvs.map (·.1):=by
 intro m;obtain⟨p,hp,e⟩:=hAm.mp m;have q:(kvs.any λkv=>decide (kv.1=k))=true:=hC5.mpr ⟨p,hp,hEt e⟩;rw[qCl,h]at q;exact absurd q (by simp)
theorem qWc{kvs:List (κ×V)}{k:κ}{v:V}(h:valV kvs k=some v):k∈kvs.map (·.1):=by
 have q:(kvs.any λkv=>decide (kv.1=k))=true:=by
  rw[qCl,h]
  all_goals rfl
 obtain⟨p,hp,e⟩:=hC5.mp q;exact hAm.mpr ⟨p,hp,hEz e⟩
end
noncomputable def qC1(cells:List (Str×Addr)):List (Str×NameKind)->List (Str×Addr)->List (Str×Addr)
 |[],acc=>acc
 |(n,k) :: r,acc=>if k == .free then qC1 cells r ((n,(cells.lookup n).getD 0) :: acc) else qC1 cells r acc
theorem qIf(env:Env)(f:Str×NameKind->List (Str×Addr)->Sem (ForInStep (List (Str×Addr))))
  (hf:∀n k cs,f (n,k) cs=if k == .free then (do let a ← cellOf env n;pure (.yield ((n,a) :: cs))) else pure (.yield cs)) :
  ∀(aA:List (Str×NameKind)) (acc:List (Str×Addr)),(∀x∈aA,x.2 = .free->∃c,env.cells.lookup x.1=some c)->forIn aA acc f=pure (qC1 env.cells aA acc)
 |[],acc,_=>by rw[List.forIn_nil];rfl
 |(n,k) :: r,acc,h=>by
  have ih:=qIf env f hf r;rw[List.forIn_cons,hf];unfold qC1;by_cases hk:(k == NameKind.free)=true
  ·rw[hEs hk,hEs hk];obtain⟨c,hc⟩:=h (n,k) hAb (by simpa using hk);have e:cellOf env n=pure c:=by unfold cellOf;rw[hc]
   rw[e,hc];exact ih _ λx hx=>h x (hAe _ hx)
  ·rw[hEr hk,hEr hk];exact ih _ λx hx=>h x (hAe _ hx)
theorem qJn(h:∀x∈scope.names,x.2 = .free->∃c,env.cells.lookup x.1=some c):closureFor scope env=pure (qC1 env.cells scope.names []):=by
 simp only[closureFor];rw[qIf env _ (λn k cs=>by cases hk:k == NameKind.free <;> simp[hk]) scope.names [] h];rfl
theorem qHe:∀ {aA:List (Str×NameKind)} {acc:List (Str×Addr)} {x:Str} {c:Addr},(x,c)∈qC1 cells aA acc->(x,c)∈acc\/((x,NameKind.free)∈aA/\c=(cells.lookup x).getD 0)
 |[],acc,x,c,h=>.inl h
 |(n,k) :: r,acc,x,c,h=>by
  unfold qC1 at h;by_cases hk:(k == NameKind.free)=true
  ·rw[hEs hk]at h;rcases qHe h with q|⟨q,e⟩
   ·rcases hAg.mp q with z|z
    ·cases z;exact .inr ⟨by rw[show NameKind.free=k from (by simpa using hk:k=NameKind.free).symm];exact hAb,rfl⟩
    ·exact .inl z
   ·exact .inr ⟨hAe _ q,e⟩
  ·rw[hEr hk]at h;rcases qHe h with q|⟨q,e⟩
   ·exact .inl q
   ·exact .inr ⟨hAe _ q,e⟩
theorem qF9{α:Type}{x n:Str}{c:α}{l:List (Str×α)}(h:(l.lookup x).isSome=true):(((n,c) :: l).lookup x).isSome=true:=by
 rw[hDo];cases x == n <;> simp[h]
theorem qD9{cells:List (Str×Addr)}{x:Str}:∀ {aA:List (Str×NameKind)} {acc:List (Str×Addr)},((x,NameKind.free)∈aA\/(acc.lookup x).isSome=true)->((qC1 cells aA acc).lookup x).isSome=true
 |[],acc,h=>by
  rcases h with h|h
  ·cases h
  ·exact h
 |(n,k) :: r,acc,h=>by
  unfold qC1;by_cases hk:(k == NameKind.free)=true
  ·rw[hEs hk];refine qD9 ?_;rcases h with h|h
   ·rcases hAg.mp h with z|z
    ·cases z;exact .inr (by rw[hDo];simp)
    ·exact .inl z
   ·exact .inr (qF9 h)
  ·rw[hEr hk];refine qD9 ?_;rcases h with h|h
   ·rcases hAg.mp h with z|z
    ·cases z;exact absurd rfl hk
    ·exact .inl z
   ·exact .inr h
theorem qDq:∀ {aA:List (Str×NameKind)} {n:Nat} {acc:List (Str×Addr)} {x:Str} {c:Addr},(x,c)∈cellsFrom n aA acc->(x,c)∈acc\/(x,NameKind.cell)∈aA
 |[],_,_,_,_,h=>.inl h
 |(y,k) :: r,n,acc,x,c,h=>by
  unfold cellsFrom at h;by_cases hk:(k == NameKind.cell)=true
  ·rw[hEs hk]at h;rcases qDq h with q|q
   ·rcases hAg.mp q with z|z
    ·cases z;exact .inr (by rw[show NameKind.cell=k from (by simpa using hk:k=NameKind.cell).symm];exact hAb)
    ·exact .inl z
   ·exact .inr (hAe _ q)
  ·rw[hEr hk]at h;rcases qDq h with q|q
   ·exact .inl q
   ·exact .inr (hAe _ q)
structure CellsTwo(h:Heap)(lo:Nat)(acc cs:List (Str×Addr)):Prop where
 part:∀x c,(x,c)∈cs->(x,c)∈acc\/(h.IsCell c none/\lo<=c)
 inj:∀x y c,lo<=c->(x,c)∈cs->(y,c)∈cs->x=y
theorem qDp:∀(aA:List (Str×NameKind)) (h:Heap) (lo:Nat) (acc:List (Str×Addr)),CellsTwo h lo acc0 acc->(∀x c,(x,c)∈acc->c<h.objs.size)->lo<=h.objs.size ->
  CellsTwo (pushCells h aA) lo acc0 (cellsFrom h.objs.size aA acc)
 |[],_,_,_,x,_,_=>x
 |(name,kind) :: r,h,lo,acc,x,hl,hlo=>by
  unfold pushCells cellsFrom;split
  ·have:=qDp (acc0:=acc0) r (h.push { cls:=.type "cell",data:=.cell none }) lo ((name,h.objs.size) :: acc)
    ⟨λn c hm=>by
      rcases hAg.mp hm with e|hm
      ·cases e;exact .inr ⟨⟨_,Heap.get?_push_size _ rfl,rfl⟩,hlo⟩
      ·rcases x.part n c hm with q|q
       ·exact .inl q
       ·exact .inr ⟨q.1.keeps λb o e=>Heap.get?_push_of_some _ e,q.2⟩,
     λa b c hc h1 h2=>by
      rcases hAg.mp h1 with e1|h1 <;> rcases hAg.mp h2 with e2|h2
      ·cases e1;cases e2;rfl
      ·cases e1;exact absurd (hl _ _ h2) (hBu _)
      ·cases e2;exact absurd (hl _ _ h1) (hBu _)
      ·exact x.inj a b c hc h1 h2⟩
    (λn c hm=>by
     rw[Heap.size_push];rcases hAg.mp hm with e|hm
     ·cases e;exact hBp _
     ·exact hB5 (hl n c hm)) (by rw[Heap.size_push];omega)
   rwa [Heap.size_push]at this
  ·exact qDp r h lo acc x hl hlo
def qCj(env:Env)(scope:Scope)(C:Addr):Env :=
 { scope:=relabel scope env,locals:=C,globals:=env.globals,cells:=cellsFrom (C+1) scope.names (qC1 env.cells scope.names []),qual:=env.qual,func:=none,code:=env.code,frame:=env.frame,builtins:=env.builtins }
theorem qEo
  (hQ:Q { scope:=scope,locals:=s.heap.objs.size,globals:=env.globals,cells:=cellsFrom (s.heap.objs.size+1) scope.names cl,qual:=env.qual,func:=none,code:=env.code,frame:=env.frame,builtins:=env.builtins }
   { s with heap:=pushCells (s.heap.push { cls:=.type "dict",data:=.dict #[] }) scope.names }) :
  wpAny M A (newFunctionEnv scope env.globals cl [] env.qual none .none (some env)) Q E s:=by
 simp only[newFunctionEnv,hEe,hG3];refine hEp (wpAny_alloc ?_);refine hEp (wpAny_layCells _ (λname kind cells=>by cases hkc:kind == NameKind.cell <;> simp[hkc]) _ _ _ _ ?_);rw[show({ s with heap:=s.heap.push { cls:=.type "dict",data:=.dict #[] } }:Shared).heap.objs.size=s.heap.objs.size+1 from Heap.size_push ..];rw[List.forIn_nil];exact hEp (hEq (hEq hQ))
theorem qLb(I:Nat->Shared->Prop)
  (turn:∀n s,I n s->wpAny (model prog w) A (pyNext it) (λr s₁=>match r with
   |none=>R (.ok .next) s₁
   |some v=>wpAny (model prog w) A (letOwnedTupleGo target it v) (λ_ s₁'=>wpAny (model prog w) A (assign target env v) (λ_ s₂ =>
     wpAny (model prog w) A (forIn ifs true λc r=>if r=true then do let ok ← isTrue c env (eval c env);pure (ForInStep.yield ok) else pure (ForInStep.yield r)) (λok s₃ =>
      if ok=true then wpAny (model prog w) A (eval elt env) (λx s₄ =>
       wpAny (model prog w) A (call (.builtin "list.append") [acc,x]) (λ_ s₅=>∃m,m<n/\I m s₅) (λ_ _=>False) s₄) (λ_ _=>False) s₃
      else ∃m,m<n/\I m s₃) (λ_ _=>False) s₂) (λ_ _=>False) s₁') (λ_ _=>False) s₁) (λ_ _=>False) s)
  (n:Nat) (h:I n s) :
  codeAny (model prog w) A (.compLoop (.ListComp elt [⟨target,iter,ifs,0⟩] scope pos) 0 it acc env) R s:=by
 refine codeAny_loop rfl I (λn s hI=>?_) n h;show wpAny _ A ((compTurn (.ListComp elt [⟨target,iter,ifs,0⟩] scope pos) 0 it acc env).onRaise (λx=>do noteFrame x env;theTreesLotGoes x)) _ _ s;refine wpAny_noted ?_;rw[compTurn_list];refine hEp (hF9 (hEp (hF2 (turn n s hI) (λr s₁ h₁=>?_) λ_ _ h'=>h'.elim)));cases r with
 |none=>exact hEq h₁
 |some v =>
  refine hEp (hF2 h₁ (λ_ s₁' h₁=>?_) λ_ _ h'=>h'.elim);refine hEp (hF2 h₁ (λ_ s₂ h₂=>hEp (hF2 h₂ (λok s₃ h₃=>?_) λ_ _ h'=>h'.elim)) λ_ _ h'=>h'.elim);cases ok with
  |false=>exact hEq ⟨rfl,h₃⟩
  |true =>
   exact hEp (hEp (hF2 h₃ (λx s₄ h₄=>hEp (hF2 h₄ (λ_ s₅ h₅=>hEq (hEq ⟨rfl,h₅⟩)) λ_ _ h'=>h'.elim)) λ_ _ h'=>h'.elim))
noncomputable def qBm(X:Cx)(scope:Scope)(N':List Str)(C:Addr)(s:Shared)(H:Hp)(fp:List Addr):Cx :=
 { X with N:=N',s₀:=s,H₀:=H,env:=qCj X.env scope C,outer:=X.stack,stack:=X.stack,ex:=fp,fn:=λx=>!(scope.names.lookup x == some .free),pn:=[],xe:=λ_ _=>False }
noncomputable def subσ(sub:List (Option Nat))(σ:St):St:=sub.map λo=>o.bind λi=>(σ[i]?).join
noncomputable def qV8(N:List Str)(sc:Scope)(N':List Str)(scope:Scope)(sub:List (Option Nat)):Bool :=
 scope.kind == .function && decide ((scope.names.map (·.1)).Nodup) && decide N'.Nodup && sub.length == N'.length &&
 (scope.names.all λx=>!(x.2 == .free) || sc.names.lookup x.1 == some .cell || sc.names.lookup x.1 == some .free) &&
 ((sub.zip N').all λp=>match p.1 with
  |none=>true
  |some i=>N[i]? == some p.2 && scope.names.lookup p.2 == some .free)
structure CmpOk(N:List Str)(sc:Scope)(N':List Str)(scope:Scope)(sub:List (Option Nat)):Prop where
 kind:scope.kind = .function
 nd:(scope.names.map (·.1)).Nodup
 nd':N'.Nodup
 len:sub.length=N'.length
 free:∀x∈scope.names,x.2 = .free->sc.names.lookup x.1=some .cell\/sc.names.lookup x.1=some .free
 sub:∀(j i:Nat) (x:Str),sub[j]?=some (some i)->N'[j]?=some x->N[i]?=some x/\scope.names.lookup x=some .free
theorem CmpOk.of{N:List Str}{sc:Scope}{N':List Str}{scope:Scope}{sub:List (Option Nat)}(h:qV8 N sc N' scope sub=true):CmpOk N sc N' scope sub:=by
 unfold qV8 at h;simp only[hC4]at h;obtain⟨⟨⟨⟨⟨h1,h2⟩,h3⟩,h4⟩,h5⟩,h6⟩:=h;refine⟨by simpa using h1,hEz h2,hEz h3,by simpa using h4,λx hx hf=>?_,λj i x hj hx=>?_⟩
 ·have q:=hE9.mp h5 x hx;rw[hf]at q;simp only[hFf,Bool.not_true,Bool.false_or,Bool.or_eq_true]at q;rcases q with q|q
  ·exact .inl (by simpa using q)
  ·exact .inr (by simpa using q)
 ·have q:=hE9.mp h6 (some i,x) (by
   refine hAs (i:=j) ?_;rw[List.getElem?_zip_eq_some];exact⟨hj,hx⟩)
  simp only[hC4]at q;exact⟨by simpa using q.1,by simpa using q.2⟩
theorem qB2:∀ {l:List (Str×α)} {x:Str} {c:α},(l.map (·.1)).Nodup->(x,c)∈l->l.lookup x=some c
 |(y,d) :: r,x,c,nd,h=>by
  rw[hDo];rcases hAg.mp h with e|h
  ·cases e;simp
  ·have ne:x≠y:=λe=>by
    rw[hAn]at nd;exact(hB7.mp nd).1 (by rw[<-e];exact hAm.mpr ⟨(x,c),h,rfl⟩)
   rw[show(x == y)=false from by simpa using ne];exact qB2 (hB7.mp nd).2 h
theorem qDy{sc:Scope}:∀ {aA:List (Str×NameKind)} {x:Str},
  ((aA.map λ(n,k)=>if (k == NameKind.free && sc.kind == .function && sc.names.lookup n == some .cell) then (n,NameKind.cell) else (n,k)).lookup x) =
   (aA.lookup x).map λk=>if (k == NameKind.free && sc.kind == .function && sc.names.lookup x == some .cell) then NameKind.cell else k
 |[],x=>rfl
 |(n,k) :: r,x=>by
  have ih:=@qDy sc r x;rw[hAn];show List.lookup x ((if (k == NameKind.free && sc.kind == .function && sc.names.lookup n == some .cell)=true then (n,NameKind.cell) else (n,k)) :: _)=_;by_cases hc:(k == NameKind.free && sc.kind == .function && sc.names.lookup n == some .cell)=true
  ·rw[hEs hc,hDo,hDo];by_cases hx:x=n
   ·subst hx;rw[show(x == x)=true from hFf x];show some NameKind.cell=Option.map _ (some k);rw[hD0,hEs hc]
   ·rw[show(x == n)=false by simpa using hx];exact ih
  ·rw[hEr hc,hDo,hDo];by_cases hx:x=n
   ·subst hx;rw[show(x == x)=true from hFf x];show some k=Option.map _ (some k);rw[hD0,hEr hc]
   ·rw[show(x == n)=false by simpa using hx];exact ih
section
variable{X:Cx}{aB:List (Addr×Obj)}{σ:St}{H H':Hp}{s:Shared}
theorem qIb(I:Inv X aB σ H s)(hb:b∈frs X.stack)(n1:b≠X.env.locals):b∈X.fs:=(hAg.mp (I.stkSub b hb)).elim (λe=>absurd e n1) id
theorem qHf{N':List Str}{scope:Scope}{sub:List (Option Nat)}{h3:Heap}(I:Inv X aB σ H s)(O:CmpOk X.N X.env.scope N' scope sub)
  (hk:∀b o,s.heap.get? b=some o->h3.get? b=some o) :
  (∀x c,(cellsFrom (h3.objs.size+1) scope.names (qC1 X.env.cells scope.names [])).lookup x=some c ->
   (((pushCells (h3.push { cls:=.type "dict",data:=.dict #[] }) scope.names).IsCell c none/\h3.objs.size+1<=c/\(x,NameKind.cell)∈scope.names)\/((x,NameKind.free)∈scope.names/\X.env.cells.lookup x=some c))) /\
  (∀x y c,(cellsFrom (h3.objs.size+1) scope.names (qC1 X.env.cells scope.names [])).lookup x=some c->(cellsFrom (h3.objs.size+1) scope.names (qC1 X.env.cells scope.names [])).lookup y=some c->x=y):=by
 have hin:∀x c,(x,c)∈qC1 X.env.cells scope.names []->(x,NameKind.free)∈scope.names/\X.env.cells.lookup x=some c:=λx c h=>by
  rcases qHe h with q|⟨q,e⟩
  ·cases q
  ·have hx:∃c,X.env.cells.lookup x=some c:=by
    refine I.ok.has x ?_;rcases O.free _ q rfl with z|z
    ·exact .inl z
    ·exact .inr z
   obtain⟨c',hc'⟩:=hx;rw[hc']at e;exact⟨q,by rw[hc',e];rfl⟩
 have hlt:∀x c,(x,c)∈qC1 X.env.cells scope.names []->c<h3.objs.size:=λx c h=>by
  obtain⟨v,o,ho,_⟩:=I.cell x c (hin x c h).2;exact Heap.lt_size (hk _ _ ho)
 have two:=qDp (acc0:=qC1 X.env.cells scope.names []) scope.names (h3.push { cls:=.type "dict",data:=.dict #[] }) (h3.objs.size+1) (qC1 X.env.cells scope.names [])
  ⟨λx c h=>.inl h,λx y c hc h1 _=>absurd (hlt x c h1) (Nat.not_lt.mpr (Nat.le_of_succ_le hc))⟩ (λx c h=>by rw[Heap.size_push];exact hB5 (hlt x c h)) (by rw[Heap.size_push];exact hAj _)
 rw[Heap.size_push]at two;refine⟨λx c h=>?_,λx y c h1 h2=>?_⟩
 ·have m:=hC7 h;rcases two.part x c m with q|q
  ·exact .inr (hin x c q)
  ·refine .inl ⟨q.1,q.2,?_⟩;rcases qDq m with z|z
   ·exact absurd (hlt x c z) (Nat.not_lt.mpr (Nat.le_of_succ_le q.2))
   ·exact z
 ·have m1:=hC7 h1;have m2:=hC7 h2;by_cases hc:h3.objs.size+1<=c
  ·exact two.inj x y c hc m1 m2
  ·rcases two.part x c m1 with q1|q1
   ·rcases two.part y c m2 with q2|q2
    ·exact I.ok.inj x y c (hin x c q1).2 (hin y c q2).2
    ·exact absurd q2.2 hc
   ·exact absurd q1.2 hc
theorem qUb{N':List Str}{scope:Scope}{sub:List (Option Nat)}{fp:List Addr}(I:Inv X aB σ H s)(O:CmpOk X.N X.env.scope N' scope sub)(hf:∀b∈fp,qJw X aB H b)
  (hfl:∀b∈fp,b<s.heap.objs.size) :
  Inv (qBm X scope N' (s.heap.objs.size+1) s H fp) [(s.heap.objs.size,{ cls:=.type "list",data:=.seq #[] })] (subσ sub σ) H
   { s with heap:=pushCells ((s.heap.push { cls:=.type "list",data:=.seq #[] }).push { cls:=.type "dict",data:=.dict #[] }) scope.names }:=by
 have hk3:∀b o,s.heap.get? b=some o->(s.heap.push { cls:=.type "list",data:=.seq #[] }).get? b=some o:=λb o e=>Heap.get?_push_of_some _ e
 have sz3:(s.heap.push { cls:=.type "list",data:=.seq #[] }).objs.size=s.heap.objs.size+1:=Heap.size_push ..;have hk:∀b o,s.heap.get? b=some o->(pushCells ((s.heap.push { cls:=.type "list",data:=.seq #[] }).push { cls:=.type "dict",data:=.dict #[] }) scope.names).get? b=some o :=
  λb o e=>hFd _ _ b o (Heap.get?_push_of_some _ (hk3 b o e))
 have cf:=qHf (h3:=s.heap.push { cls:=.type "list",data:=.seq #[] }) I O hk3;rw[sz3]at cf;have hC:H (s.heap.objs.size+1)=none:=I.hok.fresh (hBl _);have nsC:(pushCells ((s.heap.push { cls:=.type "list",data:=.seq #[] }).push { cls:=.type "dict",data:=.dict #[] }) scope.names).Ns (s.heap.objs.size+1) (λ_=>none):=by
  rw[<-sz3];exact(Heap.Ns.new _ _).keeps (hFd _ _)
 have has:∀x,(scope.names.lookup x=some .cell\/scope.names.lookup x=some .free)->∃c,(cellsFrom (s.heap.objs.size+1+1) scope.names (qC1 X.env.cells scope.names [])).lookup x=some c:=λx hx=>by
  refine hCy.mp (hEc _ _ _ ?_);rcases hx with z|z
  ·exact .inl z
  ·exact .inr (qD9 (.inl (hC7 z)))
 have kindB:∀x,(qCj X.env scope (s.heap.objs.size+1)).kindOf x=(scope.names.lookup x).map λk=>if (k == NameKind.free && X.env.scope.kind == .function && X.env.scope.names.lookup x == some .cell) then NameKind.cell else k:=λx=>qDy
 have cellOk:∀x c,(qCj X.env scope (s.heap.objs.size+1)).cells.lookup x=some c->∃v,(pushCells ((s.heap.push { cls:=.type "list",data:=.seq #[] }).push { cls:=.type "dict",data:=.dict #[] }) scope.names).IsCell c v:=λx c h=>by
  rcases cf.1 x c h with q|q
  ·exact⟨_,q.1⟩
  ·obtain⟨v,z⟩:=I.cell x c q.2;exact⟨v,z.keeps hk⟩
 refine⟨⟨I.ok.mod,O.kind,I.ok.glob,I.ok.blt,hBl _,λx y c h1 h2=>cf.2 x y c h1 h2,λx hx=>?_,λx c hx h=>?_,I.ok.hd,I.ok.frames,.inl rfl,λb hb=>?_,λb o e=>I.bs b o e,hBa I.ok.bsz I.sz,λb o e hb=>?_,λb hb=>?_,I.stack,I.stkFree⟩,
  rfl,I.bare,Un.kept hk,⟨λ_=>none,nsC,λi x v h1 h2 h3=>?_⟩,cellOk,hC,λx c h=>?_,λp hp=>?_,I.hok.kept hk,?_⟩
 ·-- has
  refine has x ?_;have hx:(qCj X.env scope (s.heap.objs.size+1)).kindOf x=some .cell\/(qCj X.env scope (s.heap.objs.size+1)).kindOf x=some .free:=hx;rw[kindB]at hx;cases e:scope.names.lookup x with
  |none=>rw[e]at hx;rcases hx with z|z <;> cases z
  |some k =>
   rw[e]at hx;cases k with
   |cell=>exact .inl rfl
   |free=>exact .inr rfl
   |_=>exfalso;rcases hx with z|z <;> simp at z
 ·-- cab
  rcases cf.1 x c h with q|q
  ·have:=q.2.1;show s.heap.objs.size<=c;omega
  ·exfalso;have e:=qB2 O.nd q.1;have hx':(!(scope.names.lookup x == some NameKind.free))=true:=hx;rw[e]at hx';exact absurd hx' (by decide)
 ·-- exf
  obtain⟨f0,f1,f2,f3,f4,f5⟩:=hf b hb;have lt:=hfl b hb;refine⟨λe=>?_,λx c h e=>?_⟩
  ·have e':b=s.heap.objs.size+1:=e;rw[e']at lt;exact absurd lt (Nat.not_lt.mpr (hBl _))
  ·rcases cf.1 x c h with q|q
   ·have z:=q.2.1;rw[e]at z;exact absurd lt (Nat.not_lt.mpr (hBa (hBa (hBl _) (hBl _)) z))
   ·exact f4 x c q.2 e
 ·-- noex
  obtain⟨f0,f1,f2,f3,f4,f5⟩:=hf b hb;rcases f3 with z|z
  ·exact I.ok.noex b o e z
  ·exact absurd (hBc (Heap.lt_size (I.ok.bs b o e).1) z) (hBu _)
 ·-- exfs
  obtain⟨f0,f1,f2,f3,f4,f5⟩:=hf b hb;exact λz=>f2 (qIb I z f1)
 ·-- loc
  have h1':N'[i]?=some x:=h1;have hsub:∃k,sub[i]?=some (some k)/\(σ[k]?).join=some v:=by
   unfold subσ at h2;rw[hAc]at h2;cases e:sub[i]? with
   |none=>rw[e]at h2;cases h2
   |some o =>
    rw[e]at h2;cases o with
    |none=>cases h2
    |some k=>exact⟨k,rfl,by simpa using h2⟩
  obtain⟨k,hk1,hk2⟩:=hsub;obtain⟨nk,fx⟩:=O.sub i k x hk1 h1';have sk:σ[k]?=some (some v):=by
   cases e:σ[k]? with
   |none=>rw[e]at hk2;cases hk2
   |some o=>rw[e]at hk2;cases o with
    |none=>cases hk2
    |some y=>cases hk2;rfl
  have cx:=O.free _ (hC7 fx) rfl;obtain⟨m,hn,hl⟩:=I.loc;obtain⟨u,ru,lk⟩:=hl k x v nk sk (by
   rcases cx with z|z
   ·exact .inr (.inl z)
   ·exact .inr (.inr z))
  refine⟨u,ru,.inr ⟨?_,?_⟩⟩
  ·show(qCj X.env scope (s.heap.objs.size+1)).kindOf x=some .cell\/(qCj X.env scope (s.heap.objs.size+1)).kindOf x=some .free;rw[kindB,fx];by_cases hc:(NameKind.free == NameKind.free && X.env.scope.kind == .function && X.env.scope.names.lookup x == some .cell)=true
   ·exact .inl (by rw[hD0,hEs hc])
   ·exact .inr (by rw[hD0,hEr hc])
  ·rcases lk with ⟨kl,_⟩|⟨_,c,hc,hcell⟩
   ·exfalso;have kl':X.env.scope.names.lookup x=some .local:=kl;rcases cx with z|z <;> rw[kl']at z <;> cases z
   ·obtain⟨c',hc'⟩:=has x (.inr fx);refine⟨c',hc',?_⟩;rcases cf.1 x c' hc' with q|q
    ·exfalso;have e:=qB2 O.nd q.2.2;rw[fx]at e;cases e
    ·rw[hc]at q;have e:c=c':=hAh q.2;subst e;exact hcell.keeps hk
 ·-- freeC
  rcases cf.1 x c h with q|q
  ·exact I.hok.fresh (by have:=q.2.1;omega)
  ·exact I.freeC x c q.2
 ·-- pin
  have hp':p=(s.heap.objs.size,({ cls:=.type "list",data:=.seq #[] }:Obj)):=by
   have:p∈([]++[(s.heap.objs.size,({ cls:=.type "list",data:=.seq #[] }:Obj))]:List (Addr×Obj)):=hp
   simpa using this
  subst hp';refine⟨hFd _ _ _ _ (Heap.get?_push_of_some _ (Heap.get?_push_size _ rfl)),I.hok.fresh (hAj _),hAt (hBp _),λz=>?_,λv z=>?_⟩
  ·rcases hAg.mp (I.stkSub _ z) with e|e
   ·exact absurd I.lt (by rw[<-e];exact hBu _)
   ·exact I.nofs (hAj _) e
  ·cases z
 ·-- len
  show(subσ sub σ).length=N'.length;unfold subσ;rw[hA4,O.len]
end
def Sle(σ σ2:St):Prop:=σ2.length=σ.length/\∀(i:Nat) (v:V),σ[i]?=some (some v)->σ2[i]?=some (some v)
theorem Sle.refl(σ:St):Sle σ σ:=⟨rfl,λ_ _ h=>h⟩
theorem Sle.set(v:V)(h:Sle σ σ2)(hi:∀u,σ[i]?≠some (some u)):Sle σ (σ2.set i (some v)):=by
 refine⟨by rw[hCz];exact h.1,λj u hj=>?_⟩;have ne:i≠j:=λe=>hi u (by rw[e];exact hj)
 rw[hDv ne];exact h.2 j u hj
theorem sls{σ:St}{i:Nat}{v:V}(h:∀u,σ[i]?≠some (some u):=by intro u z;cases z):Sle σ (σ.set i (some v)):=Sle.set _ (Sle.refl _) h
def PTs(X:Cx)(ifs:List Expr)(t:TT):Prop :=
 ∀(aB:List (Addr×Obj)) (s:Shared) (σ:St) (H:Hp) (Q:Bool->Hp->Prop),Inv X aB σ H s->t σ H Q ->
  wpAny (model X.prog X.w) X.A (forIn ifs true λc r=>if r=true then do let ok ← isTrue c X.env (eval c X.env);pure (ForInStep.yield ok) else pure (ForInStep.yield r)) (TP X aB σ Q) X.xe s
def qWe:TT:=λ_ H Q=>Q true H
theorem qBk:PTs X [] qWe:=λaB s σ H Q I h=>wpAny_tests_nil ⟨H,I,h⟩
theorem qEf(h:PT X c t):PTs X [c] t:=λaB s σ H Q I hw=>wpAny_tests_one (h aB s σ H Q I hw)
def qLk(J:It)(σ0:St)(g:TG)(tt:TT)(te:TE)(Q:List V->Hp->Prop)(H1:Hp):Prop :=
 ∃W:Nat->Nat->List V->Hp->Prop,(∃m,W 0 m [] H1)/\∀i m ys H,W i m ys H ->
  (J.stop i H/\Q ys H) \/
  (J.go i H/\∀x H',J.yld i H x H'->g x σ0 H' λσ2 H2=>Sle σ0 σ2/\tt σ2 H2 λb H3 =>
   if b=true then te σ2 H3 (λv H4=>ys.length<sizeLine/\∃m',m'<m/\W (i+1) m' (ys++[v]) H4) else ∃m',m'<m/\W (i+1) m' ys H3)
section
variable{X:Cx}{aB:List (Addr×Obj)}{σ:St}{H:Hp}{s:Shared}
theorem qK9{target iter elt:Expr}{ifs:List Expr}{scope:Scope}{pos:Pos}{N':List Str}{sub:List (Option Nat)}{J:It}{fp:List Addr}{it:Addr}{tn:Nat->Heap->Prop}{g:TG}{tt:TT}{te:TE}
  {Qe:List V->Hp->Prop} {E:Value->Shared->Prop} {RR:Value->Addr->Result->Shared->Prop}
  {c:Cx->Prop} (hc:∀X',X'.A=X.A->X'.calm=X.calm->c X') (I:Inv X aB σ H s) (O:CmpOk X.N X.env.scope N' scope sub) (T:Turn X.prog X.w X.K target J fp it tn c) (st:tn 0 s.heap) (hf:∀b∈fp,qJw X aB H b)
  (B:∀C s H fp,PG (qBm X scope N' C s H fp) target g/\PTs (qBm X scope N' C s H fp) ifs tt/\PE (qBm X scope N' C s H fp) elt te)
  (rd:qLk J (subσ sub σ) g tt te Qe H)
  (hRR:∀(acc C:Addr) (ys:List V) (H':Hp) (s':Shared),Inv X aB σ (upd H' acc (.lst ys)) s'->qJw X aB (upd H' acc (.lst ys)) C->(∃m,s'.heap.Ns C m)->H' acc=none->Qe ys H'->RR (.ref acc) C (.ok .next) s') :
  wpAny (model X.prog X.w) X.A (newList []) (λacc s₃=>wpAny (model X.prog X.w) X.A (newFunctionEnv scope X.env.globals (qC1 X.env.cells scope.names []) [] X.env.qual none .none (some X.env)) (λcenv s₄ =>
   codeAny (model X.prog X.w) X.A (.compStart (.ListComp elt [⟨target,iter,ifs,0⟩] scope pos) 0 (.ref it) acc { cenv with scope:=relabel scope X.env }) (RR acc cenv.locals) s₄) E s₃) E s:=by
 refine hEw (qEo ?_);have hfl:∀b∈fp,b<s.heap.objs.size:=λb hb=>by
  obtain⟨o,e,_⟩:=T.obj _ _ st b hb;exact Heap.lt_size e
 have I0:=qUb (sub:=sub) I O hf hfl;have sz3:(s.heap.push { cls:=.type "list",data:=.seq #[] }).objs.size=s.heap.objs.size+1:=Heap.size_push ..;dsimp only;show codeAny _ _ (.compStart _ 0 (.ref it) (.ref s.heap.objs.size) { scope:=relabel scope X.env,locals:=(s.heap.push { cls:=.type "list",data:=.seq #[] }).objs.size,globals:=X.env.globals,cells:=cellsFrom ((s.heap.push { cls:=.type "list",data:=.seq #[] }).objs.size+1) scope.names (qC1 X.env.cells scope.names []),qual:=X.env.qual,func:=none,code:=X.env.code,frame:=X.env.frame,builtins:=X.env.builtins })
  (RR (.ref s.heap.objs.size) (s.heap.push { cls:=.type "list",data:=.seq #[] }).objs.size) { s with heap:=pushCells ((s.heap.push { cls:=.type "list",data:=.seq #[] }).push { cls:=.type "dict",data:=.dict #[] }) scope.names }
 rw[sz3];show codeAny _ _ (.compStart _ 0 (.ref it) (.ref s.heap.objs.size) (qCj X.env scope (s.heap.objs.size+1))) (RR (.ref s.heap.objs.size) (s.heap.objs.size+1)) _;generalize hs0:({ s with heap:=pushCells ((s.heap.push { cls:=.type "list",data:=.seq #[] }).push { cls:=.type "dict",data:=.dict #[] }) scope.names }:Shared)=s0 at I0 ⊢;have hk0:∀b o,s.heap.get? b=some o->s0.heap.get? b=some o:=λb o e=>by
  rw[<-hs0];exact hFd _ _ b o (Heap.get?_push_of_some _ (Heap.get?_push_of_some _ e))
 have st0:tn 0 s0.heap:=T.keep _ _ _ st λb hb o e=>hk0 b o e
 clear hs0 sz3;generalize hX:qBm X scope N' (s.heap.objs.size+1) s H fp=X' at I0;have xp:X'.prog=X.prog:=by rw[<-hX];rfl
 have xw:X'.w=X.w:=by rw[<-hX];rfl
 have xK:X'.K=X.K:=by rw[<-hX];rfl
 have xA:X'.A=X.A:=by rw[<-hX];rfl
 have xc:c X':=hc X' xA (by rw[<-hX];rfl);have xe:X'.env=qCj X.env scope (s.heap.objs.size+1):=by rw[<-hX];rfl
 have xx:X'.ex=fp:=by rw[<-hX];rfl
 have xo:X'.outer=X.stack:=by rw[<-hX];rfl
 have xf:X'.fs=frs X.stack:=by rw[<-hX];rfl
 have xpn:X'.pn=[]:=by rw[<-hX];rfl
 have x0:X'.s₀=s:=by rw[<-hX];rfl
 have xh:X'.H₀=H:=by rw[<-hX];rfl
 have xxe:X'.xe=λ_ _=>False:=by rw[<-hX];rfl
 obtain⟨hg,ht,he⟩:=B (s.heap.objs.size+1) s H fp;rw[hX]at hg ht he;clear hX;have stat:∀ {pl:List (Addr×Obj)} {H':Hp},(∀p∈pl,p.1=s.heap.objs.size)->(∀b∈fp,H' b=none)->∀b∈fp,qJw X' pl H' b:=λ{pl H'} hp hn b hb=>by
  obtain⟨f0,f1,f2,f3,f4,f5⟩:=hf b hb;refine⟨hn b hb,(I0.ok.exf b (by rw[xx];exact hb)).1,I0.ok.exfs b (by rw[xx];exact hb),.inl (by rw[xx];exact hb),(I0.ok.exf b (by rw[xx];exact hb)).2,λp hp'=>?_⟩;rw[xpn,hDd]at hp';rw[hp p hp'];exact hCn (hfl b hb)
 obtain⟨W,⟨m0,w0⟩,turn⟩:=rd;have loop:∀s3:Shared,s3=s0->codeAny (model X.prog X.w) X.A (.compLoop (.ListComp elt [⟨target,iter,ifs,0⟩] scope pos) 0 (.ref it) (.ref s.heap.objs.size) (qCj X.env scope (s.heap.objs.size+1))) (RR (.ref s.heap.objs.size) (s.heap.objs.size+1)) s3:=by
  intro s3 e3;refine qLb (λn s'=>∃(i:Nat) (ys:List V) (H':Hp) (its:List Value) (k:Nat),Inv X' [(s.heap.objs.size,{ cls:=.type "list",data:=.seq its.toArray k })] (subσ sub σ) H' s'/\qBd ys its/\ys.length<=sizeLine/\tn i s'.heap/\(∀b∈fp,H' b=none)/\W i n ys H') ?_ m0
   ⟨0,[],H,[],0,by rw[e3];exact I0,.nil,hAy _,by rw[e3];exact st0,λb hb=>(hf b hb).1,w0⟩
  rintro n s4 ⟨i,ys,H4,its,k,I4,rv,hz,st4,fr4,w4⟩;have pe:∀p∈([(s.heap.objs.size,({ cls:=.type "list",data:=.seq its.toArray k }:Obj))]:List (Addr×Obj)),p.1=s.heap.objs.size:=λp hp=>by
   rw[hAd]at hp;rw[hp]
  rcases turn i n ys H4 w4 with ⟨stop,q⟩|⟨go,step⟩
  ·-- the end
   have td:=T.done X' xp xw xK xc i _ s4 (subσ sub σ) H4 (λ_ _=>False) I4 (stat pe fr4) st4 stop;rw[xA]at td;refine thn td λr s5 ⟨hr,I5⟩=>?_
   subst hr;have pa:=I5.pin (s.heap.objs.size,{ cls:=.type "list",data:=.seq its.toArray k }) (by rw[xpn];simp);have nacc:H4 s.heap.objs.size=none:=pa.2.1;have nC:H4 (s.heap.objs.size+1)=none:=by have z:=I5.free;rw[xe]at z;exact z
   have un:Un (frs X.stack) fp H H4 s.heap s5.heap:=by have z:=I5.base;rw[xf,xx,xh,x0]at z;exact z
   have un2:Un (frs X.stack) fp H (upd H4 s.heap.objs.size (.lst ys)) s.heap s5.heap:=by
    refine⟨un.keep,un.slot,λb o e n hx=>?_,un.there,λb xs e=>?_,λb o u e=>?_,λb ps e=>?_⟩
    ·rw[qAb (hAt (Heap.lt_size e))];exact un.free b o e n hx
    ·have z:=un.tups b xs e;rw[qAb (qAp z nacc)];exact z
    ·have z:=un.frzs b o u e;rw[qAb (qAp z nacc)];exact z
    ·obtain⟨more,z⟩:=un.tbls b ps e;exact⟨more,by rw[qAb (qAp z nacc)];exact z⟩
   have hok5:HOk X.prog X.w H4 s5.heap:=by have z:=I5.hok;rw[xp,xw]at z;exact z
   have hok2:HOk X.prog X.w (upd H4 s.heap.objs.size (.lst ys)) s5.heap:=λb u e=>by
    by_cases hb:b=s.heap.objs.size
    ·subst hb;rw[upd_same]at e;cases e;exact⟨hz,its,k,rv,pa.1⟩
    ·rw[qAb hb]at e;exact(hok5 b u e).stay (λ_ _ _ q=>q) (λc q=>by rw[qAb (qAp q nacc)];exact q) λc xs q=>by rw[qAb (qAp q nacc)];exact q
   have os5:s5.os=s.os:=by have z:=I5.os;rw[x0]at z;exact z
   have J5:Inv X aB σ (upd H4 s.heap.objs.size (.lst ys)) s5:=I.call' os5 un2 hok2 I5.bare λb hb=>by
    obtain⟨f0,f1,f2,f3,f4,f5⟩:=hf b hb;exact⟨f3,f1,f4,f5⟩
   refine hRR _ _ ys H4 s5 J5 (I.fpOk (hBl _) ?_) ?_ nacc q
   ·rw[qAb (Nat.succ_ne_self _)];exact nC
   ·obtain⟨m,hn,_⟩:=I5.loc;rw[xe]at hn;exact⟨m,hn⟩
  ·-- one turn
   have ti:=T.item X' xp xw xK xc i _ s4 (subσ sub σ) H4 (λ_ _=>False) I4 (stat pe fr4) st4 go;rw[xA]at ti;refine thn ti λr s5 ⟨u,hr,h5⟩=>?_
   subst hr;refine thn h5 λ_ s6 ⟨x,H6,I6,r6,y6,st6,fr6⟩=>?_
   have I6':=I6.pinned (stat pe fr6) (T.obj _ _ st6);have tg:=hg _ s6 (subσ sub σ) H6 x u _ I6' r6 (step x H6 y6);rw[xp,xw,xA,xe,xxe]at tg;refine thn tg λ_ s7 ⟨σ7,H7,I7,le7,q7⟩=>?_
   have tts:=ht _ s7 σ7 H7 _ I7 q7;rw[xp,xw,xA,xe,xxe]at tts;refine thn tts λb s8 ⟨H8,I8,q8⟩=>?_
   cases b with
   |false =>
    rw[hEr hAo]at q8 ⊢;obtain⟨m',hm',w8⟩:=q8;have I9:Inv X' ([(s.heap.objs.size,{ cls:=.type "list",data:=.seq its.toArray k })]++pinsAt fp s6.heap) (subσ sub σ) H8 s8:=I8.weak le7.1.symm le7.2;refine⟨m',hm',i+1,ys,H8,its,k,I9.unpinned,rv,hz,T.keep _ _ _ st6 λb hb o e=>(I9.pin (b,o) (hAq _ (hAq _ (qCc hb e)))).1,λb hb=>?_,w8⟩;obtain⟨o,e,d⟩:=T.obj _ _ st6 b hb;exact(I9.pin (b,o) (hAq _ (hAq _ (qCc hb e)))).2.1
   |true =>
    rw[hEs rfl]at q8 ⊢;have tee:=he _ s8 σ7 H8 _ I8 q8;rw[xp,xw,xA,xe,xxe]at tee;refine thn tee λvv s9 ⟨v,H9,I9,r9,lz,m',hm',w9⟩=>?_
    have I10:Inv X' ([(s.heap.objs.size,{ cls:=.type "list",data:=.seq its.toArray k })]++pinsAt fp s6.heap) (subσ sub σ) H9 s9:=I9.weak le7.1.symm le7.2;have pa:=I10.pin (s.heap.objs.size,{ cls:=.type "list",data:=.seq its.toArray k }) (by rw[xpn];simp);have hlen:=rv.length;refine wpAny_list_append_plain (items:=its.toArray) ⟨k,pa.1⟩ (λh' pl sb=>?_) (by rw[hAu];omega);obtain⟨k',pl⟩:=pl;have keepIt:∀b∈fp,∀o,s6.heap.get? b=some o->h'.get? b=some o:=λb hb o e=>by
     have nb:b≠s.heap.objs.size:=hAt (hfl b hb);exact(sb.2 b nb).trans (I10.pin (b,o) (hAq _ (hAq _ (qCc hb e)))).1
    have I11:Inv X' [] (subσ sub σ) H9 s9:=I10.pins_of λp hp=>absurd hp (by simp)
    have sacc:s.heap.objs.size≠X'.env.locals:=pa.2.2.1;have I12:Inv X' [] (subσ sub σ) H9 { s9 with heap:=h' }:=I11.turned (t':=s9.toks) (it:=s.heap.objs.size) (λb o hb e=>(sb.2 b hb).trans e) pa.2.1 sacc (.inr (by rw[x0];exact hAj _))
     (λy c hy z=>by
      obtain⟨w',o',ho',hd'⟩:=I10.cell y c hy;rw[z,pa.1]at ho';have z2:=hAh ho';rw[<-z2]at hd';cases hd') (λp hp=>absurd hp (by rw[xpn];simp))
    refine⟨m',hm',i+1,ys++[v],H9,its++[vv],k',I12.pins_of (λp hp=>?_),rv.append (.cons r9 .nil),by rw[hAk,hBf];omega,T.keep _ _ _ st6 keepIt,λb hb=>?_,w9⟩
    ·rw[hAd]at hp;subst hp;refine⟨?_,pa.2.1,sacc,pa.2.2.2.1,λv z=>by cases z⟩;show h'.get? s.heap.objs.size=_;rw[pl];simp
    ·obtain⟨o,e,d⟩:=T.obj _ _ st6 b hb;exact(I10.pin (b,o) (hAq _ (hAq _ (qCc hb e)))).2.1
 exact codeAny_compStart_list (loop _ rfl) (T.self _ 0 _ _ _ st0 (loop _ rfl))
end
def qO5(sub:List (Option Nat))(wi:TI)(g:TG)(tt:TT)(te:TE):TE:=λσ H Q=>wi σ H λJ H1 =>
 qLk J (subσ sub σ) g tt te (λys H'=>∀r,H' r=none->Q (.ref r) (upd H' r (.lst ys))) H1
section
variable{X:Cx}{target iter elt:Expr}{ifs:List Expr}{scope:Scope}{pos:Pos}{N':List Str}{sub:List (Option Nat)}{wi:TI}{g:TG}{tt:TT}{te:TE}
theorem qJo(I:Inv X aB σ H s)(O:CmpOk X.N X.env.scope N' scope sub):closureFor scope X.env=pure (qC1 X.env.cells scope.names []) :=
 qJn λx hx hf=>I.ok.has x.1 (by rcases O.free x hx hf with z|z;exact .inl z;exact .inr z)
theorem qGf(O:CmpOk X.N X.env.scope N' scope sub):∀y∈scope.names,y.2 = .local->scope.names.lookup y.1=some .local:=λy hy e=>by
 obtain⟨n,k⟩:=y;cases e;exact qB2 O.nd hy
theorem qW4(hc:X.calm=true)(O:CmpOk X.N X.env.scope N' scope sub)(hi:PI X target iter wi)
  (B:∀C s H fp,PG (qBm X scope N' C s H fp) target g/\PTs (qBm X scope N' C s H fp) ifs tt/\PE (qBm X scope N' C s H fp) elt te)
  (hs:∀x,foldedSetIterable iter X.env x=pure x:=by intro _;rfl):PE X (.ListComp elt [⟨target,iter,ifs,0⟩] scope pos) (qO5 sub wi g tt te):=by
 intro aB s σ H Q I h;rw[eval_ListComp];refine hFl (use:=none) rfl hs (qJo I O) O.kind (qGf O) (thn (hi aB s σ H _ I h) λv s1 h1=>thn h1 λitv s2 h2=>?_);obtain⟨it,fp,tn,J,H2,e,I2,T,st2,f2,rd⟩:=h2;subst e;refine qK9 (RR:=λacc C=>compPost (model X.prog X.w) X.A X.xe none (EP X aB σ Q) acc C) (λX' _ e=>e.trans hc) I2 O T st2 f2 B rd λacc C ys H' s' I' fC hn na q=>?_
 obtain⟨m,hn⟩:=hn;obtain⟨f0,f1,f3,f4,f5,f6⟩:=fC;refine⟨m,hn,λh' sb=>?_⟩;exact⟨.ref acc,upd H' acc (.lst ys),I'.turned (t':=s'.toks) (it:=C) (λb o hb e=>(sb.2 b hb).trans e) f0 f1 f4 f5 f6,rfl,q acc na⟩
theorem qW0(hc:X.calm=true)(O:CmpOk X.N X.env.scope N' scope sub)(hi:PI X target iter wi)
  (B:∀C s H fp,PG (qBm X scope N' C s H fp) target g/\PTs (qBm X scope N' C s H fp) ifs tt/\PE (qBm X scope N' C s H fp) elt te)
  (hN:X.N.Nodup) (hy:X.N[i]?=some y) (hx:Loc X.env.scope y)
  (hsw:swapsWith (.ListComp elt [⟨target,iter,ifs,0⟩] scope pos) (some (.Name y py)) spos.line X.env=pure true)
  (hs:∀x,foldedSetIterable iter X.env x=pure x:=by intro _;rfl) (hf:X.fn y=true\/X.env.scope.names.lookup y=some .local:=by exact kO2) :
  PS X (.Assign [.Name y py] (.ListComp elt [⟨target,iter,ifs,0⟩] scope pos) spos) (qYh (qO5 sub wi g tt te) (qKz i)):=by
 intro aB s σ H D I h;rw[exec_Assign_Name_used _ _ _ _ hsw];refine hEp (hF9 (hEp ?_));show wpAny _ _ (do let _ ← comprehension (.ListComp elt [⟨target,iter,ifs,0⟩] scope pos) scope X.env _ (newList []) false (eval iter X.env) (some (assign (.Name y py) X.env))) _ _ s;refine hEp (hF2 (hFl (use:=some (assign (.Name y py) X.env)) (Q:=λ_ s'=>SP X aB D .next s') rfl hs (qJo I O) O.kind (qGf O)
  (thn (hi aB s σ H _ I h) λv s1 h1=>thn h1 λitv s2 h2=>?_)) (λ_ s' hq=>hEq (hEq hq)) λ_ _ e=>e)
 obtain⟨it,fp,tn,J,H2,e,I2,T,st2,f2,rd⟩:=h2;subst e;refine qK9 (RR:=λacc C=>compPost (model X.prog X.w) X.A X.xe (some (assign (.Name y py) X.env)) (λ_ s'=>SP X aB D .next s') acc C) (λX' _ e=>e.trans hc) I2 O T st2 f2 B rd λacc C ys H' s' I' fC hn na q=>?_
 obtain⟨m,hn⟩:=hn;obtain⟨f0,f1,f3,f4,f5,f6⟩:=fC;show wpAny _ _ (assign (.Name y py) X.env (.ref acc)) _ _ s';refine wpAny_assign_Name (qGp (v:=.ref acc) I' hN hy hx rfl (λs'' I'' ⟨a,sb,ha⟩=>?_) hf);have nCa:C≠a:=by
  rcases ha with z|z
  ·rw[z];exact f1
  ·exact λe=>f5 _ _ z e.symm
 refine⟨m,hn.sameBut sb nCa,λh' sb'=>?_⟩;exact⟨_,upd H' acc (.lst ys),I''.turned (t':=s''.toks) (it:=C) (λb o hb e=>(sb'.2 b hb).trans e) f0 f1 f4 f5 f6,q acc na⟩
end
section
variable{σ0:St}{g:TG}{tt:TT}{te:TE}{Q:List V->Hp->Prop}{H1:Hp}
def Nxt(n i:Nat)(Pv:Nat->List V->Hp->Prop)(ys:List V)(H:Hp):Prop:=∃m',m'<n-i/\m'=n-(i+1)/\i+1<=n/\Pv (i+1) ys H
theorem nxt(hi:i<n)(h:Pv (i+1) ys H):Nxt n i Pv ys H:=⟨_,by omega,rfl,hi,h⟩
theorem qA0{K:PySem.W.Frag}{a:Addr}{xs:List V}(Pv:Nat->List V->Hp->Prop)(h0:Pv 0 [] H1)(hl:∀i ys H,i<=xs.length->Pv i ys H->SqL K H a xs)
  (hs:∀i x ys H,xs[i]?=some x->Pv i ys H->g x σ0 H λσ2 H2=>Sle σ0 σ2/\tt σ2 H2 λb H3=>if b=true then te σ2 H3 (λv H4=>ys.length<sizeLine/\Nxt xs.length i Pv (ys++[v]) H4) else Nxt xs.length i Pv ys H3)
  (hd:∀ys H,Pv xs.length ys H->Q ys H):qLk (Itl K a) σ0 g tt te Q H1:=by
 refine⟨λi m ys H=>m=xs.length-i/\i<=xs.length/\Pv i ys H,⟨xs.length,by simp,hAy _,h0⟩,?_⟩;rintro i m ys H ⟨rfl,hi,p⟩;have q:=hl i ys H hi p;by_cases hlt:i<xs.length
 ·refine .inr ⟨⟨xs,xs[i],q,by simp[hlt]⟩,λx H' y=>?_⟩;obtain⟨e,y⟩:=y;subst e;exact hs i x ys _ (y xs q) p
 ·have e:i=xs.length:=by omega
  subst e;exact .inl ⟨⟨xs,q,hAj _⟩,hd ys H p⟩
theorem qDh{lo:Int}{n:Nat}(Pv:Nat->List V->Hp->Prop)(h0:Pv 0 [] H1)
  (hs:∀i ys H,i<n->Pv i ys H->g (.int (lo+i)) σ0 H λσ2 H2=>Sle σ0 σ2/\tt σ2 H2 λb H3=>if b=true then te σ2 H3 (λv H4=>ys.length<sizeLine/\Nxt n i Pv (ys++[v]) H4) else Nxt n i Pv ys H3)
  (hd:∀ys H,Pv n ys H->Q ys H):qLk (Itr lo n) σ0 g tt te Q H1:=by
 refine⟨λi m ys H=>m=n-i/\i<=n/\Pv i ys H,⟨n,by simp,hAy _,h0⟩,?_⟩;rintro i m ys H ⟨rfl,hi,p⟩;by_cases hlt:i<n
 ·refine .inr ⟨hlt,λx H' y=>?_⟩;obtain⟨e,y⟩:=y;subst e y;exact hs i ys _ hlt p
 ·have e:i=n:=by omega
  subst e;exact .inl ⟨hAj _,hd ys H p⟩
end
end L2
namespace L2
open PySem PySem.Spec PyProof.Rows PySem.SeqAt
mutual
inductive DR (K:PySem.W.Frag) (H:Hp):V->PyData->Prop
 |non:DR K H .non .none
 |bl (b:Bool):DR K H (.bl b) (.bool b)
 |int (i:Int):DR K H (.int i) (.int i)
 |str (x:Str):DR K H (.str x) (.str x)
 |lst {a:Addr} {xs:List V} {ds:List PyData}:SqL K H a xs->DRs K H xs ds->DR K H (.ref a) (.list ds)
 |tup {a:Addr} {xs:List V} {ds:List PyData}:SqT K H a xs->DRs K H xs ds->DR K H (.ref a) (.tuple ds)
inductive DRs (K:PySem.W.Frag) (H:Hp):List V->List PyData->Prop
 |nil:DRs K H [] []
 |cons {v:V} {d:PyData} {vs:List V} {ds:List PyData}:DR K H v d->DRs K H vs ds->DRs K H (v :: vs) (d :: ds)
end
section
variable{X:Cx}{aB:List (Addr×Obj)}{σ:St}{H:Hp}{s:Shared}
mutual
theorem DR.reads(I:Inv X aB σ H s):∀ {v:V} {d:PyData} {u:Value},DR X.K H v d->qBx v u->∃as,Reads s.heap u d as
 |_,_,_,.non,r=>by cases r;exact⟨_,.none⟩
 |_,_,_,.bl b,r=>by cases r;exact⟨_,.bool b⟩
 |_,_,_,.int i,r=>by obtain⟨t,rfl⟩:=r;exact⟨_,.int i t⟩
 |_,_,_,.str x,r=>by obtain⟨t,rfl⟩:=r;exact⟨_,.str x t⟩
 |_,_,_,.lst hq hd,r=>by
  cases r;obtain⟨its,rv,⟨o,n,e,c,_,dt⟩,_⟩:=I.list hq;obtain⟨as,ra⟩:=DRs.reads I hd rv;exact⟨_,.list e c dt ra⟩
 |_,_,_,.tup hq hd,r=>by
  cases r;obtain⟨its,rv,⟨o,e,c,n,dt⟩,_⟩:=I.tuple hq;obtain⟨as,ra⟩:=DRs.reads I hd rv;exact⟨_,.tuple e c dt ra⟩
theorem DRs.reads(I:Inv X aB σ H s):∀ {vs:List V} {ds:List PyData} {us:List Value},DRs X.K H vs ds->qBd vs us->∃as,ReadsAll s.heap us ds as
 |_,_,_,.nil,r=>by cases r;exact⟨_,.nil⟩
 |_,_,_,.cons h t,r=>by
  cases r with
  |cons r rr =>
   obtain⟨a1,q1⟩:=DR.reads I h r;obtain⟨a2,q2⟩:=DRs.reads I t rr;exact⟨_,.cons q1 q2⟩
end
end
def zB8(K:PySem.W.Frag)(neg:Bool):R2:=λx y H Q=>∃dx dy,DR K H x dx/\DR K H y dy/\shaped dx=true/\shaped dy=true/\Q (.bl (if neg then !PyData.eqv dx dy else PyData.eqv dx dy)) H
section
variable{X:Cx}
theorem qVt(hu:X.A.units+64<cLine):OpR X (compareOp .Eq) (zB8 X.K false):=by
 intro aB s σ H x y v u Q I rx ry h;obtain⟨dx,dy,hx,hy,sx,sy,q⟩:=h;obtain⟨a1,r1⟩:=DR.reads I hx rx;obtain⟨a2,r2⟩:=DR.reads I hy ry;exact eq_dataH r1 r2 sx sy hu ⟨.bl (PyData.eqv dx dy),H,I,rfl,q⟩
theorem qH3(hu:X.A.units+64<cLine):OpR X (compareOp .NotEq) (zB8 X.K true):=by
 intro aB s σ H x y v u Q I rx ry h;obtain⟨dx,dy,hx,hy,sx,sy,q⟩:=h;obtain⟨a1,r1⟩:=DR.reads I hx rx;obtain⟨a2,r2⟩:=DR.reads I hy ry;exact ne_dataH r1 r2 sx sy hu ⟨.bl (!PyData.eqv dx dy),H,I,rfl,q⟩
theorem qHw:∀ {us:List Value},qBd (ss.map V.str) us->StrsAre us ss:=by
 induction ss with
 |nil=>intro us r;cases r;exact .nil
 |cons a l ih =>
  intro us r;cases r with
  |cons r rr =>
   obtain⟨t,rfl⟩:=r;exact .cons a t (ih rr)
theorem qH4:∀ {us:List Value},StrsAre us ss->qBd (ss.map V.str) us:=by
 induction ss with
 |nil=>intro us r;cases r;exact .nil
 |cons a l ih =>
  intro us r;cases r with
  |cons _ _ r=>exact .cons ⟨_,rfl⟩ (ih r)
theorem qD1:qCa X (.builtin "sorted") (λxs H Q=>∃p ss,xs=[.ref p]/\SqL X.K H p (ss.map V.str)/\ss.length<64/\∀r ss',H r=none->ss'.Perm ss->sortedS ss'=true->Q (.ref r) (upd H r (.lst (ss'.map V.str)))):=by
 intro aB s σ H xs us Q I r h;obtain⟨p,ss,rfl,hq,h64,q⟩:=h;obtain⟨u,rfl,rx⟩:=qC8 r;cases rx;obtain⟨its,rv,pl,hz⟩:=I.list hq;have hl:=rv.length;rw[hA4]at hl;refine sorted_strs pl.isList (qHw rv) (by omega) λout ss' h1 h2 h3=>?_
 obtain⟨e,he⟩:=sortedAll_at s.heap its out;have nz:H (s.heap.objs.size+1)=none:=I.hok.fresh (hBl _);refine⟨.ref (s.heap.objs.size+1),_,I.laid (t':=s.toks) (a:=s.heap.objs.size+1) (o:=.lst (ss'.map V.str)) (λb o eb=>sortedAll_old eb) (hBl _) ?_,rfl,q _ ss' nz h2 h3⟩;refine⟨?_,out.toList,e,qH4 h1,by simpa using he⟩;rw[hA4,h2.length_eq];exact hBz (qAd (by omega))
end
end L2
namespace L2
open PySem PySem.Spec PyProof.Rows
section
variable{X:Cx}
theorem qBr:qCa X (.builtin "isinstance") (λxs H Q=>∃x t c b,xs=[x,.ty c]/\TyOf X.K H x t/\PySem.W.kitOne X.K t (.type c)=some b/\Q (.bl b) H):=by
 intro aB s σ H xs us Q I r h;obtain⟨x,t,c,b,rfl,ty,e,q⟩:=h;obtain⟨u,w',rfl,rx,rc⟩:=qLz r;cases(show w'=Value.type c from rc);exact qRz I rx ty e λtk=>⟨.bl b,H,I.tok tk,rfl,q⟩
noncomputable def Itk(kvs:List (Key×V))(d:Addr)(o:Obj):It :=
 ⟨λi H=>i<kvs.length/\H d=some (.frz o (.dK kvs)),λi H x H'=>H'=H/\∃p,kvs[i]?=some p/\x=kV p.1,λi H=>kvs.length<=i/\H d=some (.frz o (.dK kvs))⟩
theorem qO4{P:Program}{w:World}{K:PySem.W.Frag}{tg:Expr}(it d:Addr)(o:Obj)(kvs:List (Key×V))(vs:List (Key×Value))(es:Array DictEntry)(ep:Nat)
  (hne:d≠it) (kv:KV kvs vs) (hx:o.ExactDict) (hd:o.data = .dict es ep) (hk:KeysOf (qAu P w) es) (hp:Pairs (qAu P w) es.toList vs) (nd:(vs.map (·.1)).Nodup) :
  Turn P w K tg (Itk kvs d o) [it] it (λi h=>h.IsKeyIter it d i vs.length ep) where
 mem:=by simp
 obj:=λi h st b hb=>by
  have e:b=it:=by simpa using hb
  subst e;obtain⟨o,e,c,d⟩:=st;exact⟨o,e,λv z=>by rw[d]at z;cases z⟩
 keep:=λi h h' st k=>st.at λo e=>k it (by simp) o e
 item:=by
  intro X hP hw hK hc i aB s σ H E I hf st hg;subst hP hw hK;obtain⟨hi,hH⟩:=hg;have ho:s.heap.get? d=some o:=(I.hok d _ hH).1;have da:s.heap.DictAt (qAu X.prog X.w) d vs ep:=⟨o,es,ho,hx,hd,hk,hp,nd⟩;obtain⟨⟨k,xv⟩,hkx⟩:∃p,kvs[i]?=some p:=⟨kvs[i],by simp[hi]⟩;have hvl:i<vs.length:=by have:=kv.length;omega
  obtain⟨⟨k',uv⟩,hkv⟩:∃p,vs[i]?=some p:=⟨vs[i],by simp[hvl]⟩;have ek:k=k':=by
   have e:=congrArg (λl=>l[i]?) kv.keys;simp only[hAc,hkx,hkv]at e;exact hAh e
  subst ek;obtain⟨f0,f1,f2,f3,f4,f5⟩:=hf it (by simp);refine wpAny_pyNext_dict_item st da hkv λkey h' hkey hit' hs'=>?_
  have I1:Inv X aB σ H { s with heap:=h' }:=I.turned (t':=s.toks) (λb o hb e=>(hs'.2 b hb).trans e) f0 f1 f3 f4 f5;obtain⟨oo,e,c,dd⟩:=id hit';refine⟨key,rfl,qPh (s:={ s with heap:=h' }) e c dd (by decide) ⟨kV k,H,I1,?_,⟨rfl,(k,xv),hkx,rfl⟩,hit',λb hb=>(hf b hb).1⟩⟩;rcases qBb (show keyIs k key=true from hkey) with ⟨j,t,rfl,rfl⟩|⟨x,t,rfl,rfl⟩
  ·exact⟨t,rfl⟩
  ·exact⟨t,rfl⟩
 done:=by
  intro X hP hw hK hc i aB s σ H E I hf st hg;subst hP hw hK;obtain⟨hi,hH⟩:=hg;have ho:s.heap.get? d=some o:=(I.hok d _ hH).1;have da:s.heap.DictAt (qAu X.prog X.w) d vs ep:=⟨o,es,ho,hx,hd,hk,hp,nd⟩;obtain⟨f0,f1,f2,f3,f4,f5⟩:=hf it (by simp);have hl:=kv.length;exact wpAny_pyNext_dict_end (I.ok.hd hc) st da (by simp;omega) λh' eb=>⟨rfl,I.turned (t':=s.toks) (λb o hb e=>eb b o hb e) f0 f1 f3 f4 f5⟩
 self:=λ_ _ _ _ _ st h=>wpAny_pyIter_keyiter st h
def zBq(td:TE):TI:=λσ H R=>td σ H λx H1=>∃d kvs,x = .ref d/\H1 d=some (.dK kvs)/\∀o,R (Itk kvs d o) (upd H1 d (.frz o (.dK kvs)))
theorem qW1{e tg:Expr}{td:TE}(he:PE X e td):PI X tg e (zBq td):=by
 intro aB s σ H R I h;refine thn (he aB s σ H _ I h) λv s1 ⟨x,H1,I1,r1,q1⟩=>?_
 obtain⟨d,kvs,e,hH,q⟩:=q1;subst e;cases r1;obtain⟨hz,hsm,vs,kv,o,es,ep,ho,hx,hd,hk,hp,nd⟩:=qPk I1.hok hH;have I2:Inv X aB σ (upd H1 d (.frz o (.dK kvs))) s1:=by
  refine I1.write (t':=s1.toks) (h':=s1.heap) (x:=d) (e:=d) (by rw[hH];trivial) (.inl rfl) (λ_ _ _ q=>q) ⟨o,ho⟩ ⟨ho,?_⟩;exact⟨hz,hsm,vs,kv,o,es,ep,ho,hx,hd,hk,hp,nd⟩
 have da:s1.heap.DictAt (qAu X.prog X.w) d vs ep:=⟨o,es,ho,hx,hd,hk,hp,nd⟩;refine wpAny_pyIter_dict hsm da ?_;have hne:d≠s1.heap.objs.size:=hAt (Heap.lt_size ho);refine⟨s1.heap.objs.size,[s1.heap.objs.size],_,_,_,rfl,I2.kept (t':=s1.toks) λb o e=>Heap.get?_push_of_some _ e,qO4 s1.heap.objs.size d o kvs vs es ep hne kv hx hd hk hp nd,⟨_,Heap.get?_push_size _ rfl,rfl,rfl⟩,λb hb=>?_,q o⟩;have e:b=s1.heap.objs.size:=by simpa using hb
 subst e;exact I2.fpOk (hAj _) (by rw[qAb (Ne.symm hne)];exact I1.hok.fresh (hAj _))
theorem qOy(Pv:Nat->List V->Hp->Prop)(h0:Pv 0 [] H1)
  (hl:∀i ys H,i<=kvs.length->Pv i ys H->H d=some (.frz o (.dK kvs)))
  (hs:∀i p ys H,kvs[i]?=some p->Pv i ys H->g (kV p.1) σ0 H λσ2 H2=>Sle σ0 σ2/\tt σ2 H2 λb H3=>if b=true then te σ2 H3 (λv H4=>ys.length<sizeLine/\Nxt kvs.length i Pv (ys++[v]) H4) else Nxt kvs.length i Pv ys H3)
  (hd:∀ys H,Pv kvs.length ys H->Q ys H):qLk (Itk kvs d o) σ0 g tt te Q H1:=by
 refine⟨λi m ys H=>m=kvs.length-i/\i<=kvs.length/\Pv i ys H,⟨kvs.length,by simp,hAy _,h0⟩,?_⟩;rintro i m ys H ⟨rfl,hi,p⟩;have q:=hl i ys H hi p;by_cases hlt:i<kvs.length
 ·refine .inr ⟨⟨hlt,q⟩,λx H' y=>?_⟩;obtain⟨e,pr,hpr,rfl⟩:=y;subst e;exact hs i pr ys _ hpr p
 ·have e:i=kvs.length:=by omega
  subst e;exact .inl ⟨⟨hAj _,q⟩,hd ys H p⟩
end
section
variable{X:Cx}
theorem qUg(bs:List Bool)(d:Bool):(List.range bs.length).all (λi=>bs.getD i d)=bs.all id:=by
 induction bs with
 |nil=>rfl
 |cons b r ih =>
  rw[hBg,List.range_succ_eq_map,List.all_cons,List.all_map,List.all_cons];have e:((λi=>(b :: r).getD i d)∘Nat.succ)=λi=>r.getD i d:=by
   funext i;simp
  rw[e,ih];simp
theorem qYo{P:Program}{w:World}{A:Around}{bs:List Bool}{its:List Value}(rv:qBd (bs.map V.bl) its)(d:Bool):TruthOf P w A (λi v=>its.toArray[i]?=some v) (λi=>bs.getD i d):=by
 intro i v s Q E hv hQ;have hv':its[i]?=some v:=by simpa using hv
 have hi:i<its.length:=(hAz.mp hv').1;have hl:=rv.length;rw[hA4]at hl;have hb:(bs.map V.bl)[i]?=some (V.bl bs[i]):=by rw[hAc,hA8 (by omega)];rfl
 obtain⟨u,hu,ru⟩:=rv.get hb;rw[hv']at hu;have e:v=Value.bool bs[i]:=(hAh hu).trans ru;rw[e];have e2:bs.getD i d=bs[i]:=by rw[hAa,hA8 (by omega)];rfl
 have hQ:Q (bs.getD i d) s:=hQ;rw[e2]at hQ;exact hFy hQ
theorem qHg(hc:X.calm=true):qCa X (.builtin "all") (λxs H Q=>∃(p:Addr) (bs:List Bool),xs=[.ref p]/\SqL X.K H p (bs.map V.bl)/\Q (.bl (bs.all id)) H):=by
 intro aB s σ H xs us Q I r h;obtain⟨p,bs,rfl,hq,q⟩:=h;obtain⟨u,rfl,rx⟩:=qC8 r;cases rx;obtain⟨its,rv,pl,hz⟩:=I.list hq;have hl:=rv.length;rw[hA4]at hl;have hne:p≠s.heap.objs.size:=by
  obtain⟨o,n,e,_⟩:=pl;exact hAt (Heap.lt_size e)
 have hh:=I.ok.hd hc;refine call_all_walk (hFc pl.isList ?_);refine⟨s.heap.objs.size,_,_,_,_,_,λi=>bs.getD i true,rfl,Walks.list (by exact hh) _ p hne its.toArray,⟨⟨_,Heap.get?_push_size _ rfl,rfl,rfl⟩,pl.isList.at λo e=>Heap.get?_push_of_some _ e⟩,qYo rv true,λh' tk hk=>?_⟩;refine⟨.bl (bs.all id),H,I.kept (t':=tk) λb o e=>hk b o ?_ (Heap.get?_push_of_some _ e),?_,q⟩
 ·intro z;rw[hAd]at z;exact absurd (Heap.lt_size e) (by rw[z];exact hBu _)
 ·show Value.bool _=Value.bool _;rw[hAu,<-hl,qUg]
end
theorem qMc(t:SetTable)(n:Nat):(t.orStandIn n).led=t.led:=by
 unfold SetTable.orStandIn;split <;> rfl
theorem qH6(t:SetTable)(es:Array (Int×Value))(h:Int)(x:Value):(layNew t es h x).2.1.led=t.led:=by
 unfold layNew;split
 ·exact qMc _ _
 ·rfl
theorem qKb(t:SetTable)(es:Array (Int×Value))(k:Nat):(relayAll t es k).2.1.led=t.led:=by
 unfold relayAll;split
 ·rename_i u order e;have eu:u.led=t.led:=by
   unfold SetTable.relaid SetTable.laid at e;cases hc:SetTable.layClean (SetTable.sizeAbove k-1) (es.map (·.1)) with
   |none=>rw[hc]at e;cases e
   |some o =>
    rw[hc]at e;injection e with e
    injection e with e1 e2
    rw[<-e1]
  dsimp only;split
  ·exact eu
  ·rfl
 ·rfl
theorem qL9(t:SetTable)(es:Array (Int×Value))(k:Nat)(hp:t.plain=false):(relayAll t es k).2.1.plain=false:=by
 unfold relayAll;split
 ·rename_i u order e;have eu:u.plain=t.plain:=by
   unfold SetTable.relaid SetTable.laid at e;cases hc:SetTable.layClean (SetTable.sizeAbove k-1) (es.map (·.1)) with
   |none=>rw[hc]at e;cases e
   |some o =>
    rw[hc]at e;injection e with e
    injection e with e1 e2
    rw[<-e1]
  dsimp only;split
  ·exact eu.trans hp
  ·rfl
 ·rfl
def qBw(P:Program)(w:World)(h:Heap)(a:Addr)(ss:List Str):Prop :=
 ∃(es:Array (Int×Value)) (ep:Nat) (t:SetTable),h.get? a=some { cls:=.type "set",dict:=none,data:=.set es ep t,slots:=#[] }/\ElemsOf (PySem.strKind P w) es.toList /\
  StrsAre (es.toList.map (·.2)) ss/\es.size<scanBound/\t.fits es.size=true/\t.led=!w.params.followText "set-order"/\(es.size≠0->t.plain=false)
theorem qIk:∀ {vs:List Value} {ss:List Str},StrsAre vs ss->((∃v∈vs,Value.isStrOf x v=true)↔x∈ss)
 |_,_,.nil=>by simp
 |_,_,.cons y t r=>by
  have ih:=qIk (x:=x) r;have hy:Value.isStrOf x (.str y t)=true↔x=y:=by
   constructor
   ·intro h;obtain⟨u,e⟩:=Value.isStrOf_shape h;cases e;rfl
   ·rintro rfl;simp[Value.isStrOf]
  constructor
  ·rintro⟨v,hv,hp⟩;rcases hAg.mp hv with rfl|hv
   ·rw[hy.mp hp];exact hAb
   ·exact hAe _ (ih.mp ⟨v,hv,hp⟩)
  ·intro h;rcases hAg.mp h with h|h
   ·exact⟨_,hAb,hy.mpr h⟩
   ·obtain⟨v,hv,hp⟩:=ih.mpr h;exact⟨v,hAe _ hv,hp⟩
theorem qP2{es es1:List (Int×Value)}{ss:List Str}{k:Int}{x:Str}{t:Tok}(hS:StrsAre (es.map (·.2)) ss)(p:es1.Perm (es++[(k,.str x t)])):∃ss1,StrsAre (es1.map (·.2)) ss1/\ss1.Perm (ss++[x]):=by
 have hall:∀v,v∈es1.map (·.2)->∃y u,v = .str y u:=by
  intro v hv;obtain⟨e,he,rfl⟩:=hAm.mp hv;rcases hAp.mp (p.mem_iff.mp he) with z|z
  ·exact hS.all _ (hAr z)
  ·rw[hAd]at z;subst z;exact⟨x,t,rfl⟩
 refine⟨_,strsAre_map _ hall,?_⟩;have q:=(p.map (·.2)).map strOf;rw[hAf,hAf,hS.strs]at q;exact q
theorem qFj{es es1:List (Int×Value)}{ss:List Str}(hS:StrsAre (es.map (·.2)) ss)(p:es1.Perm es):∃ss1,StrsAre (es1.map (·.2)) ss1/\ss1.Perm ss:=by
 have hall:∀v,v∈es1.map (·.2)->∃y u,v = .str y u:=by
  intro v hv;obtain⟨e,he,rfl⟩:=hAm.mp hv;exact hS.all _ (hAr (p.mem_iff.mp he))
 refine⟨_,strsAre_map _ hall,?_⟩;have q:=(p.map (·.2)).map strOf;rw[hS.strs]at q;exact q
section
variable{P:Program}{w:World}{A:Around}{E:Value->Shared->Prop}{s:Shared}{a:Addr}{ss:List Str}
theorem qHu(ho:s.heap.get? a=some { cls:=.type "set",dict:=none,data:=.set es ep t,slots:=#[] }) :
  (s.heap.update a (Obj.putSet es' t')).get? a=some { cls:=.type "set",dict:=none,data:=.set es' (ep+1) t',slots:=#[] }:=by
 have q:=Heap.get?_update_self (Obj.putSet es' t') ho (by rw[putSet_of es' t' rfl];rfl);rw[putSet_of es' t' rfl]at q;exact q
theorem qJ4{g:Bool->Sem Unit}(hg:∀(b:Bool) (s1:Shared) (Q':Unit->Shared->Prop),Q' () s1->wpAny (model P w) A (g b) Q' E s1){es es1:Array (Int×Value)}{ep:Nat}{t t2:SetTable}{ss1:List Str}
  (ho:s.heap.get? a=some { cls:=.type "set",dict:=none,data:=.set es ep t,slots:=#[] }) (e1:ElemsOf (PySem.strKind P w) es1.toList) (e2:StrsAre (es1.toList.map (·.2)) ss1) (e3:es1.size<scanBound) (e4:t2.fits es1.size=true)
  (e5:t2.led=!w.params.followText "set-order") (e6:t2.plain=false) {wasD:Bool} {R:Option Bool->Shared->Prop} (h:∀h' ss',Heap.SameBut a s.heap h'->qBw P w h' a ss'->ss'.Perm ss1->R (some true) { s with heap:=h' }) :
  wpAny (model P w) A (do
    storeSet a es1 t2
    if (!wasD && t2.tooFull)=true then do
      g (relayAll t2 es1 (SetTable.grown es1.size)).2.2
      storeSet a (relayAll t2 es1 (SetTable.grown es1.size)).1 (relayAll t2 es1 (SetTable.grown es1.size)).2.1
      pure (some true)
     else pure (some true)) R E s:=by
 refine hEp (hG4 ho rfl ?_ (hF6 e3));have o1:(s.heap.update a (Obj.putSet es1 t2)).get? a=_:=qHu (s:=s) ho;have b1:=Heap.SameBut.update s.heap a (Obj.putSet es1 t2);split
 ·have p:=relayAll_perm t2 es1 (SetTable.grown es1.size);have f:=relayAll_fits t2 es1 (SetTable.grown es1.size);have l:=qKb t2 es1 (SetTable.grown es1.size);have pl:=qL9 t2 es1 (SetTable.grown es1.size) e6;generalize relayAll t2 es1 (SetTable.grown es1.size)=Rl at p f l pl ⊢;obtain⟨es2,t3,gv⟩:=Rl;dsimp only at p f l pl ⊢;have z2:es2.size=es1.size:=by rw[<-hBb,p.length_eq,hBb]
  obtain⟨ss2,q1,q2⟩:=qFj e2 p;refine hEp (hg _ _ _ (hEp (hG4 o1 rfl ?_ (hF6 (by rw[z2];exact e3)))));have o2:((s.heap.update a (Obj.putSet es1 t2)).update a (Obj.putSet es2 t3)).get? a=_:=qHu (s:={ s with heap:=s.heap.update a (Obj.putSet es1 t2) }) o1;exact hEq (h _ ss2 (b1.trans (Heap.SameBut.update _ a _)) ⟨es2,_,t3,o2,e1.perm p,q1,by rw[z2];exact e3,f,l.trans e5,λ_=>pl⟩ q2)
 ·exact hEq (h _ ss1 b1 ⟨es1,_,t2,o1,e1,e2,e3,e4,e5,λ_=>e6⟩ (hDc _))
theorem qNi(hS:qBw P w s.heap a ss)(room:ss.length+1<scanBound)
  (h:∀h' ss',Heap.SameBut a s.heap h'->qBw P w h' a ss'->(if x∈ss then ss'=ss else ss'.Perm (ss++[x]))->Q (!decide (x∈ss)) { s with heap:=h' }) :
  wpAny (model P w) A (setAddHashed a (.str x tk) ((PySem.strKind P w).hash x)) Q E s:=by
 obtain⟨es,ep,t,ho,e1,e2,e3,e4,e5,e6⟩:=hS;have hk:(PySem.strKind P w).is x (.str x tk)=true:=strKind_is P w x tk;have hsc:Value.scannable (.str x tk)=true:=rfl;have hz:ss.length=es.size:=by rw[<-e2.strs,hA4,hA4,hBb]
 unfold setAddHashed setAddHashedIn;refine hEy (hEp (hF7 ho rfl e4 ?_));dsimp only;rw[byScan_of hsc e3 e1,hEs rfl];unfold setAddByScan;refine hEp (hEp (hFz (hEp (wpAny_setScan_of hk ho rfl e4 e1 ?_))));cases hr:List.findIdx? (λe=>(PySem.strKind P w).is x e.2) es.toList with
 |some j =>
  dsimp only;obtain⟨hj,hp,_⟩:=List.findIdx?_eq_some_iff_getElem.mp hr;have hm:x∈ss:=(qIk e2).mp ⟨_,hAr (hBy hj),hp⟩;have q:=h s.heap ss (Heap.SameBut.refl a _) ⟨es,ep,t,ho,e1,e2,e3,e4,e5,e6⟩ (by rw[hEs hm]);rw[hEt hm]at q;exact hEq (hEq q)
 |none =>
  dsimp only;have hm:¬x∈ss:=λz=>by
   obtain⟨v,hv,hp⟩:=(qIk e2).mpr z;obtain⟨e,he,rfl⟩:=hAm.mp hv;have q:=List.findIdx?_eq_none_iff.mp hr e he;rw[show(PySem.strKind P w).is x e.2=true from hp]at q;cases q
  have gw:∀(b:Bool) (s1:Shared) (Q':Unit->Shared->Prop),Q' () s1->wpAny (model P w) A (match b with|true=>rule "set.scan.the-table-gave-way" |false=>pure ()) Q' E s1:=λb s1 Q' hq=>by
   cases b
   ·exact hEq hq
   ·exact hFz hq
  have p:=layNew_perm t es ((PySem.strKind P w).hash x) (.str x tk);have f:=layNew_fits t es ((PySem.strKind P w).hash x) (.str x tk);have l:=qH6 t es ((PySem.strKind P w).hash x) (.str x tk);generalize layNew t es ((PySem.strKind P w).hash x) (.str x tk)=L at p f l ⊢;obtain⟨es1,t1,wasD,gv⟩:=L;dsimp only at p f l ⊢;rw[Array.toList_push]at p;have d1:ElemsOf (PySem.strKind P w) es1.toList:=(e1.push hk hsc).perm p;obtain⟨ss1,d2,d3⟩:=qP2 e2 p;have z1:es1.size=es.size+1:=by rw[<-hBb,p.length_eq,hAk,hBb];rfl
  have d4:es1.size<scanBound:=by rw[z1,<-hz];exact room
  have fin:∀h' ss',Heap.SameBut a s.heap h'->qBw P w h' a ss'->ss'.Perm ss1->Q true { s with heap:=h' }:=λh' ss' b1 b2 b3=>by
   have q:=h h' ss' b1 b2 (by rw[hEr hm];exact b3.trans d3);rw[hEu hm]at q;exact q
  refine hEp (gw _ _ _ ?_);split
  ·rename_i hpl;refine hEp ?_;rw[hashByValue_scannable 8 hsc];refine hEq ?_;refine qJ4 gw ho d1 d2 d4 (SetTable.fits_plain_off f) (l.trans e5) rfl λh' ss' b1 b2 b3=>?_
   exact hEq (fin h' ss' b1 b2 b3)
  ·rename_i hpl;refine hEp (hEq ?_);rw[hEs rfl];refine qJ4 gw ho d1 d2 d4 f (l.trans e5) (by simpa using hpl) λh' ss' b1 b2 b3=>?_
   exact hEq (fin h' ss' b1 b2 b3)
end
theorem qBw.at(x:qBw P w h a ss)(k:∀o,h.get? a=some o->h'.get? a=some o):qBw P w h' a ss:=by
 obtain⟨es,ep,t,ho,r⟩:=x;exact⟨es,ep,t,k _ ho,r⟩
def qS9(val:Nat->Str)(i:Nat)(ss:List Str):Prop:=ss.Nodup/\ss.length<=i/\∀x,x∈ss↔∃j,j<i/\val j=x
theorem qS9.zero(val:Nat->Str):qS9 val 0 []:=⟨hCf,hAj _,λx=>by simp⟩
theorem qS9.next(h:qS9 val i ss)(e:if val i∈ss then ss'=ss else ss'.Perm (ss++[val i])):qS9 val (i+1) ss':=by
 obtain⟨h1,h2,h3⟩:=h;by_cases hm:val i∈ss
 ·rw[hEs hm]at e;subst e;refine⟨h1,by omega,λx=>(h3 x).trans ⟨λ⟨j,a,b⟩=>⟨j,by omega,b⟩,λ⟨j,a,b⟩=>?_⟩⟩;by_cases hj:j<i
  ·exact⟨j,hj,b⟩
  ·have:j=i:=by omega
   subst this;subst b;exact(h3 _).mp hm
 ·rw[hEr hm]at e;refine⟨e.nodup_iff.mpr ?_,?_,λx=>?_⟩
  ·rw[hB6];exact⟨h1,by simp,λy hy z hz=>by rw[hAd]at hz;subst hz;rintro rfl;exact hm hy⟩
  ·rw[e.length_eq,hAk]
   simpa using h2
  ·rw[e.mem_iff,hAp,h3 x,hAd];constructor
   ·rintro(⟨j,a,b⟩|rfl)
    ·exact⟨j,by omega,b⟩
    ·exact⟨i,by omega,rfl⟩
   ·rintro⟨j,a,b⟩;by_cases hj:j<i
    ·exact .inl ⟨j,hj,b⟩
    ·have:j=i:=by omega
     subst this;exact .inr b.symm
section
variable{P:Program}{w:World}{A:Around}{R:Result->Shared->Prop}{I:Addr}{fp wr:List Addr}{G:Array GenState->Array GenState->Prop}{n:Nat}{Pv:Nat->Value->Prop}{St:Nat->Shared->Prop}
theorem qPy(W:WalksS P w A.in1 I fp wr G n Pv St)(S:Addr)(nS:S∉fp)(val:Nat->Str)(hv:∀i v,Pv i v->∃t,v = .str (val i) t)(nb:n+1<scanBound):∀(k i:Nat) (s:Shared) (ss:List Str),n-i=k->i<=n->St i s->qBw P w s.heap S ss->qS9 val i ss ->
  (∀s' ss',Moved (S :: wr) G s s'->qBw P w s'.heap S ss'->qS9 val n ss'->R (.ok (.ret .none)) s')->codeAny (model P w) A (.builtin "set.update.loop" ⟨[.ref S,.ref I],[]⟩) R s:=by
 have nw:S∉wr:=λz=>nS (W.sub _ z)
 have sub:∀b∈wr,b∈S :: wr:=λb z=>hAe _ z
 intro k
 induction k with
 |zero =>
  intro i s ss hk hi st hS ho r;have e:i=n:=by omega
  subst e;refine hF3 hCq ?_;rw[Around.under_plainId hC1 _];show wpAny _ A.in1 (pyNext (.ref I) >>= _) _ _ _;refine hEp (W.done s _ _ st λs1 m1=>hEq (r s1 ss (m1.mono sub) (hS.at λo z=>m1.heap S o nw z) ho))
 |succ k ih =>
  intro i s ss hk hi st hS ho r;have lt:i<n:=by omega
  refine hF3 hCq ?_;rw[Around.under_plainId hC1 _];show wpAny _ A.in1 (pyNext (.ref I) >>= _) _ _ _;refine hEp (W.item i s _ _ lt st λv s1 pv st1 m1=>?_);obtain⟨t,rfl⟩:=hv i v pv;have hS1:qBw P w s1.heap S ss:=hS.at λo z=>m1.heap S o nw z
  show wpAny _ A.in1 (holding [Value.str (val i) t] (setAdd S (.str (val i) t)) >>= _) _ _ s1;refine hEp (hEy ?_);unfold setAdd;refine hEy (hEp ((PySem.strKind P w).pyHash (strKind_is P w _ _) ?_));refine qNi (s:={ s1 with toks:=s1.toks+1 }) hS1 (by have:=ho.2.1;omega) λh2 ss2 sb2 hS2 q2=>?_
  refine hEq ⟨hFq hC1 _,ih (i+1) _ ss2 (by omega) lt (W.frame _ s1 _ _ st1 (hBl _) λb hb o e=>?_) hS2 (ho.next q2) λs3 ss3 m3 hS3 o3=>?_⟩
  ·rw[sb2.2 b (λz:b=S=>nS (by rw[<-z];exact hb))];exact e
  ·refine r s3 ss3 (Moved.trans W.gtrans ((m1.mono sub).then_heap (hBl _) λb o hb e=>?_) m3) hS3 o3;rw[sb2.2 b (λz:b=S=>hb (by rw[z];exact hAb))];exact e
end
section
variable{P:Program}{w:World}{A:Around}{E:Value->Shared->Prop}{s:Shared}
noncomputable abbrev qGs(w:World):Obj:={ cls:=.type "set",dict:=none,data:=.set #[] 0 (.fresh 0 0 (!w.params.followText "set-order")),slots:=#[] }
theorem qQc(P:Program)(w:World)(e:h.get? a=some (qGs w)):qBw P w h a []:=⟨#[],0,_,e,λe he=>by simp at he,.nil,by show 0<scanBound;decide,by rfl,rfl,λz=>absurd rfl z⟩
theorem qLd(v:Value)(h:Q1 (.ref s.heap.objs.size) { s with heap:=s.heap.push (qGs w) }):codeAny (model P w) A (.call (.builtin "set.__new__") ⟨[.type "set",v],[]⟩) (wants Q1 E) s:=by
 refine hGb ?_;show wpAny _ A.in1 (do checkBuiltinCall "set.__new__" ⟨[.type "set",v],[]⟩;again (.builtin "set.__new__" ⟨[.type "set",v],[]⟩)) _ _ s;refine hEp (wpAny_of_eq (PySem.F.newCall_set_1 v) (hEq ⟨hFq PySem.F.plain_set_new _,hF3 PySem.F.entry_set_new ?_⟩));rw[Around.under_plainId PySem.F.plain_set_new _];unfold Builtin.«set.__new__» Builtin.Frozenset.newClass;have hsub:=sub_set_self;obtain⟨hp,g,d,tk,os⟩:=s;dsimp only
 wp_walk
 refine hF5 (hEq ?_);dsimp only;simp only[newObj];exact hEp (wpAny_alloc (hEq (hEq h)))
theorem qSv(hh:A.handled=none)(hl:s.heap.IsList l items)(hi:StrsAre items.toList ss0)(hb:items.size+1<scanBound)
  (h:∀(h':Heap) (tk:Nat) (ss:List Str),qBw P w h' s.heap.objs.size ss->qS9 (λi=>ss0.getD i default) items.size ss->(∀b o,b<s.heap.objs.size->s.heap.get? b=some o->h'.get? b=some o)->Q (.ref s.heap.objs.size) { s with heap:=h',toks:=tk }) :
  wpAny (model P w) A (call (.type "set") [.ref l]) Q E s:=by
 obtain⟨c,tl,hmro⟩:=hBn.mro;have hmade:=hBn.made;have hsub:=hBn.sub;refine wpAny_call (hGb ?_);show wpAny _ _ (callAny (.type "set") _) _ _ _;refine hEq ⟨Code.quiet_builtin _ (by decide +kernel),hF3 PySem.F.entry_type_call ?_⟩;rw[Around.under_plain (weight_type_call_type "set" [.ref l] []) rfl];have h1:=hBn.notType;have h2:=hBn.canCreate;have hct:=PySem.F.typeCall_set_1 (.ref l)
 repeat (any_goals (first|assumption|wp_step))
 refine hFw (qLd (.ref l) (E:=E) (Q1:=λobj s1=>obj = .ref s.heap.objs.size/\s1={ s with heap:=s.heap.push (qGs w) }) ⟨rfl,rfl⟩) λr s1 hr=>?_
 cases r with
 |error e=>exact hr
 |ok fl =>
  cases fl with
  |ret obj =>
   obtain⟨rfl,rfl⟩:=hr;have hS:(s.heap.push (qGs w)).get? s.heap.objs.size=some (qGs w):=Heap.get?_push_size _ rfl;have hT:Shared.TypeIs { s with heap:=s.heap.push (qGs w) } (.ref s.heap.objs.size) "set":=⟨_,hS,rfl⟩;have hli:=hBn.init.lookup;have hbi:=hBn.init.bind (.ref s.heap.objs.size)
   repeat (any_goals (first|assumption|wp_step))
   refine hFw (codeAny_call_builtin (R:=wants (λr s2=>r = .none/\∃h' tk ss,s2={ s with heap:=h',toks:=tk }/\qBw P w h' s.heap.objs.size ss/\qS9 (λi=>ss0.getD i default) items.size ss /\
     (∀b o,b<s.heap.objs.size->s.heap.get? b=some o->h'.get? b=some o)) E) hBn.init.plain PySem.F.entry_set_init (check_set_init_1 hT ?_)) λr2 s2 hr2=>?_
   ·obtain⟨ol,hol,hcl,nl,hdl⟩:=hl;obtain⟨ocls,odict,odata,oslots⟩:=ol;simp only at hcl hdl;subst hcl;subst hdl;have hol':(s.heap.push (qGs w)).get? l=some { cls:=.type "list",dict:=odict,data:=.seq items nl,slots:=oslots }:=Heap.get?_push_of_some _ hol;have hsls:=PySem.F.sub_list_set;have hslf:=PySem.F.sub_list_frozenset;have hne:(Value.type "list" == Value.type "dict")=false:=by decide
    have hl1:(s.heap.push (qGs w)).IsList l items:=⟨_,hol',rfl,nl,rfl⟩;unfold Builtin.«set.__init__» noKeywords Builtin.Frozenset.updateFrom;generalize hPI:pyIter=PI
    wp_walk
    subst hPI;refine hFc hl1 (hEp (hG7 ?_));have lS:l<s.heap.objs.size:=Heap.lt_size hol;have h3:A.in1.in1.in1.handled=none:=by simp[hh]
    have nI:l≠(s.heap.push (qGs w)).objs.size:=by
     rw[Heap.size_push];exact hAt (hB5 lS)
    have nF:s.heap.objs.size∉[(s.heap.push (qGs w)).objs.size,l]:=by
     rw[Heap.size_push];simp only[hAg,hAd,hC6,hFv,not_or];exact⟨hAt (hBp _),hCn lS⟩
    have hval:∀(i:Nat) (v:Value),items[i]?=some v->∃t,v = .str ((λi=>ss0.getD i default) i) t:=λi v hv=>by
     have hv':items.toList[i]?=some v:=by rw[hB0];exact hv
     obtain⟨x,t,rfl⟩:=hi.all v (hAs hv');refine⟨t,?_⟩;have e:=congrArg (λz=>z[i]?) hi.strs;simp only[hAc,hv']at e;show Value.str x t=Value.str (ss0.getD i default) t;rw[hAa,<-e];rfl
    refine qPy ((Walks.list h3 _ l nI items).toS) s.heap.objs.size nF (λi=>ss0.getD i default) hval hb (items.size-0) 0 _ [] (by omega) (hAy _) ⟨⟨_,Heap.get?_push_size _ rfl,rfl,rfl⟩,(hl1.push _)⟩ (qQc P w (Heap.get?_push_of_some _ hS)) (qS9.zero _) λs' ss' hm hS' hO=>?_
    obtain⟨h',g',d',tk',os'⟩:=s';cases(show g'=s.gens from hm.gens);cases(show d'=s.drawn from hm.drawn);cases(show os'=s.os from hm.os);show wpAny _ _ _ _ _ _;refine hEq ?_;show wpAny _ _ (ret Value.none) _ _ _;refine hEq ⟨rfl,h',tk',ss',rfl,hS',hO,λb o hb e=>?_⟩;have b1:b≠s.heap.objs.size:=hAt hb;have b2:b≠(s.heap.push (qGs w)).objs.size:=by
     rw[Heap.size_push];exact hAt (hB5 hb)
    exact hm.heap b o (by simp only[hAg,hAd,hC6,hFv,not_or];exact⟨b1,b2⟩) (Heap.get?_push_of_some _ (Heap.get?_push_of_some _ e))
   ·cases r2 with
    |error e=>exact hr2
    |ok fl2 =>
     cases fl2 with
     |ret r =>
      obtain⟨rfl,h',tk,ss,rfl,hS',hO,hk'⟩:=hr2
      repeat (any_goals (first|assumption|wp_step))
      exact h _ _ _ hS' hO hk'
     |_=>exact hr2.elim
  |_=>exact hr.elim
end
namespace FS
theorem entry_set_iter':entryFor table "set.__iter__"=some Builtin.«frozenset.__iter__»:=entryFor_alias (id':="frozenset.__iter__") (by kernel_rfl) rfl (by decide +kernel) (by kernel_rfl)
theorem slot_sin:Slot "set_iterator" "__next__" "set_iterator.__next__":=.of (owner:="set_iterator") (n:="__next__") (by rw[typeLookup_type,builtinLookup_eq_fast];kernel_rfl) (by decide +kernel) (by decide +kernel) (by decide +kernel) (by first|exact .inl (by decide +kernel)|exact .inr (by decide +kernel)) (by rw[isSubtype_type];kernel_rfl)
theorem entry_sin:entryFor table "set_iterator.__next__"=some Builtin.«set_iterator.__next__»:=entryFor_of_tree (by kernel_rfl)
theorem qOb:Manifest.owners.lookup (String.ofList ['r','o','t','a','r','e','t','i','_','t','e','s'].reverse)=some Manifest.sig_set_iterator:=by kernel_rfl
theorem args_sin(a:Value):argsOk "set_iterator.__next__" ⟨[a],[]⟩:=by
 unfold argsOk;rw[signature?_of (id:="set_iterator.__next__") (n:=['_','_','t','x','e','n','_','_']) (o:=['r','o','t','a','r','e','t','i','_','t','e','s']) (by kernel_rfl) qOb];kernel_rfl
theorem slot_sii:Slot "set_iterator" "__iter__" "set_iterator.__iter__":=.of (owner:="set_iterator") (n:="__iter__") (by rw[typeLookup_type,builtinLookup_eq_fast];kernel_rfl) (by decide +kernel) (by decide +kernel) (by decide +kernel) (by first|exact .inl (by decide +kernel)|exact .inr (by decide +kernel)) (by rw[isSubtype_type];kernel_rfl)
theorem entry_sii:entryFor table "set_iterator.__iter__"=some Builtin.«dict_keyiterator.__iter__»:=entryFor_alias (id':="dict_keyiterator.__iter__") (by kernel_rfl) (by first|rfl|decide +kernel|(unfold String.splitOn;simp +decide [String.splitOnAux])) (by decide +kernel) (by kernel_rfl)
theorem args_sii(a:Value):argsOk "set_iterator.__iter__" ⟨[a],[]⟩:=by
 unfold argsOk;rw[signature?_of (id:="set_iterator.__iter__") (n:=['_','_','r','e','t','i','_','_']) (o:=['r','o','t','a','r','e','t','i','_','t','e','s']) (by kernel_rfl) qOb];kernel_rfl
end FS
theorem qFy:∀(l:List α) (i:Nat) (x:α),l[i]?=some x->(x :: l.eraseIdx i).Perm l
 |[],i,x,h=>by simp at h
 |y :: l,0,x,h=>by simp at h;subst h;exact hDc _
 |y :: l,i+1,x,h=>by
  have q:=qFy l i x (by simpa using h);rw[List.eraseIdx_cons_succ];exact(List.Perm.swap y x _).trans (q.cons y)
section
variable{M:Model}{A:Around}{E:Value->Shared->Prop}{s:Shared}
theorem qPu(hn:n≠0)(h:∀i d,i<n->Q i { s with drawn:=d }):wpAny M A (choose src n) Q E s:=fun Γ p _=>⟨hn,h _ _ (Nat.mod_lt _ (Nat.pos_of_ne_zero hn))⟩
theorem qDu:∀(n:Nat) (xs:List α) (s:Shared) (Q:List α->Shared->Prop),xs.length=n->(∀ys d,ys.Perm xs->Q ys { s with drawn:=d })->wpAny M A (drawOrder n xs) Q E s
 |0,xs,s,Q,hl,h=>by
  have e:xs=[]:=hD2.mp hl;subst e;exact hEq (h [] s.drawn (hDc _))
 |n+1,[],s,Q,hl,h=>by simp at hl
 |n+1,y :: ys,s,Q,hl,h=>by
  show wpAny M A (choose .order (y :: ys).length >>= _) Q E s;refine hEp (qPu (by simp) λi d hi=>?_);have e:(y :: ys)[i]?=some (y :: ys)[i]:=hA8 hi;rw[e];dsimp only;have p:=qFy (y :: ys) i _ e;refine hEp (qDu n ((y :: ys).eraseIdx i) _ _ ?_ λzs d2 pz=>hEq (h _ d2 ((pz.cons _).trans p)));have:=p.length_eq;simp only[hBg]at this hl ⊢;omega
end
theorem qQ3(next:Nat->Nat):∀(n k:Nat) (left:List α) (out:Array α),left.length=n->(pickOrder.go next n k left out).toList.Perm (out.toList++left)
 |0,k,left,out,hl=>by
  have e:left=[]:=hD2.mp hl;subst e;rw[pickOrder.go,hBr]
 |n+1,k,left,out,hl=>by
  rw[pickOrder.go];have hi:next k % left.length<left.length:=Nat.mod_lt _ (by omega);have e:left[next k % left.length]?=some left[next k % left.length]:=hA8 hi;rw[e];dsimp only;have p:=qFy left _ _ e;have l:=p.length_eq;simp only[hBg]at l;refine(qQ3 next n (k+1) _ _ (by omega)).trans ?_;rw[Array.toList_push,hCk];exact List.Perm.append_left _ p
theorem pick_perm(next:Nat->Nat)(xs:Array α):(pickOrder next xs).toList.Perm xs.toList:=by
 have q:=qQ3 next xs.size 0 xs.toList #[] (by simp)
 simpa [pickOrder] using q
section
variable{P:Program}{w:World}{A:Around}{E:Value->Shared->Prop}{s:Shared}{a:Addr}{es:Array (Int×Value)}{ep:Nat}{t:SetTable}
theorem qGm(ho:s.heap.get? a=some { cls:=.type "set",dict:=none,data:=.set es ep t,slots:=#[] })(hf:t.fits es.size=true)(h:Q (!w.params.followText "set-order" && (!t.plain && decide (es.size > 1))) s):wpAny (model P w) A (setDrawn a) Q E s:=by
 unfold setDrawn;refine hEp (hF7 ho rfl hf ?_);unfold setsByText;exact hEp (hEp (hF5 (hEq (hEq h))))
theorem qGl(ho:s.heap.get? a=some { cls:=.type "set",dict:=none,data:=.set es ep t,slots:=#[] })(hf:t.fits es.size=true)(hb:w.params.followText "set-order"=true)
  (h:Q (((pickOrder (w.params.setOrder a ep) es)[i]?).map λe=>(e.2,slot)) s):wpAny (model P w) A (setNext a slot i ep) Q E s:=by
 unfold setNext;refine hEp (hF7 ho rfl hf ?_);unfold setsByText;refine hEp (hEp (hF5 (hEq ?_)));show wpAny _ _ (if (w.params.followText "set-order")=true then _ else _) _ _ _;rw[hEs hb];rw[hEr (by simp)];unfold setWalk;refine hEp (hEp (hF7 ho rfl hf ?_));unfold setsByText;refine hEp (hEp (hF5 (hEq ?_)));show wpAny _ _ (if (w.params.followText "set-order")=true then _ else _) _ _ _;rw[hEs hb];exact hEp (hF5 (hEq (hEq h)))
theorem qLx(ho:s.heap.get? a=some { cls:=.type "set",dict:=none,data:=.set es ep t,slots:=#[] })(hf:t.fits es.size=true)(hb:w.params.followText "set-order"=false)(h1:es.size<=1)(hl:t.led=true)
  (h:Q (match es[SetTable.below t.place slot]?,t.place[SetTable.below t.place slot]? with|some (_,x),some j=>some (x,j+1)|_,_=>none) s):wpAny (model P w) A (setNext a slot i ep) Q E s:=by
 unfold setNext;refine hEp (hF7 ho rfl hf ?_);unfold setsByText;refine hEp (hEp (hF5 (hEq ?_)));show wpAny _ _ (if (w.params.followText "set-order")=true then _ else _) _ _ _;rw[hEr (by rw[hb];exact hAo)];show wpAny _ _ (if (!t.plain && decide (es.size > 1))=true then _ else _) _ _ _;rw[hEr (by rw[hC4];rintro⟨_,z⟩;have:=hEz z;omega)];refine hEp ?_;show wpAny _ _ (if (!t.led && !es.isEmpty)=true then _ else _) _ _ _;rw[hEr (by rw[hl];simp)];exact hEq (hEq h)
end
end L2
namespace L2
open PySem PySem.Spec PyProof.Rows
noncomputable abbrev sIt(a:Addr)(f0:Value)(i n ep:Nat):Obj:={ cls:=.type "set_iterator",dict:=none,data:=.fields #[f0,rawInt i,.ref a,rawInt n,rawInt ep],slots:=#[] }
noncomputable abbrev sOb(es:Array (Int×Value))(ep:Nat)(t:SetTable):Obj:={ cls:=.type "set",dict:=none,data:=.set es ep t,slots:=#[] }
section
variable{P:Program}{w:World}{A:Around}{E:Value->Shared->Prop}{s:Shared}{a I:Addr}{es:Array (Int×Value)}{ep:Nat}{t:SetTable}
theorem qNr{T:Obj}{Q:Fin->Shared->Prop}{f0:Value}{i n:Nat}{pre:Sem Unit}(hh:A.handled=none)(hI:s.heap.get? I=some (sIt a f0 i n ep))
  (hp:∀ {Q':Unit->Shared->Prop},(∀h1,Heap.SameBut I s.heap h1->(∃g0,h1.get? I=some (sIt a g0 i n ep))->Q' () { s with heap:=h1 })->wpAny (model P w) A pre Q' E s)
  (hE:∀h' e,Heap.ExtBut I s.heap h'->(∃o,h'.get? e=some o/\o.cls = .type "StopIteration")->E (.ref e) { s with heap:=h' }) :
  wpAny (model P w) A (do pre;setField (.ref I) 2 .none;raiseNew (← newExc (.type "StopIteration") [])) Q E s:=by
 refine hEp (hp λh1 b1 hg=>?_);obtain⟨g0,hI1⟩:=hg;refine hEp (hF4 hI1 (by simp) λh2 hI2 b2=>?_);show wpAny _ _ (newExc (.type "StopIteration") [] >>= λe=>raiseNew e) _ _ _;refine hEp ?_;simp only[newExc,newTuple];refine hEp (hEw ?_ (by size_fits));refine hEp (m:=firstArgMember _ _) (wpAny_of_eq (a:=Value.none) (by first|rfl|(simp only[firstArgMember];rfl)) ?_);refine hEw ?_ (by size_fits);simp only[raiseNew];refine hEp (wpAny_handled ?_);rw[hh];exact hEp (hEq (wpAny_throw (hE _ _ (((b1.trans b2).extBut.push _).push _) ⟨_,Heap.get?_push_size _ rfl,rfl⟩)))
end
section
variable{P:Program}{w:World}{a I:Addr}{es:Array (Int×Value)}{ep:Nat}{t:SetTable}
theorem qEp(hne:a≠I)(hf:t.fits es.size=true)(order:List Value)(sl:Nat->Nat)
  (nx:∀(A:Around) (E:Value->Shared->Prop) (s:Shared) (Q:Option (Value×Nat)->Shared->Prop) (i:Nat),i<=order.length->s.heap.get? a=some (sOb es ep t)->Q ((order[i]?).map λx=>(x,sl (i+1))) s->wpAny (model P w) A (setNext a (sl i) i ep) Q E s) :
  ∀A:Around,A.handled=none->Walks P w A I [I,a] [I] order.length (λi v=>order[i]?=some v) (λi h=>h.get? I=some (sIt a (rawInt (sl i)) i es.size ep)/\h.get? a=some (sOb es ep t)):=λA hh=>{
 sub:=λb hb=>by simp at hb ⊢;exact .inl hb
 frame:=λi h h' st k=>⟨k I (by simp) _ st.1,k a (by simp) _ st.2⟩
 item:=λi s Q E hi st hQ=>by
  obtain⟨hI,ho⟩:=st;have hT:s.TypeIs (.ref I) "set_iterator":=⟨_,hI,rfl⟩;unfold pyNext;refine hEp (hFr (wpAny_callSpecial?_slot (name:=Str.ofString "__next__") hT FS.slot_sin (hEx FS.slot_sin hT FS.entry_sin ?_ (FS.args_sin _))));unfold Builtin.«set_iterator.__next__»;refine hEp (hEq (hEp (hFj hI rfl ?_)));show wpAny _ _ (setEntries a >>= _) _ _ _;refine hEp (hFe ho rfl hf ?_);rw[hEr (by simp)];show wpAny _ _ (setNext a (sl i) i ep >>= _) _ _ _;refine hEp (nx _ _ s _ i (hBz hi) ho ?_);rw[hA8 hi];show wpAny _ _ (setField (.ref I) 0 (rawInt (sl (i+1))) >>= _) _ _ _;refine hEp (hF4 hI (by simp) λh1 hI1 b1=>hEp (hF4 hI1 (by simp) λh2 hI2 b2=>?_));refine hEq ⟨_,rfl,hEq (hQ _ h2 s.toks (hA8 hi) ⟨hI2,?_⟩ λb o hb e=>?_)⟩
  ·exact b2.extBut _ _ hne (b1.extBut _ _ hne ho)
  ·have nb:b≠I:=by simpa using hb
   exact b2.extBut _ _ nb (b1.extBut _ _ nb e)
 done:=λs Q E st hQ=>by
  obtain⟨hI,ho⟩:=st;have hT:s.TypeIs (.ref I) "set_iterator":=⟨_,hI,rfl⟩;unfold pyNext;refine hEp (hFr (wpAny_callSpecial?_slot (name:=Str.ofString "__next__") hT FS.slot_sin (hEx FS.slot_sin hT FS.entry_sin ?_ (FS.args_sin _))));unfold Builtin.«set_iterator.__next__»;refine hEp (hEq (hEp (hFj hI rfl ?_)));show wpAny _ _ (setEntries a >>= _) _ _ _;refine hEp (hFe ho rfl hf ?_);rw[hEr (by simp)];show wpAny _ _ (setNext a (sl order.length) order.length ep >>= _) _ _ _;refine hEp (nx _ _ s _ order.length (hAj _) ho ?_);rw[hC2 (hAj _)];refine qNr (pre:=pure ()) (T:=sOb es ep t) (by exact hh) hI (λq=>hEq (q _ (Heap.SameBut.refl ..) ⟨_,hI⟩)) λh' e k he=>?_
  obtain⟨oe,h1,h2⟩:=he;refine hEp (hFt (T:="StopIteration") (b:=true) ⟨oe,h1,h2⟩ hGc (hEq (hQ _ s.toks λb o hb e=>k _ _ (by simpa using hb) e)))
 self:=λi s Q E st hQ=>by
  have hT:s.TypeIs (.ref I) "set_iterator":=⟨_,st.1,rfl⟩;refine hF8 hT FS.slot_sii (hEx FS.slot_sii hT FS.entry_sii ?_ (FS.args_sii _));exact hEq ⟨_,rfl,"set_iterator",_,hT,FS.slot_sin.lookup,hQ⟩ }
end
noncomputable abbrev tOb(xs:Array Value):Obj:={ cls:=.type "tuple",data:=.seq xs }
section
variable{P:Program}{w:World}{a I T:Addr}{es:Array (Int×Value)}{ep:Nat}{t:SetTable}
theorem qJ0(hne:a≠I)(hT0:T≠I)(hf:t.fits es.size=true)(ps:List Nat)(order:List Value)(hl:order.length=ps.length)(hp:∀(i p:Nat),ps[i]?=some p->∃k x,es[p]?=some (k,x)/\order[i]?=some x) :
  ∀A:Around,A.handled=none->Walks P w A I [I,a,T] [I] order.length (λi v=>order[i]?=some v) (λi h=>h.get? I=some (sIt a (.ref T) i es.size ep)/\h.get? a=some (sOb es ep t)/\h.get? T=some (tOb (ps.map λ(p:Nat)=>rawInt p).toArray)):=λA hh=>{
 sub:=λb hb=>by simp at hb ⊢;exact .inl hb
 frame:=λi h h' st k=>⟨k I (by simp) _ st.1,k a (by simp) _ st.2.1,k T (by simp) _ st.2.2⟩
 item:=λi s Q E hi st hQ=>by
  obtain⟨hI,ho,hTt⟩:=st;have hT:s.TypeIs (.ref I) "set_iterator":=⟨_,hI,rfl⟩;unfold pyNext;refine hEp (hFr (wpAny_callSpecial?_slot (name:=Str.ofString "__next__") hT FS.slot_sin (hEx FS.slot_sin hT FS.entry_sin ?_ (FS.args_sin _))));unfold Builtin.«set_iterator.__next__»;refine hEp (hEq (hEp (hFj hI rfl ?_)));show wpAny _ _ (setEntries a >>= _) _ _ _;refine hEp (hFe ho rfl hf ?_);rw[hEr (by simp)];show wpAny _ _ (seqItems? (.ref T) >>= _) _ _ _;refine hEp (wpAny_seqItems hTt rfl ?_);have hip:i<ps.length:=by rw[<-hl];exact hi
  obtain⟨k,x,h1,h2⟩:=hp i _ (hA8 hip);have e1:((ps.map λ(p:Nat)=>rawInt p).toArray)[i]?=some (rawInt ((ps[i]:Nat):Int)):=by simp[hip]
  show wpAny _ _ (match ((ps.map λ(p:Nat)=>rawInt p).toArray)[((i:Int)).toNat]? with|some (.int place _)=>_|some _=>_|none=>_) _ _ _;rw[hB8,e1];show wpAny _ _ (setNextDrawn a ps[i] ep >>= _) _ _ _;unfold setNextDrawn;refine hEp (hEp (hF7 ho rfl hf ?_));dsimp only;rw[hEr (by simp),h1];refine hEq (hEp (hF4 hI (by simp) λh3 hI3 b3=>?_));refine hEq ⟨_,rfl,hEq (hQ _ h3 s.toks h2 ⟨hI3,b3.extBut _ _ hne ho,b3.extBut _ _ hT0 hTt⟩ λb o hb e=>b3.extBut _ _ (by simpa using hb) e)⟩
 done:=λs Q E st hQ=>by
  obtain⟨hI,ho,hTt⟩:=st;have hT:s.TypeIs (.ref I) "set_iterator":=⟨_,hI,rfl⟩;unfold pyNext;refine hEp (hFr (wpAny_callSpecial?_slot (name:=Str.ofString "__next__") hT FS.slot_sin (hEx FS.slot_sin hT FS.entry_sin ?_ (FS.args_sin _))));unfold Builtin.«set_iterator.__next__»;refine hEp (hEq (hEp (hFj hI rfl ?_)));show wpAny _ _ (setEntries a >>= _) _ _ _;refine hEp (hFe ho rfl hf ?_);rw[hEr (by simp)];show wpAny _ _ (seqItems? (.ref T) >>= _) _ _ _;refine hEp (wpAny_seqItems hTt rfl ?_);have e1:((ps.map λ(p:Nat)=>rawInt p).toArray)[order.length]?=none:=by simp[hl]
  show wpAny _ _ (match ((ps.map λ(p:Nat)=>rawInt p).toArray)[((order.length:Int)).toNat]? with|some (.int place _)=>_|some _=>_|none=>_) _ _ _;rw[hB8,e1];refine qNr (pre:=setField (.ref I) 0 (rawInt 0)) (T:=sOb es ep t) (by exact hh) hI (λq=>hF4 hI (by simp) λh1 hI1 b1=>q _ b1 ⟨_,hI1⟩) λh' e k he=>?_
  obtain⟨oe,h1,h2⟩:=he;refine hEp (hFt (T:="StopIteration") (b:=true) ⟨oe,h1,h2⟩ hGc (hEq (hQ _ s.toks λb o hb e=>k _ _ (by simpa using hb) e)))
 self:=λi s Q E st hQ=>by
  have hT:s.TypeIs (.ref I) "set_iterator":=⟨_,st.1,rfl⟩;refine hF8 hT FS.slot_sii (hEx FS.slot_sii hT FS.entry_sii ?_ (FS.args_sii _));exact hEq ⟨_,rfl,"set_iterator",_,hT,FS.slot_sin.lookup,hQ⟩ }
end
theorem qU0(h:j<=p):SetTable.below #[p] j=0:=by
 unfold SetTable.below;show SetTable.below.go #[p] j 1 0 1=0;unfold SetTable.below.go;have e:¬(#[p]:Array Nat).getD ((0+1) / 2) j<j:=by show ¬p<j;omega
 rw[hEs (by decide)];dsimp only;rw[hEr e];rfl
theorem qU1(h:p<j):SetTable.below #[p] j=1:=by
 unfold SetTable.below;show SetTable.below.go #[p] j 1 0 1=1;unfold SetTable.below.go;have e:(#[p]:Array Nat).getD ((0+1) / 2) j<j:=by show p<j;omega
 rw[hEs (by decide)];dsimp only;rw[hEs e];rfl
theorem qS2(j:Nat):SetTable.below #[] j=0:=rfl
section
variable{P:Program}{w:World}{A:Around}{E:Value->Shared->Prop}{s:Shared}{a:Addr}{ss:List Str}
theorem qRx(hS:qBw P w s.heap a ss)
  (h:∀(I:Addr) (fp:List Addr) (vs:List Value) (ss1:List Str) (St:Nat->Heap->Prop) (h1:Heap) (d:Drawn),StrsAre vs ss1->ss1.Perm ss->(∀b o,s.heap.get? b=some o->h1.get? b=some o)->(∀A:Around,A.handled=none->Walks P w A I fp [I] vs.length (λi v=>vs[i]?=some v) St) ->
   St 0 h1->I∈fp->(∀b∈fp,b<h1.objs.size/\(b=a\/s.heap.objs.size<=b))->s.heap.objs.size<=I->s.heap.objs.size<=h1.objs.size->Q (.ref I) { s with heap:=h1,drawn:=d }):wpAny (model P w) A (pyIter (.ref a)) Q E s:=by
 obtain⟨es,ep,t,ho,e1,e2,e3,e4,e5,e6⟩:=hS;have hT:s.TypeIs (.ref a) "set":=⟨_,ho,rfl⟩;have ha:a<s.heap.objs.size:=Heap.lt_size ho;have hp4:t.place.size=es.size:=by
  unfold SetTable.fits at e4;rw[hC4]at e4;exact eq_of_beq e4.1
 refine hF8 hT hEh (hEx hEh hT FS.entry_set_iter' ?_ (PySem.F.args_set_iter_1 _));unfold Builtin.«frozenset.__iter__» Builtin.Frozenset.slot0;refine hEp (hEp (hEq (hEq ?_)));unfold Builtin.Frozenset.sizeOf;refine hEp (hEp (hFe ho rfl e4 (hEq ?_)));refine hEp (qGm ho e4 ?_);dsimp only;cases hb:w.params.followText "set-order" with
 |true =>
  rw[hEr (by simp)];refine hEp (hEq (hEp (hFn ho rfl e4 ?_)));show wpAny _ _ (newFields "set_iterator" _ >>= _) _ _ _;refine hEp (hEw (hEq ⟨_,rfl,"set_iterator",_,⟨_,Heap.get?_push_size _ rfl,rfl⟩,FS.slot_sin.lookup,?_⟩) (by show 5<=_;decide));have p:=pick_perm (w.params.setOrder a ep) es;obtain⟨ss1,q1,q2⟩:=qFj e2 p;refine h s.heap.objs.size [s.heap.objs.size,a] _ ss1 _ _ s.drawn q1 q2 (λb o e=>Heap.get?_push_of_some _ e) (qEp (ep:=ep) (es:=es) (t:=t) (hAt ha) e4 _ (λ_=>0) ?_) ⟨Heap.get?_push_size _ rfl,Heap.get?_push_of_some _ ho⟩ (by simp) ?_ (hAj _) (by rw[Heap.size_push];exact hBl _)
  ·intro A' E' s' Q' i hi ho' hq;refine qGl ho' e4 hb ?_;rw[hAc,hB0,Option.map_map]at hq;exact hq
  ·intro b hbm;rw[Heap.size_push];simp at hbm;rcases hbm with rfl|rfl
   ·exact⟨hBp _,.inr (hAj _)⟩
   ·exact⟨hB5 ha,.inl rfl⟩
 |false =>
  have led:t.led=true:=by rw[e5,hb];rfl
  by_cases hz:es.size > 1
  ·have pl:t.plain=false:=e6 (by omega);rw[hEs (by rw[pl,hEt hz];rfl)];refine hEp (qDu es.size (List.range es.size) s _ (by simp) λps d pp=>?_);refine hEp (hG8 (s:={ s with drawn:=d }) ?_ (by rw[hA4,pp.length_eq,hB1];exact hF6 e3));have ho1:(s.heap.push (tOb (ps.map λ(p:Nat)=>rawInt p).toArray)).get? a=some (sOb es ep t):=Heap.get?_push_of_some _ ho;refine hEp (hFn (s:={ s with heap:=s.heap.push (tOb (ps.map λ(p:Nat)=>rawInt p).toArray),drawn:=d }) ho1 rfl e4 ?_);show wpAny _ _ (newFields "set_iterator" _ >>= _) _ _ _;refine hEp (hEw (hEq ⟨_,rfl,"set_iterator",_,⟨_,Heap.get?_push_size _ rfl,rfl⟩,FS.slot_sin.lookup,?_⟩) (by show 5<=_;decide));have hlt:∀p∈ps,p<es.size:=λp hm=>hAw.mp (pp.mem_iff.mp hm)
   have ep1:(ps.filterMap λp=>es[p]?).Perm es.toList:=by
    have q:=pp.filterMap λp=>es[p]?
    rw[filterMap_getElem?_range]at q;exact q
   have hfm:∀l:List Nat,(∀p∈l,p<es.size)->(l.filterMap λp=>es[p]?).length=l.length/\∀(i p:Nat),l[i]?=some p->∃k x,es[p]?=some (k,x)/\((l.filterMap λp=>es[p]?).map (·.2))[i]?=some x:=by
    intro l
    induction l with
    |nil=>intro _;exact⟨rfl,λi p z=>by simp at z⟩
    |cons c l ih =>
     intro hm;obtain⟨i1,i2⟩:=ih λp hp=>hm p (hAe _ hp)
     have hcl:c<es.size:=hm c hAb;have hc:es[c]?=some es[c]:=hAv hcl;rw[hCv,hc];refine⟨by simp[i1],λi p z=>?_⟩;cases i with
     |zero =>
      have e:c=p:=by simpa using z
      subst e;exact⟨_,_,hc,by simp⟩
     |succ i =>
      obtain⟨k,x,a1,a2⟩:=i2 i p (by simpa using z);exact⟨k,x,a1,by simpa using a2⟩
   obtain⟨f1,f2⟩:=hfm ps hlt;obtain⟨ss1,q1,q2⟩:=qFj e2 ep1;have sz1:(s.heap.push (tOb (ps.map λ(p:Nat)=>rawInt p).toArray)).objs.size=s.heap.objs.size+1:=Heap.size_push ..;refine h (s.heap.push (tOb (ps.map λ(p:Nat)=>rawInt p).toArray)).objs.size [(s.heap.push (tOb (ps.map λ(p:Nat)=>rawInt p).toArray)).objs.size,a,s.heap.objs.size] _ ss1 _ _ d q1 q2 (λb o e=>Heap.get?_push_of_some _ (Heap.get?_push_of_some _ e))
    (qJ0 (ep:=ep) (es:=es) (t:=t) (T:=s.heap.objs.size) ?_ ?_ e4 ps _ (by rw[hA4,f1]) f2) ⟨Heap.get?_push_size _ rfl,Heap.get?_push_of_some _ ho1,Heap.get?_push_of_some _ (Heap.get?_push_size _ rfl)⟩ (by simp) ?_ ?_ ?_
   ·rw[sz1];exact hAt (hB5 ha)
   ·rw[sz1];exact hAt (hBp _)
   ·intro b hbm;rw[Heap.size_push,sz1];rw[sz1]at hbm;simp at hbm;rcases hbm with rfl|rfl|rfl
    ·exact⟨hBp _,.inr (hBl _)⟩
    ·exact⟨hB5 (hB5 ha),.inl rfl⟩
    ·exact⟨hB5 (hBp _),.inr (hAj _)⟩
   ·rw[sz1];exact hBl _
   ·rw[Heap.size_push,sz1];exact Nat.le_succ_of_le (hBl _)
  ·rw[hEr (by rw[hEu hz];simp)];refine hEp (hEq (hEp (hFn ho rfl e4 ?_)));show wpAny _ _ (newFields "set_iterator" _ >>= _) _ _ _;refine hEp (hEw (hEq ⟨_,rfl,"set_iterator",_,⟨_,Heap.get?_push_size _ rfl,rfl⟩,FS.slot_sin.lookup,?_⟩) (by show 5<=_;decide));refine h s.heap.objs.size [s.heap.objs.size,a] _ ss _ _ s.drawn e2 (hDc _) (λb o e=>Heap.get?_push_of_some _ e) (qEp (ep:=ep) (es:=es) (t:=t) (hAt ha) e4 _ (λi=>if i=0 then 0 else t.place.getD 0 0+1) ?_) ⟨Heap.get?_push_size _ rfl,Heap.get?_push_of_some _ ho⟩ (by simp) ?_ (hAj _) (by rw[Heap.size_push];exact hBl _)
   ·intro A' E' s' Q' i hi ho' hq;refine qLx ho' e4 hb (by omega) led ?_;rw[hA4,hBb]at hi;rcases Nat.lt_or_ge es.size 1 with z0|z1
    ·have e0:es=#[]:=Array.eq_empty_of_size_eq_zero (by omega);have p0:t.place=#[]:=Array.eq_empty_of_size_eq_zero (by omega);subst e0;rw[p0]at hq ⊢;rw[qS2]
     simpa using hq
    ·have z:es.size=1:=by omega
     obtain⟨x,e0⟩:∃x,es=#[x]:=by
      have:=Array.size_eq_one_iff.mp z;exact this
     obtain⟨p,p0⟩:∃p,t.place=#[p]:=Array.size_eq_one_iff.mp (by omega);subst e0;rw[p0]at hq ⊢;obtain⟨k,x⟩:=x;by_cases i0:i=0
     ·subst i0;rw[hEs rfl,qU0 (hAy _)]
      simpa using hq
     ·have i1:i=1:=by simp at hi;omega
      subst i1;rw[hEr (by decide)];show Q' (match (#[(k,x)]:Array (Int×Value))[SetTable.below #[p] (p+1)]?,(#[p]:Array Nat)[SetTable.below #[p] (p+1)]? with|some (_,x),some j=>some (x,j+1)|_,_=>none) s';rw[qU1 (hBp _)]
      simpa using hq
   ·intro b hbm;rw[Heap.size_push];simp at hbm;rcases hbm with rfl|rfl
    ·exact⟨hBp _,.inr (hAj _)⟩
    ·exact⟨hB5 ha,.inl rfl⟩
end
section
variable{X:Cx}{aB:List (Addr×Obj)}{σ:St}{H:Hp}{s:Shared}{h':Heap}
theorem Inv.turnedT{t':Nat}{d':Drawn}{ch:List Addr}{a:Addr}{o:HO}(I:Inv X aB σ H s)(k:∀b u,b∉ch->s.heap.get? b=some u->h'.get? b=some u)(f:∀b∈ch,qJw X aB H b)(hp:s.heap.objs.size<=a)(new:qB9 X.prog X.w (upd H a o) h' a o) :
  Inv X aB σ (upd H a o) { s with heap:=h',toks:=t',drawn:=d' }:=by
 have nit:∀b u,H b=some u->b∉ch:=λb u e z=>by rw[(f b z).1]at e;cases e
 have hn:H a=none:=I.hok.fresh hp;refine I.step (g':=s.gens) (d':=d') (ch:=ch) (λb hb=>?_) (λb u _ _ hc e _=>k b u hc e) (λb u _ _ hc e _=>⟨u.slots,k b u hc e⟩) (λb u _ e n=>?_) (λb u hc e=>⟨u,k b u hc e⟩) (λb xs q=>by rw[qAb (qAp q hn)];exact q) (λb u v q=>by rw[qAb (qAp q hn)];exact q)
  (λb ps q=>⟨#[],by rw[qAb (qAp q hn),q];simp⟩) (λm hm=>?_) (λb u e=>?_) I.bare
 ·obtain⟨_,f1,_,f3,f4,f5⟩:=f b hb;exact⟨f3,f1,f4,f5⟩
 ·rw[qAb (hAt (hBc (Heap.lt_size e) hp))];exact n
 ·obtain⟨ob,es,ep,ho,r⟩:=hm;exact⟨ob,es,ep,k _ ob (λz=>(f _ z).2.1 rfl) ho,r⟩
 ·by_cases hb:b=a
  ·subst hb;rw[upd_same]at e;cases e;exact new
  ·rw[qAb hb]at e;refine(I.hok b u e).stay (λc v hc q=>k c v ?_ q) (λc q=>by rw[qAb (qAp q hn)];exact q) λc xs q=>by rw[qAb (qAp q hn)];exact q
   rcases hc with z|z
   ·rw[z];exact nit b u e
   ·exact nit c _ z
end
section
variable{P:Program}{w:World}{A:Around}{E:Value->Shared->Prop}{s:Shared}{a:Addr}{ss:List Str}
theorem qLc(hh:A.handled=none)(hS:qBw P w s.heap a ss)
  (h:∀(vs:List Value) (ss1:List Str) (h1:Heap) (tk:Nat) (d:Drawn),StrsAre vs ss1->ss1.Perm ss->(∀b o,s.heap.get? b=some o->h1.get? b=some o)->s.heap.objs.size<=h1.objs.size->Q vs { s with heap:=h1,toks:=tk,drawn:=d }):wpAny (model P w) A (collect (.ref a)) Q E s:=by
 unfold collect;refine hEp (hG7 (hF3 PySem.F.entry_proto_collect ?_));rw[Around.under_plainId PySem.F.plain_proto_collect _];show wpAny _ A.in1 (newList [] >>= λl=>again (.builtin "list.__iadd__" ⟨[l,.ref a],[]⟩)) _ _ _;refine hEp (hEw ?_);refine hEq ⟨hFq hE5 _,hF3 PySem.F.entry_list_iadd ?_⟩;rw[Around.under_plainId hE5 _];have hS1:qBw P w (s.heap.push (seqObj "list" #[] 0)) a ss:=hS.at λo e=>Heap.get?_push_of_some _ e
 have hL1:(s.heap.push (seqObj "list" #[] 0)).get? s.heap.objs.size=some (seqObj "list" #[] 0):=Heap.get?_push_size _ rfl;have hT:∀s':Shared,qBw P w s'.heap a ss->s'.TypeIs (.ref a) "set":=λs' z=>by
  obtain⟨es,ep,t,ho,_⟩:=z;exact⟨_,ho,rfl⟩
 have ha:a<s.heap.objs.size:=by
  obtain⟨es,ep,t,ho,_⟩:=hS;exact Heap.lt_size ho
 have hz:ss.length<scanBound:=by
  obtain⟨es,ep,t,_,_,e2,e3,_⟩:=hS;rw[<-e2.strs,hA4,hA4,hBb];exact e3
 have hne:Builtin.List.listSameRef (.ref s.heap.objs.size) (.ref a)=false:=by
  show(s.heap.objs.size == a)=false;exact beq_eq_false_iff_ne.mpr (hCn ha)
 show wpAny _ A.in1 (Builtin.List.listExtendWith (.ref s.heap.objs.size) (.ref a) (.ref s.heap.objs.size)) _ _ { s with heap:=s.heap.push (seqObj "list" #[] 0) };unfold Builtin.List.listExtendWith;refine hEp (wpAny_typeOf (hT _ hS1) ?_);rw[hEr (by rw[hne];decide)];refine hEp (qRx hS1 λI fp vs ss1 St h1 d q1 q2 q3 W st hI hfp hge hsz=>?_);have hS2:qBw P w h1 a ss:=hS1.at λo e=>q3 _ _ e
 have hL2:h1.get? s.heap.objs.size=some (seqObj "list" #[] 0):=q3 _ _ hL1;refine hEp (hEy ?_);unfold Builtin.List.listLengthHint;refine hEp (hGa (hT { s with heap:=h1,drawn:=d } hS2) PySem.F.slot_set_len.lookup ?_);dsimp only;rw[show splitId "set.__len__"=some ("set","__len__") from by decide +kernel];dsimp only;refine hEp (hFt (b:=true) (hT { s with heap:=h1,drawn:=d } hS2) sub_set_self ?_);rw[hEr (by decide),hEs (by decide +kernel)];refine hEp (wpAny_typeOf (hT { s with heap:=h1,drawn:=d } hS2) (hEq ?_));rw[hEs (by decide +kernel)];refine hEp (hFz ?_);unfold Builtin.List.listTouch;have hL3:=get?_update_seq hL2 (·.push .none);have hL4:=get?_update_seq hL3 (·.pop);refine hEp (hEp (hFs (s:={ s with heap:=h1,drawn:=d }) hL2 rfl (hFs (s:={ s with heap:=h1.update s.heap.objs.size (Obj.mapSeq (·.push .none)),drawn:=d }) hL3 rfl ?_)));have nS:s.heap.objs.size∉fp:=λz=>by
  rcases(hfp _ z).2 with e|e
  ·exact absurd e (hCn ha)
  ·rw[hG5]at e;exact absurd e (Nat.not_succ_le_self _)
 have upd2:∀b o,b≠s.heap.objs.size->h1.get? b=some o->((h1.update s.heap.objs.size (Obj.mapSeq (·.push .none))).update s.heap.objs.size (Obj.mapSeq (·.pop))).get? b=some o:=λb o hb e=>by
  rw[Heap.get?_update_ne _ _ _ _ hb,Heap.get?_update_ne _ _ _ _ hb];exact e
 have hv:vs.length<=sizeLine:=by
  have e1:=q2.length_eq;have e2:vs.length=ss1.length:=by rw[<-q1.strs,hA4]
  rw[e2,e1];exact hF6 hz
 have st3:=(W A.in1.in1.in1 (by exact hh)).frame 0 _ ((h1.update s.heap.objs.size (Obj.mapSeq (·.push .none))).update s.heap.objs.size (Obj.mapSeq (·.pop))) st λb hb o e=>upd2 b o (λz=>nS (z▸hb)) e
 refine hEq ⟨hFq PySem.F.plain_extend_loop _,codeAny_extend_loopS ((W _ (by exact hh)).toS) hv _ nS _ vs.length 0 _ _ _ rfl (hAy _) st3 hL4 (ItemsOf.nil _) λs' acc' c' hm hS' hacc=>?_⟩;show wpAny _ A (load s.heap.objs.size >>= _) _ _ s';refine hEp (wpAny_load hS' ?_);have eacc:acc'.toList=vs:=by
  refine hDk λi=>?_
  by_cases hi:i<vs.length
  ·have hi':i<acc'.size:=by rw[hacc.1];exact hi
   rw[hB0,hAv hi'];exact(hacc.2 i _ (hAv hi')).symm
  ·rw[hB0,hCg (by rw[hacc.1];omega),hC2 (by omega)]
 show wpAny _ A (pure acc'.toList) _ _ s';rw[eacc];obtain⟨h5,g5,d5,tk5,os5⟩:=s';cases(show g5=s.gens from hm.gens);cases(show d5=d from hm.drawn);cases(show os5=s.os from hm.os);have keep:∀b o,h1.get? b=some o->b≠s.heap.objs.size->b≠I->h5.get? b=some o:=λb o e n1 n2=>hm.heap b o (by simp only[hAg,hC6,hFv,not_or];exact⟨n1,n2⟩) (upd2 b o n1 e)
 refine hEq (h vs ss1 h5 tk5 d q1 q2 (λb o e=>?_) ?_)
 ·have lt:=Heap.lt_size e;refine keep b o (q3 b o (Heap.get?_push_of_some _ e)) (hAt lt) (hAt (hBc lt ?_));rw[hG5]at hge;exact Nat.le_of_succ_le hge
 ·exact hBz (Heap.lt_size hS')
end
noncomputable def qYj(P:Program)(w:World)(a:Addr)(ss:List Str):HO:=.ext λh=>qBw P w h a ss
section
variable{X:Cx}
theorem qSw(hc:X.calm=true):qCa X (.type "set") (λxs H Q=>∃(p:Addr) (ss0:List Str),xs=[.ref p]/\SqL X.K H p (ss0.map V.str)/\ss0.length<1000/\∀(r:Addr) (ss:List Str),H r=none->ss.Nodup->ss.length<=ss0.length->(∀x,x∈ss↔x∈ss0)->Q (.ref r) (upd H r (qYj X.prog X.w r ss))):=by
 intro aB s σ H xs us Q I r h;obtain⟨p,ss0,rfl,hq,hl,q⟩:=h;obtain⟨u,rfl,rx⟩:=qC8 r;cases rx;obtain⟨its,rv,pl,hz⟩:=I.list hq;have hlen:=rv.length;rw[hA4]at hlen;refine qSv (I.ok.hd hc) pl.isList (by simpa using qHw rv) (by have:scanBound=4096:=rfl;simp;omega) λh' tk ss hS hO hk=>?_
 obtain⟨o1,o2,o3⟩:=hO;rw[hAu,<-hlen]at o2 o3;refine⟨.ref s.heap.objs.size,_,I.laid (t':=tk) (a:=s.heap.objs.size) (o:=qYj X.prog X.w s.heap.objs.size ss) (λb o e=>hk b o (Heap.lt_size e) e) (hAj _) ⟨hS,?_,λh1 h2 z k=>z.at k⟩,rfl,q _ ss (I.hok.fresh (hAj _)) o1 o2 λx=>?_⟩
 ·obtain⟨es,ep,t,ho,_⟩:=hS;exact⟨_,ho⟩
 ·rw[o3 x,hDp];constructor
  ·rintro⟨j,hj,rfl⟩;exact⟨j,by show ss0[j]?=some (ss0.getD j default);rw[hAa,hA8 hj];rfl⟩
  ·rintro⟨j,hj⟩;exact⟨j,(hAz.mp hj).1,by show ss0.getD j default=x;rw[hAa,hj];rfl⟩
theorem qEd(hc:X.calm=true):qCa X (.builtin "sorted") (λxs H Q=>∃(p:Addr) (ss:List Str),xs=[.ref p]/\H p=some (qYj X.prog X.w p ss)/\ss.length<64/\∀(r:Addr) (ss':List Str),H r=none->ss'.Perm ss->sortedS ss'=true->Q (.ref r) (upd H r (.lst (ss'.map V.str)))):=by
 intro aB s σ H xs us Q I r h;obtain⟨p,ss,rfl,hp,h64,q⟩:=h;obtain⟨u,rfl,rx⟩:=qC8 r;cases rx;have hS:qBw X.prog X.w s.heap p ss:=(I.hok p _ hp).1;refine Calls.call_function_entry kind_sorted plain_sorted entry_sorted (args_sorted1 _) ?_;unfold Builtin.«sorted»;refine hEp (m:=checkCount "sorted" 1 1 _) (hEq (hEp (qLc (I.ok.hd hc) hS λvs ss1 h1 tk d a1 a2 a3 a4=>?_)));have hvl:vs.length=ss1.length:=by rw[<-a1.strs,hA4]
 have hl64:vs.length<64:=by rw[hvl,a2.length_eq];exact h64
 refine hEp (hG1 ?_ (by have:sizeLine > 64:=(by decide);omega));have hoL:(h1.push (seqObj "list" vs.toArray 0)).get? h1.objs.size=some (seqObj "list" vs.toArray 0):=Heap.get?_push_size _ rfl;refine hEp (hEy (hEx slot_list_sort ⟨_,hoL,rfl⟩ entry_list_sort (list_sort_treeK strKind_oneLt hoL a1.keysOf (λv1 v2 rest e=>keyKind_strs (by rw[<-e];exact a1)) hl64 λst' b1 b2=>⟨_,rfl,?_⟩) (args_list_sort _)));obtain⟨ss',c1,c2,c3⟩:=sorted_out_str a1 b1 b2;refine hEq ⟨_,rfl,?_⟩;have nz:H h1.objs.size=none:=I.hok.fresh a4;obtain⟨e,he⟩:=sortedHeap_at (out:=(arrOf st').map (·.2)) hoL;refine⟨.ref h1.objs.size,_,I.turnedT (t':=tk) (d':=d) (ch:=[]) (a:=h1.objs.size) (o:=.lst (ss'.map V.str)) (λb o _ eb=>?_) (λb z=>nomatch z) a4 ?_,rfl,q _ ss' nz (c2.trans a2) c3⟩
 ·have e1:=a3 b o eb;have lt:=Heap.lt_size e1;rw[sortedHeap_old (hAt lt) (by rw[hG5];exact hB5 lt)];exact Heap.get?_push_of_some _ e1
 ·refine⟨?_,((arrOf st').map (·.2)).toList,e,qH4 c1,he⟩;rw[hA4,c2.length_eq,a2.length_eq];exact hBz (qAd (by omega))
end
section
variable{X:Cx}{aB:List (Addr×Obj)}{σ:St}{H:Hp}{s:Shared}{h':Heap}
theorem Inv.turnedL{t':Nat}{ch:List Addr}(I:Inv X aB σ H s)(k:∀b u,b∉ch->s.heap.get? b=some u->h'.get? b=some u)(f:∀b∈ch,qJw X aB H b):Inv X aB σ H { s with heap:=h',toks:=t' }:=by
 have nit:∀b u,H b=some u->b∉ch:=λb u e z=>by rw[(f b z).1]at e;cases e
 refine I.step (g':=s.gens) (d':=s.drawn) (ch:=ch) (λb hb=>?_) (λb u _ _ hc e _=>k b u hc e) (λb u _ _ hc e _=>⟨u.slots,k b u hc e⟩) (λb u _ e n=>n) (λb u hc e=>⟨u,k b u hc e⟩) (λb xs q=>q) (λb u v q=>q) (λb ps q=>⟨#[],by rw[q];simp⟩) (λm hm=>?_) (λb u e=>?_) I.bare
 ·obtain⟨_,f1,_,f3,f4,f5⟩:=f b hb;exact⟨f3,f1,f4,f5⟩
 ·obtain⟨ob,es,ep,ho,r⟩:=hm;exact⟨ob,es,ep,k _ ob (λz=>(f _ z).2.1 rfl) ho,r⟩
 ·refine(I.hok b u e).stay (λc v hc q=>k c v ?_ q) (λc q=>q) λc xs q=>q
  rcases hc with z|z
  ·rw[z];exact nit b u e
  ·exact nit c _ z
end
noncomputable def Itp(n:Nat)(Ls:Hp->Prop)(xv:Nat->List V):It:=⟨λi H=>Ls H/\i<n,λi H x H'=>∃T,H T=none/\H'=upd H T (.tup (xv i))/\x = .ref T,λi H=>Ls H/\i=n⟩
theorem qOz{P:Program}{w:World}{K:PySem.W.Frag}{elts:List Expr}{ct:Nat}{pos:Pos}(it:Addr)(fp fpW wr:List Addr)(n:Nat)(Ls:Hp->Prop)(xv:Nat->List V)(tn:Nat->Heap->Prop)
  (hit:it∈fp) (hwr:∀b∈wr,b∈fp) (hobj:∀i h,tn i h->∀b∈fp,∃o,h.get? b=some o/\∀v,o.data≠.cell v) (hkeep:∀i h h',tn i h->(∀b∈fp,∀o,h.get? b=some o->h'.get? b=some o)->tn i h')
  (hx:∀i,(xv i).length<=sizeLine) {c:Cx->Prop}
  (W:∀(X:Cx),X.prog=P->X.w=w->X.K=K->c X->∀(aB:List (Addr×Obj)) (s:Shared) (σ:L2.St) (H:Hp),Inv X aB σ H s->Ls H->∃(Pt:Nat->Array Value->Prop) (St:Nat->Heap->Prop) (Mid:Nat->Addr->Heap->Prop),WalksT P w X.A it fpW wr n Pt St Mid/\(∀i,tn i s.heap->St i s.heap)/\(∀i h,St i h->tn i h) /\
   (∀i vals,Pt i vals->qBd (xv i) vals.toList))
  (hself:∀(A:Around) (i:Nat) (s:Shared) (Q:Value->Shared->Prop) (E:Value->Shared->Prop),tn i s.heap->Q (.ref it) s->wpAny (model P w) A (pyIter (.ref it)) Q E s):Turn P w K (.Tuple elts ct pos) (Itp n Ls xv) fp it tn c where
 mem:=hit
 obj:=hobj
 keep:=hkeep
 item:=by
  intro X hP hw hK hc i aB s σ H E I hf st hg;obtain⟨hL,hi⟩:=hg;obtain⟨Pt,St,Mid,Wt,w1,w2,w3⟩:=W X hP hw hK hc aB s σ H I hL;subst hP hw hK;refine Wt.item i s _ _ hi (w1 i st) λT vals h1 tk pv hT ht mid k1=>?_
  have hTw:T∉wr:=Wt.apart i T h1 mid;refine⟨_,rfl,Wt.go elts ct pos i T _ _ _ mid λh2 st2 k2=>?_⟩;have ht2:IsTup h2 T (vals.toList).toArray:=by
   obtain⟨o,a1,a2,nn,a3⟩:=ht;exact⟨o,k2 _ _ hTw a1,a2,nn,by simpa using a3⟩
  refine⟨.ref T,upd H T (.tup (xv i)),I.turnedT (t':=tk) (d':=s.drawn) (ch:=wr) (λb u hb e=>k2 b u hb (k1 b u hb e)) (λb hb=>hf b (hwr b hb)) hT ⟨hx i,vals.toList,w3 i vals pv,ht2⟩,rfl,⟨T,I.hok.fresh hT,rfl,rfl⟩,w2 _ _ st2,λb hb=>?_⟩;have e:b≠T:=by
   obtain⟨o,ho,_⟩:=hobj i _ st b hb;exact hAt (hBc (Heap.lt_size ho) hT)
  rw[qAb e];exact(hf b hb).1
 done:=by
  intro X hP hw hK hc i aB s σ H E I hf st hg;obtain⟨hL,hi⟩:=hg;obtain⟨Pt,St,Mid,Wt,w1,w2,w3⟩:=W X hP hw hK hc aB s σ H I hL;subst hP hw hK hi;exact Wt.done s _ _ (w1 _ st) λh1 tk k1=>⟨rfl,I.turnedL (ch:=wr) (λb u hb e=>k1 b u hb e) λb hb=>hf b (hwr b hb)⟩
 self:=hself
section
variable{X:Cx}{aB:List (Addr×Obj)}{σ:St}{H H':Hp}{s:Shared}
theorem qR3(I:Inv X aB σ H s)(O:CmpOk X.N X.env.scope N' scope sub)(hf:∀b∈fp,qJw X aB H b)
  (hfl:∀b∈fp,b<s.heap.objs.size) (nf:o0.isFreed=false) (nc:∀v,o0.data≠.cell v) :
  Inv (qBm X scope N' (s.heap.objs.size+1) s H fp) [(s.heap.objs.size,o0)] (subσ sub σ) H
   { s with heap:=pushCells ((s.heap.push o0).push { cls:=.type "dict",data:=.dict #[] }) scope.names }:=by
 have hk3:∀b o,s.heap.get? b=some o->(s.heap.push o0).get? b=some o:=λb o e=>Heap.get?_push_of_some _ e
 have sz3:(s.heap.push o0).objs.size=s.heap.objs.size+1:=Heap.size_push ..;have hk:∀b o,s.heap.get? b=some o->(pushCells ((s.heap.push o0).push { cls:=.type "dict",data:=.dict #[] }) scope.names).get? b=some o :=
  λb o e=>hFd _ _ b o (Heap.get?_push_of_some _ (hk3 b o e))
 have cf:=qHf (h3:=s.heap.push o0) I O hk3;rw[sz3]at cf;have hC:H (s.heap.objs.size+1)=none:=I.hok.fresh (hBl _);have nsC:(pushCells ((s.heap.push o0).push { cls:=.type "dict",data:=.dict #[] }) scope.names).Ns (s.heap.objs.size+1) (λ_=>none):=by
  rw[<-sz3];exact(Heap.Ns.new _ _).keeps (hFd _ _)
 have has:∀x,(scope.names.lookup x=some .cell\/scope.names.lookup x=some .free)->∃c,(cellsFrom (s.heap.objs.size+1+1) scope.names (qC1 X.env.cells scope.names [])).lookup x=some c:=λx hx=>by
  refine hCy.mp (hEc _ _ _ ?_);rcases hx with z|z
  ·exact .inl z
  ·exact .inr (qD9 (.inl (hC7 z)))
 have kindB:∀x,(qCj X.env scope (s.heap.objs.size+1)).kindOf x=(scope.names.lookup x).map λk=>if (k == NameKind.free && X.env.scope.kind == .function && X.env.scope.names.lookup x == some .cell) then NameKind.cell else k:=λx=>qDy
 have cellOk:∀x c,(qCj X.env scope (s.heap.objs.size+1)).cells.lookup x=some c->∃v,(pushCells ((s.heap.push o0).push { cls:=.type "dict",data:=.dict #[] }) scope.names).IsCell c v:=λx c h=>by
  rcases cf.1 x c h with q|q
  ·exact⟨_,q.1⟩
  ·obtain⟨v,z⟩:=I.cell x c q.2;exact⟨v,z.keeps hk⟩
 refine⟨⟨I.ok.mod,O.kind,I.ok.glob,I.ok.blt,hBl _,λx y c h1 h2=>cf.2 x y c h1 h2,λx hx=>?_,λx c hx h=>?_,I.ok.hd,I.ok.frames,.inl rfl,λb hb=>?_,λb o e=>I.bs b o e,hBa I.ok.bsz I.sz,λb o e hb=>?_,λb hb=>?_,I.stack,I.stkFree⟩,
  rfl,I.bare,Un.kept hk,⟨λ_=>none,nsC,λi x v h1 h2 h3=>?_⟩,cellOk,hC,λx c h=>?_,λp hp=>?_,I.hok.kept hk,?_⟩
 ·-- has
  refine has x ?_;have hx:(qCj X.env scope (s.heap.objs.size+1)).kindOf x=some .cell\/(qCj X.env scope (s.heap.objs.size+1)).kindOf x=some .free:=hx;rw[kindB]at hx;cases e:scope.names.lookup x with
  |none=>rw[e]at hx;rcases hx with z|z <;> cases z
  |some k =>
   rw[e]at hx;cases k with
   |cell=>exact .inl rfl
   |free=>exact .inr rfl
   |_=>exfalso;rcases hx with z|z <;> simp at z
 ·-- cab
  rcases cf.1 x c h with q|q
  ·have:=q.2.1;show s.heap.objs.size<=c;omega
  ·exfalso;have e:=qB2 O.nd q.1;have hx':(!(scope.names.lookup x == some NameKind.free))=true:=hx;rw[e]at hx';exact absurd hx' (by decide)
 ·-- exf
  obtain⟨f0,f1,f2,f3,f4,f5⟩:=hf b hb;have lt:=hfl b hb;refine⟨λe=>?_,λx c h e=>?_⟩
  ·have e':b=s.heap.objs.size+1:=e;rw[e']at lt;exact absurd lt (Nat.not_lt.mpr (hBl _))
  ·rcases cf.1 x c h with q|q
   ·have z:=q.2.1;rw[e]at z;exact absurd lt (Nat.not_lt.mpr (hBa (hBa (hBl _) (hBl _)) z))
   ·exact f4 x c q.2 e
 ·-- noex
  obtain⟨f0,f1,f2,f3,f4,f5⟩:=hf b hb;rcases f3 with z|z
  ·exact I.ok.noex b o e z
  ·exact absurd (hBc (Heap.lt_size (I.ok.bs b o e).1) z) (hBu _)
 ·-- exfs
  obtain⟨f0,f1,f2,f3,f4,f5⟩:=hf b hb;exact λz=>f2 (qIb I z f1)
 ·-- loc
  have h1':N'[i]?=some x:=h1;have hsub:∃k,sub[i]?=some (some k)/\(σ[k]?).join=some v:=by
   unfold subσ at h2;rw[hAc]at h2;cases e:sub[i]? with
   |none=>rw[e]at h2;cases h2
   |some o =>
    rw[e]at h2;cases o with
    |none=>cases h2
    |some k=>exact⟨k,rfl,by simpa using h2⟩
  obtain⟨k,hk1,hk2⟩:=hsub;obtain⟨nk,fx⟩:=O.sub i k x hk1 h1';have sk:σ[k]?=some (some v):=by
   cases e:σ[k]? with
   |none=>rw[e]at hk2;cases hk2
   |some o=>rw[e]at hk2;cases o with
    |none=>cases hk2
    |some y=>cases hk2;rfl
  have cx:=O.free _ (hC7 fx) rfl;obtain⟨m,hn,hl⟩:=I.loc;obtain⟨u,ru,lk⟩:=hl k x v nk sk (by
   rcases cx with z|z
   ·exact .inr (.inl z)
   ·exact .inr (.inr z))
  refine⟨u,ru,.inr ⟨?_,?_⟩⟩
  ·show(qCj X.env scope (s.heap.objs.size+1)).kindOf x=some .cell\/(qCj X.env scope (s.heap.objs.size+1)).kindOf x=some .free;rw[kindB,fx];by_cases hc:(NameKind.free == NameKind.free && X.env.scope.kind == .function && X.env.scope.names.lookup x == some .cell)=true
   ·exact .inl (by rw[hD0,hEs hc])
   ·exact .inr (by rw[hD0,hEr hc])
  ·rcases lk with ⟨kl,_⟩|⟨_,c,hc,hcell⟩
   ·exfalso;have kl':X.env.scope.names.lookup x=some .local:=kl;rcases cx with z|z <;> rw[kl']at z <;> cases z
   ·obtain⟨c',hc'⟩:=has x (.inr fx);refine⟨c',hc',?_⟩;rcases cf.1 x c' hc' with q|q
    ·exfalso;have e:=qB2 O.nd q.2.2;rw[fx]at e;cases e
    ·rw[hc]at q;have e:c=c':=hAh q.2;subst e;exact hcell.keeps hk
 ·-- freeC
  rcases cf.1 x c h with q|q
  ·exact I.hok.fresh (by have:=q.2.1;omega)
  ·exact I.freeC x c q.2
 ·-- pin
  have hp':p=(s.heap.objs.size,o0):=by
   have:p∈([]++[(s.heap.objs.size,o0)]:List (Addr×Obj)):=hp
   simpa using this
  subst hp';refine⟨hFd _ _ _ _ (Heap.get?_push_of_some _ (Heap.get?_push_size _ nf)),I.hok.fresh (hAj _),hAt (hBp _),λz=>?_,λv z=>?_⟩
  ·rcases hAg.mp (I.stkSub _ z) with e|e
   ·exact absurd I.lt (by rw[<-e];exact hBu _)
   ·exact I.nofs (hAj _) e
  ·exact nc v z
 ·-- len
  show(subσ sub σ).length=N'.length;unfold subσ;rw[hA4,O.len]
theorem Inv.repin(I:Inv X ((acc,o) :: aB) σ H s)(k:∀b u,b≠acc->s.heap.get? b=some u->h'.get? b=some u)(e:h'.get? acc=some o')(nc:∀v,o'.data≠.cell v)(hx:acc∈X.ex\/X.s₀.heap.objs.size<=acc)(np:∀p∈X.pn++aB,p.1≠acc) :
  Inv X ((acc,o') :: aB) σ H { s with heap:=h',toks:=t' }:=by
 have pa:=I.pin (acc,o) (hAq _ hAb);have I1:Inv X aB σ H s:=I.pins_of λp hp=>I.pin p (hAq _ (hAe _ hp))
 have I2:Inv X aB σ H { s with heap:=h',toks:=t' }:=I1.turned (t':=t') (it:=acc) k pa.2.1 pa.2.2.1 hx
  (λy c hy z=>by
   obtain⟨w',o2,ho2,hd2⟩:=I.cell y c hy;rw[z,pa.1]at ho2;exact pa.2.2.2.2 _ (by cases ho2;exact hd2)) np
 refine I2.pins_of λp hp=>?_
 rcases hAg.mp hp with z|z
 ·subst z;exact⟨e,pa.2.1,pa.2.2.1,pa.2.2.2.1,nc⟩
 ·exact I2.pin p (hAq _ z)
end
noncomputable def qCt(tpos:Pos)(it:Value)(target:Expr)(env:Env)(ifs:List Expr)(body:Sem Unit)(k:Sem Fin):Sem Fin:=do
 standAt tpos
 match ← pyNext it with
 |none=>pure (.done .next)
 |some v =>
  letOwnedTupleGo target it v
  assign target env v
  let mut ok:=true
  for c in ifs do
   if ok then ok ← isTrue c env (eval c env)
  if ok then
   body
  k
theorem qLa(hsh:compTurn e d it acc env=qCt tpos it target env ifs body (again (.compLoop e d it acc env)))(hdn:∀(A:Around) (Q:PySem.Fin->Shared->Prop) (E:Value->Shared->Prop) (s:Shared),wpAny (model prog w) A ((compTurn e d it acc env).onRaise (λx=>do noteFrame x env;theTreesLotGoes x)) Q E s->wpAny (model prog w) (A.under (.compLoop e d it acc env)) ((model prog w).den (.compLoop e d it acc env)) Q E s)(I:Nat->Shared->Prop)
  (turn:∀n s,I n s->wpAny (model prog w) A (pyNext it) (λr s₁=>match r with
   |none=>R (.ok .next) s₁
   |some v=>wpAny (model prog w) A (letOwnedTupleGo target it v) (λ_ s₁'=>wpAny (model prog w) A (assign target env v) (λ_ s₂ =>
     wpAny (model prog w) A (forIn ifs true λc r=>if r=true then do let ok ← isTrue c env (eval c env);pure (ForInStep.yield ok) else pure (ForInStep.yield r)) (λok s₃ =>
      if ok=true then wpAny (model prog w) A body (λ_ s₅=>∃m,m<n/\I m s₅) (λ_ _=>False) s₃
      else ∃m,m<n/\I m s₃) (λ_ _=>False) s₂) (λ_ _=>False) s₁') (λ_ _=>False) s₁) (λ_ _=>False) s)
  (n:Nat) (h:I n s):codeAny (model prog w) A (.compLoop e d it acc env) R s:=by
 refine codeAny_loop rfl I (λn s hI=>?_) n h;refine hdn _ _ _ _ (wpAny_noted ?_);rw[hsh];unfold qCt;refine hEp (hF9 (hEp (hF2 (turn n s hI) (λr s₁ h₁=>?_) λ_ _ h'=>h'.elim)));cases r with
 |none=>exact hEq h₁
 |some v =>
  refine hEp (hF2 h₁ (λ_ s₁' h₁=>?_) λ_ _ h'=>h'.elim);refine hEp (hF2 h₁ (λ_ s₂ h₂=>hEp (hF2 h₂ (λok s₃ h₃=>?_) λ_ _ h'=>h'.elim)) λ_ _ h'=>h'.elim);cases ok with
  |false=>exact hEq ⟨rfl,h₃⟩
  |true=>exact hEp (hF2 h₃ (λ_ s₅ h₅=>hEq ⟨rfl,h₅⟩) λ_ _ h'=>h'.elim)
section
variable{AS:Type}
abbrev TB(AS:Type):=AS->St->Hp->(AS->St->Hp->Prop)->Prop
def PBd(X:Cx)(AO:AS->Obj->Prop)(acc:Addr)(body:Sem Unit)(tb:TB AS):Prop :=
 ∀(aB:List (Addr×Obj)) (s:Shared) (σ:St) (H:Hp) (a:AS) (o:Obj) (Q:AS->St->Hp->Prop),Inv X ((acc,o) :: aB) σ H s->(∀p∈X.pn++aB,p.1≠acc)->(acc∈X.ex\/X.s₀.heap.objs.size<=acc)->AO a o->tb a σ H Q ->
  wpAny (model X.prog X.w) X.A body (λ_ s'=>∃(a':AS) (o':Obj) (σ':St) (H':Hp),Inv X ((acc,o') :: aB) σ' H' s'/\AO a' o'/\Q a' σ' H') (λ_ _=>False) s
def qG6(J:It)(g:TG)(tt:TT)(tb:TB AS)(Q:AS->St->Hp->Prop)(a0:AS)(σ0:St)(H0:Hp):Prop :=
 ∃W:Nat->Nat->AS->St->Hp->Prop,(∃m,W 0 m a0 σ0 H0)/\∀i m a σ H,W i m a σ H ->
  (J.stop i H/\Q a σ H) \/
  (J.go i H/\∀x H',J.yld i H x H'->g x σ H' λσ2 H2=>tt σ2 H2 λb H3 =>
   if b=true then tb a σ2 H3 (λa' σ' H'=>∃m',m'<m/\W (i+1) m' a' σ' H') else ∃m',m'<m/\W (i+1) m' a σ2 H3)
theorem zAe
  (hc:X.calm=true) (xxe:X.xe=λ_ _=>False) (hsh:compTurn e d (.ref it) (.ref acc) X.env=qCt tpos (.ref it) target X.env ifs body (again (.compLoop e d (.ref it) (.ref acc) X.env))) (hdn:∀(A:Around) (Q:PySem.Fin->Shared->Prop) (E:Value->Shared->Prop) (s:Shared),wpAny (model X.prog X.w) A ((compTurn e d (.ref it) (.ref acc) X.env).onRaise (λx=>do noteFrame x X.env;theTreesLotGoes x)) Q E s->wpAny (model X.prog X.w) (A.under (.compLoop e d (.ref it) (.ref acc) X.env)) ((model X.prog X.w).den (.compLoop e d (.ref it) (.ref acc) X.env)) Q E s)
  (T:Turn X.prog X.w X.K target J fp it tn) (st:tn 0 s.heap) (hf:∀b∈fp,qJw X ((acc,o) :: aB) H b) (hg:PG X target g) (ht:PTs X ifs tt) (hb:PBd X AO acc body tb)
  (I:Inv X ((acc,o) :: aB) σ H s) (np:∀p∈X.pn++aB,p.1≠acc) (hx:acc∈X.ex\/X.s₀.heap.objs.size<=acc) (ha:AO a o) (rd:qG6 J g tt tb Q a σ H)
  (hR:∀(s':Shared) (a':AS) (o':Obj) (σ':St) (H':Hp),Inv X ((acc,o') :: aB) σ' H' s'->AO a' o'->Q a' σ' H'->(∀b∈fp,H' b=none)->R (.ok .next) s') :
  codeAny (model X.prog X.w) X.A (.compLoop e d (.ref it) (.ref acc) X.env) R s:=by
 obtain⟨W,⟨m0,w0⟩,turn⟩:=rd;have stat:∀ {o':Obj} {H':Hp},(∀b∈fp,H' b=none)->∀b∈fp,qJw X ((acc,o') :: aB) H' b:=λ{o' H'} hn b hb=>by
  obtain⟨f0,f1,f2,f3,f4,f5⟩:=hf b hb;refine⟨hn b hb,f1,f2,f3,f4,λp hp=>?_⟩;rcases hAp.mp hp with z|z
  ·exact f5 p (hAx _ z)
  ·rcases hAg.mp z with z|z
   ·rw[z];exact f5 (acc,o) (hAq _ hAb)
   ·exact f5 p (hAq _ (hAe _ z))
 refine qLa hsh hdn (λn s'=>∃(i:Nat) (a':AS) (o':Obj) (σ':St) (H':Hp),Inv X ((acc,o') :: aB) σ' H' s'/\AO a' o'/\tn i s'.heap/\(∀b∈fp,H' b=none)/\W i n a' σ' H') ?_ m0 ⟨0,a,o,σ,H,I,ha,st,λb hb=>(hf b hb).1,w0⟩;rintro n s4 ⟨i,a4,o4,σ4,H4,I4,ha4,st4,fr4,w4⟩;rcases turn i n a4 σ4 H4 w4 with ⟨stop,q⟩|⟨go,step⟩
 ·refine thn (T.done X rfl rfl rfl hc i _ s4 σ4 H4 (λ_ _=>False) I4 (stat fr4) st4 stop) λr s5 ⟨hr,I5⟩=>?_
  subst hr;exact hR s5 a4 o4 σ4 H4 I5 ha4 q fr4
 ·refine thn (T.item X rfl rfl rfl hc i _ s4 σ4 H4 (λ_ _=>False) I4 (stat fr4) st4 go) λr s5 ⟨u,hr,h5⟩=>?_
  subst hr;refine thn h5 λ_ s6 ⟨x,H6,I6,r6,y6,st6,fr6⟩=>?_
  have I6':=I6.pinned (stat fr6) (T.obj _ _ st6);have back:∀ {o':Obj} {σ':St} {H':Hp} {s':Shared},Inv X ((acc,o') :: (aB++pinsAt fp s6.heap)) σ' H' s'->Inv X ((acc,o') :: aB) σ' H' s'/\tn (i+1) s'.heap/\∀b∈fp,H' b=none:=λ{o' σ' H' s'} I'=>by
   refine⟨Inv.unpinned (pl:=pinsAt fp s6.heap) I',T.keep _ _ _ st6 λb hb o e=>?_,λb hb=>?_⟩
   ·exact(I'.pin (b,o) (hAq _ (hAe _ (hAq _ (qCc hb e))))).1
   ·obtain⟨o,e,d⟩:=T.obj _ _ st6 b hb;exact(I'.pin (b,o) (hAq _ (hAe _ (hAq _ (qCc hb e))))).2.1
  have np':∀p∈X.pn++(aB++pinsAt fp s6.heap),p.1≠acc:=λp hp=>by
   rcases hAp.mp hp with z|z
   ·exact np p (hAx _ z)
   ·rcases hAp.mp z with z|z
    ·exact np p (hAq _ z)
    ·obtain⟨hb,_⟩:=qKm z;exact Ne.symm ((stat (o':=o4) fr6 p.1 hb).2.2.2.2.2 (acc,o4) (hAq _ hAb))
  have tg:=hg _ s6 σ4 H6 x u _ I6' r6 (step x H6 y6);rw[xxe]at tg;refine thn tg λ_ s7 ⟨σ7,H7,I7,q7⟩=>?_
  have tts:=ht _ s7 σ7 H7 _ I7 q7;rw[xxe]at tts;refine thn tts λb s8 ⟨H8,I8,q8⟩=>?_
  cases b with
  |false =>
   rw[hEr hAo]at q8 ⊢;obtain⟨m',hm',w8⟩:=q8;obtain⟨b1,b2,b3⟩:=back I8;exact⟨m',hm',i+1,a4,o4,σ7,H8,b1,ha4,b2,b3,w8⟩
  |true =>
   rw[hEs rfl]at q8 ⊢;refine thn (hb _ s8 σ7 H8 a4 o4 _ I8 np' hx ha4 q8) λ_ s9 ⟨a9,o9,σ9,H9,I9,ha9,m',hm',w9⟩=>?_
   obtain⟨b1,b2,b3⟩:=back I9;exact⟨m',hm',i+1,a9,o9,σ9,H9,b1,ha9,b2,b3,w9⟩
end
theorem qE9(hcl:(clausesOf e)[d]?=some g)(hga:g.is_async=0)
  (hdn:∀(A:Around) (Q:PySem.Fin->Shared->Prop) (E:Value->Shared->Prop) (s:Shared),wpAny (model prog w) A ((compStart e d it acc env).onRaise (λx=>do noteFrame x env;standAt theWindowsPlace)) Q E s->wpAny (model prog w) (A.under (.compStart e d it acc env)) ((model prog w).den (.compStart e d it acc env)) Q E s)
  (hq:∀it',(Code.compLoop e d it' acc env).quiet=true)
  (h0:codeAny (model prog w) A (.compLoop e d it acc env) R s)
  (h:wpAny (model prog w) A (pyIter it) (λit' s'=>codeAny (model prog w) A (.compLoop e d it' acc env) R s') (λ_ _=>False) s):codeAny (model prog w) A (.compStart e d it acc env) R s:=by
 refine hGb (hdn _ _ _ _ (wpAny_notedAt ?_));unfold compStart;rw[hcl];show wpAny _ _ (if (g.is_async != 0)=true then _ else _) _ _ s;rw[hEr (by rw[hga];decide)];refine hEp (hF5 (wpAny_ite ?_));split
 ·first
   |exact hEp (hEq (hEq (And.intro (hq _) h0)))
   |exact hEq (And.intro (hq _) h0)
 ·exact hEp (hFz (hEp (hF9 (hEp (hF2 h (λit' s' h'=>hEq (And.intro (hq _) h')) λ_ _ x=>x.elim)))))
section
variable{X:Cx}{aB:List (Addr×Obj)}{σ:St}{H:Hp}{s:Shared}{AS:Type}
theorem zAg{e target:Expr}{gcl:Comprehension}{tpos:Pos}{ifs:List Expr}{scope:Scope}{N':List Str}{sub:List (Option Nat)}{J:It}{fp:List Addr}{it:Addr}{tn:Nat->Heap->Prop}{g:TG}{tt:TT}{tb:TB AS}{o0:Obj}{a0:AS}{AO:AS->Obj->Prop}{HOf:Addr->AS->HO}{newAcc:Sem Value}{body:Addr->Env->Sem Unit}
  {Qe:AS->Hp->Prop} {E:Value->Shared->Prop} {RR:Value->Addr->Result->Shared->Prop}
  (hnew:∀(A:Around) (s:Shared) (Q:Value->Shared->Prop) (E:Value->Shared->Prop),Q (.ref s.heap.objs.size) { s with heap:=s.heap.push o0 }->wpAny (model X.prog X.w) A newAcc Q E s) (nf:o0.isFreed=false) (nc:∀a o,AO a o->∀v,o.data≠.cell v) (hA0:AO a0 o0)
  (hHO:∀(H':Hp) (h:Heap) (acc:Addr) (a:AS) (o:Obj),sysModules<acc->AO a o->h.get? acc=some o->qB9 X.prog X.w H' h acc (HOf acc a))
  (hcl:(clausesOf e)[0]?=some gcl) (hga:gcl.is_async=0)
  (hdnS:∀(it acc:Value) (env:Env) (A:Around) (Q:PySem.Fin->Shared->Prop) (E:Value->Shared->Prop) (s:Shared),wpAny (model X.prog X.w) A ((compStart e 0 it acc env).onRaise (λx=>do noteFrame x env;standAt theWindowsPlace)) Q E s->wpAny (model X.prog X.w) (A.under (.compStart e 0 it acc env)) ((model X.prog X.w).den (.compStart e 0 it acc env)) Q E s)
  (hdnL:∀(it acc:Value) (env:Env) (A:Around) (Q:PySem.Fin->Shared->Prop) (E:Value->Shared->Prop) (s:Shared),wpAny (model X.prog X.w) A ((compTurn e 0 it acc env).onRaise (λx=>do noteFrame x env;theTreesLotGoes x)) Q E s->wpAny (model X.prog X.w) (A.under (.compLoop e 0 it acc env)) ((model X.prog X.w).den (.compLoop e 0 it acc env)) Q E s)
  (hq:∀it acc env,(Code.compLoop e 0 it acc env).quiet=true)
  (hsh:∀(it acc:Addr) (env:Env),compTurn e 0 (.ref it) (.ref acc) env=qCt tpos (.ref it) target env ifs (body acc env) (again (.compLoop e 0 (.ref it) (.ref acc) env)))
  (hc:X.calm=true) (I:Inv X aB σ H s) (O:CmpOk X.N X.env.scope N' scope sub) (T:Turn X.prog X.w X.K target J fp it tn) (st:tn 0 s.heap) (hf:∀b∈fp,qJw X aB H b)
  (B:∀C s H fp,PG (qBm X scope N' C s H fp) target g/\PTs (qBm X scope N' C s H fp) ifs tt/\∀acc,PBd (qBm X scope N' C s H fp) AO acc (body acc (qBm X scope N' C s H fp).env) tb)
  (rd:qG6 J g tt tb (λa _ H'=>Qe a H') a0 (subσ sub σ) H)
  (hRR:∀(acc C:Addr) (a:AS) (H':Hp) (s':Shared),Inv X aB σ (upd H' acc (HOf acc a)) s'->qJw X aB (upd H' acc (HOf acc a)) C->(∃m,s'.heap.Ns C m)->H' acc=none->Qe a H'->RR (.ref acc) C (.ok .next) s') :
  wpAny (model X.prog X.w) X.A newAcc (λacc s₃=>wpAny (model X.prog X.w) X.A (newFunctionEnv scope X.env.globals (qC1 X.env.cells scope.names []) [] X.env.qual none .none (some X.env)) (λcenv s₄ =>
   codeAny (model X.prog X.w) X.A (.compStart e 0 (.ref it) acc { cenv with scope:=relabel scope X.env }) (RR acc cenv.locals) s₄) E s₃) E s:=by
 refine hnew _ _ _ _ (qEo ?_);have hfl:∀b∈fp,b<s.heap.objs.size:=λb hb=>by
  obtain⟨o,e,_⟩:=T.obj _ _ st b hb;exact Heap.lt_size e
 have I0:=qR3 (o0:=o0) (sub:=sub) I O hf hfl nf (nc a0 o0 hA0);have sz3:(s.heap.push o0).objs.size=s.heap.objs.size+1:=Heap.size_push ..;dsimp only;show codeAny _ _ (.compStart _ 0 (.ref it) (.ref s.heap.objs.size) { scope:=relabel scope X.env,locals:=(s.heap.push o0).objs.size,globals:=X.env.globals,cells:=cellsFrom ((s.heap.push o0).objs.size+1) scope.names (qC1 X.env.cells scope.names []),qual:=X.env.qual,func:=none,code:=X.env.code,frame:=X.env.frame,builtins:=X.env.builtins })
  (RR (.ref s.heap.objs.size) (s.heap.push o0).objs.size) { s with heap:=pushCells ((s.heap.push o0).push { cls:=.type "dict",data:=.dict #[] }) scope.names }
 rw[sz3];show codeAny _ _ (.compStart _ 0 (.ref it) (.ref s.heap.objs.size) (qCj X.env scope (s.heap.objs.size+1))) (RR (.ref s.heap.objs.size) (s.heap.objs.size+1)) _;generalize hs0:({ s with heap:=pushCells ((s.heap.push o0).push { cls:=.type "dict",data:=.dict #[] }) scope.names }:Shared)=s0 at I0 ⊢;have hk0:∀b o,s.heap.get? b=some o->s0.heap.get? b=some o:=λb o e=>by
  rw[<-hs0];exact hFd _ _ b o (Heap.get?_push_of_some _ (Heap.get?_push_of_some _ e))
 have st0:tn 0 s0.heap:=T.keep _ _ _ st λb hb o e=>hk0 b o e
 clear hs0 sz3;generalize hX:qBm X scope N' (s.heap.objs.size+1) s H fp=X' at I0;have xp:X'.prog=X.prog:=by rw[<-hX];rfl
 have xw:X'.w=X.w:=by rw[<-hX];rfl
 have xK:X'.K=X.K:=by rw[<-hX];rfl
 have xA:X'.A=X.A:=by rw[<-hX];rfl
 have xc:X'.calm=true:=by rw[<-hX];exact hc
 have xe:X'.env=qCj X.env scope (s.heap.objs.size+1):=by rw[<-hX];rfl
 have xx:X'.ex=fp:=by rw[<-hX];rfl
 have xf:X'.fs=frs X.stack:=by rw[<-hX];rfl
 have xpn:X'.pn=[]:=by rw[<-hX];rfl
 have x0:X'.s₀=s:=by rw[<-hX];rfl
 have xh:X'.H₀=H:=by rw[<-hX];rfl
 have xxe:X'.xe=λ_ _=>False:=by rw[<-hX];rfl
 obtain⟨hg,ht,hbd⟩:=B (s.heap.objs.size+1) s H fp;rw[hX]at hg ht hbd;clear hX;have f0':∀b∈fp,qJw X' [(s.heap.objs.size,o0)] H b:=λb hb=>by
  obtain⟨f0,f1,f2,f3,f4,f5⟩:=hf b hb;refine⟨f0,(I0.ok.exf b (by rw[xx];exact hb)).1,I0.ok.exfs b (by rw[xx];exact hb),.inl (by rw[xx];exact hb),(I0.ok.exf b (by rw[xx];exact hb)).2,λp hp'=>?_⟩;rw[xpn,hDd,hAd]at hp';rw[hp'];exact hCn (hfl b hb)
 have loop:codeAny (model X.prog X.w) X.A (.compLoop e 0 (.ref it) (.ref s.heap.objs.size) (qCj X.env scope (s.heap.objs.size+1))) (RR (.ref s.heap.objs.size) (s.heap.objs.size+1)) s0:=by
  have T':Turn X'.prog X'.w X'.K target J fp it tn:=by rw[xp,xw,xK];exact T
  have hb0:=hbd s.heap.objs.size;have key:=zAe (X:=X') (AO:=AO) (e:=e) (d:=0) (tpos:=tpos) (R:=RR (.ref s.heap.objs.size) (s.heap.objs.size+1)) (aB:=[]) (a:=a0) (o:=o0) (acc:=s.heap.objs.size) xc xxe (hsh it s.heap.objs.size X'.env) (by rw[xp,xw];exact hdnL _ _ _) T' st0 f0' hg ht hb0 I0 (by rw[xpn];exact λp hp=>absurd hp (by simp)) (.inr (by rw[x0];exact hAj _)) hA0 rd ?_
  ·rw[xp,xw,xA,xe]at key;exact key
  intro s5 a5 o5 σ5 H4 I5 ha5 q fr5;have pa:=I5.pin (s.heap.objs.size,o5) (by rw[xpn];simp);have nacc:H4 s.heap.objs.size=none:=pa.2.1;have nC:H4 (s.heap.objs.size+1)=none:=by have z:=I5.free;rw[xe]at z;exact z
  have un:Un (frs X.stack) fp H H4 s.heap s5.heap:=by have z:=I5.base;rw[xf,xx,xh,x0]at z;exact z
  have un2:Un (frs X.stack) fp H (upd H4 s.heap.objs.size (HOf s.heap.objs.size a5)) s.heap s5.heap:=by
   refine⟨un.keep,un.slot,λb o e n hx=>?_,un.there,λb xs e=>?_,λb o u e=>?_,λb ps e=>?_⟩
   ·rw[qAb (hAt (Heap.lt_size e))];exact un.free b o e n hx
   ·have z:=un.tups b xs e;rw[qAb (qAp z nacc)];exact z
   ·have z:=un.frzs b o u e;rw[qAb (qAp z nacc)];exact z
   ·obtain⟨more,z⟩:=un.tbls b ps e;exact⟨more,by rw[qAb (qAp z nacc)];exact z⟩
  have hok5:HOk X.prog X.w H4 s5.heap:=by have z:=I5.hok;rw[xp,xw]at z;exact z
  have hok2:HOk X.prog X.w (upd H4 s.heap.objs.size (HOf s.heap.objs.size a5)) s5.heap:=λb u e=>by
   by_cases hb:b=s.heap.objs.size
   ·subst hb;rw[upd_same]at e;cases e;exact hHO _ _ _ _ _ I.big ha5 pa.1
   ·rw[qAb hb]at e;exact(hok5 b u e).stay (λ_ _ _ q=>q) (λc q=>by rw[qAb (qAp q nacc)];exact q) λc xs q=>by rw[qAb (qAp q nacc)];exact q
  have os5:s5.os=s.os:=by have z:=I5.os;rw[x0]at z;exact z
  have J5:Inv X aB σ (upd H4 s.heap.objs.size (HOf s.heap.objs.size a5)) s5:=I.call' os5 un2 hok2 I5.bare λb hb=>by
   obtain⟨f0,f1,f2,f3,f4,f5⟩:=hf b hb;exact⟨f3,f1,f4,f5⟩
  refine hRR _ _ a5 H4 s5 J5 (I.fpOk (hBl _) ?_) ?_ nacc q
  ·rw[qAb (Nat.succ_ne_self _)];exact nC
  ·obtain⟨m,hn,_⟩:=I5.loc;rw[xe]at hn;exact⟨m,hn⟩
 exact qE9 hcl hga (hdnS _ _ _) (λit'=>hq _ _ _) loop (T.self _ 0 _ _ _ st0 loop)
end
noncomputable def qD8(e iter2:Expr)(acc:Addr)(env:Env):Sem Unit:=do
 let x ← eval iter2 env
 standAt iter2.pos
 let x ← foldedSetIterable iter2 env x
 let _ ← runOwn (.compStart e 1 (← holding [x] (pyIter x)) (.ref acc) env) env
def zA1{AS:Type}(wi:TI)(g:TG)(tt:TT)(tb:TB AS):TB AS:=λa σ H Q=>wi σ H λJ H1=>qG6 J g tt tb Q a σ H1
theorem qOa{X:Cx}{AS:Type}{AO:AS->Obj->Prop}{acc:Addr}{e iter2 target2:Expr}{ifs2:List Expr}{tpos2:Pos}{gcl:Comprehension}{body:Sem Unit}{wi:TI}{g:TG}{tt:TT}{tb:TB AS}(hc:X.calm=true)(xxe:X.xe=λ_ _=>False)
  (hi:PI X target2 iter2 wi) (hg:PG X target2 g) (ht:PTs X ifs2 tt) (hb:PBd X AO acc body tb) (hfold:∀x,foldedSetIterable iter2 X.env x=pure x)
  (hcl:(clausesOf e)[1]?=some gcl) (hga:gcl.is_async=0)
  (hsh:∀it:Addr,compTurn e 1 (.ref it) (.ref acc) X.env=qCt tpos2 (.ref it) target2 X.env ifs2 body (again (.compLoop e 1 (.ref it) (.ref acc) X.env)))
  (hdnS:∀(it:Value) (A:Around) (Q:PySem.Fin->Shared->Prop) (E:Value->Shared->Prop) (s:Shared),wpAny (model X.prog X.w) A ((compStart e 1 it (.ref acc) X.env).onRaise (λx=>do noteFrame x X.env;standAt theWindowsPlace)) Q E s->wpAny (model X.prog X.w) (A.under (.compStart e 1 it (.ref acc) X.env)) ((model X.prog X.w).den (.compStart e 1 it (.ref acc) X.env)) Q E s)
  (hdnL:∀(it:Value) (A:Around) (Q:PySem.Fin->Shared->Prop) (E:Value->Shared->Prop) (s:Shared),wpAny (model X.prog X.w) A ((compTurn e 1 it (.ref acc) X.env).onRaise (λx=>do noteFrame x X.env;theTreesLotGoes x)) Q E s->wpAny (model X.prog X.w) (A.under (.compLoop e 1 it (.ref acc) X.env)) ((model X.prog X.w).den (.compLoop e 1 it (.ref acc) X.env)) Q E s)
  (hq:∀it,(Code.compLoop e 1 it (.ref acc) X.env).quiet=true):PBd X AO acc (qD8 e iter2 acc X.env) (zA1 wi g tt tb):=by
 intro aB s σ H a o Q I np hx ha h;have h0:=hi _ s σ H _ I h;rw[xxe]at h0;unfold qD8;refine hEp (thn h0 λv s1 h1=>hEp (hF9 (hEp (wpAny_of_eq (hfold v) (hEp (hEy (thn h1 λitv s2 h2=>?_)))))));obtain⟨it,fp,tn,J,H2,e2,I2,T,st2,f2,rd⟩:=h2;subst e2;refine hEp (wpAny_runOwn ?_);have loop:=zAe (X:=X) (AO:=AO) (e:=e) (d:=1) (tpos:=tpos2) (R:=λr s'=>match r with
   |.ok f=>wpAny (model X.prog X.w) X.A (pure ():Sem Unit) (λ_ s'=>∃(a':AS) (o':Obj) (σ':St) (H':Hp),Inv X ((acc,o') :: aB) σ' H' s'/\AO a' o'/\Q a' σ' H') (λ_ _=>False) s'
   |.error e=>cameBackBy (model X.prog X.w) X.A X.env (λ_ _=>False) e s') hc xxe (hsh it) (hdnL _) T st2 f2 hg ht hb I2 np hx ha rd
  (λs' a' o' σ' H' I' ha' q' _=>hEq ⟨a',o',σ',H',I',ha',q'⟩)
 exact qE9 hcl hga (hdnS _) hq loop (T.self _ 0 _ _ _ st2 loop)
def qHl(P:Program)(w:World)(ss:List Str)(o:Obj):Prop :=
 ∃(es:Array (Int×Value)) (ep:Nat) (t:SetTable),o=sOb es ep t/\ElemsOf (PySem.strKind P w) es.toList/\StrsAre (es.toList.map (·.2)) ss/\es.size<scanBound/\t.fits es.size=true/\t.led=!w.params.followText "set-order"/\(es.size≠0->t.plain=false)
theorem qHl.set(x:qHl P w ss o)(e:h.get? a=some o):qBw P w h a ss:=by
 obtain⟨es,ep,t,rfl,r⟩:=x;exact⟨es,ep,t,e,r⟩
theorem qBw.obj(x:qBw P w h a ss):∃o,h.get? a=some o/\qHl P w ss o:=by
 obtain⟨es,ep,t,e,r⟩:=x;exact⟨_,e,es,ep,t,rfl,r⟩
theorem qHl.nocell(x:qHl P w ss o):∀v,o.data≠.cell v:=by
 obtain⟨es,ep,t,rfl,_⟩:=x;intro v z;cases z
noncomputable def qQd(elt:Expr)(acc:Addr)(env:Env):Sem Unit:=do
 let v ← eval elt env
 standAt elt.pos
 let _ ← call (.builtin "set.add") [.ref acc,v]
def zCi(te:TE):TB (List Str):=λss σ H Q=>te σ H λv H'=>∃x:Str,v = .str x/\ss.length<1000/\∀ss',(if x∈ss then ss'=ss else ss'.Perm (ss++[x]))->Q ss' σ H'
theorem qW6(xxe:X.xe=λ_ _=>False)(he:PE X elt te):PBd X (qHl X.prog X.w) acc (qQd elt acc X.env) (zCi te):=by
 intro aB s σ H a o Q I np hx ha h;have h0:=he _ s σ H _ I h;rw[xxe]at h0;unfold qQd;refine hEp (thn h0 λv s1 ⟨y,H1,I1,r1,x,ex,hl,q⟩=>hEp (hF9 (hEp ?_)));subst ex;obtain⟨tk,rfl⟩:=r1;have pa:=I1.pin (acc,o) (hAq _ hAb);have hS:qBw X.prog X.w s1.heap acc a:=ha.set pa.1;have hT:s1.TypeIs (.ref acc) "set":=by
  obtain⟨es,ep,t,ho,_⟩:=hS;exact⟨_,ho,rfl⟩
 refine hEx PySem.F.slot_set_add hT PySem.F.entry_set_add ?_ (PySem.F.args_set_add_2 _ _);unfold Builtin.«set.add» Builtin.Frozenset.oneOther;simp only[List.isEmpty_nil,bind_assoc];unfold Builtin.Frozenset.addrOf setAdd;refine hEp (hEq ?_);try dsimp only
 refine hEp (hEq ?_);try dsimp only
 refine hEp (hEy (hEp ((PySem.strKind X.prog X.w).pyHash (strKind_is X.prog X.w x tk) ?_)));refine qNi (s:={ s1 with toks:=s1.toks+1 }) hS (by have:scanBound=4096:=rfl;omega) λh2 ss2 sb2 hS2 q2=>?_
 show wpAny _ _ (ret Value.none) _ _ _;refine hEq ⟨_,rfl,hEq ?_⟩;obtain⟨o2,e2,ho2⟩:=hS2.obj;exact⟨ss2,o2,σ,H1,I1.repin (t':=s1.toks+1) (λb u hb e=>(sb2.2 b hb).trans e) e2 ho2.nocell hx np,ho2,q ss2 q2⟩
structure GC(P:Program)(w:World){AS:Type}(e target iter:Expr)(ifs:List Expr)(scope:Scope)(tpos:Pos)(newAcc:Sem Value)(body:Addr->Env->Sem Unit)(o0:Obj)(a0:AS)(AO:AS->Obj->Prop)(HOf:Addr->AS->HO):Prop where
 new:∀(A:Around) (s:Shared) (Q:Value->Shared->Prop) (E:Value->Shared->Prop),Q (.ref s.heap.objs.size) { s with heap:=s.heap.push o0 }->wpAny (model P w) A newAcc Q E s
 nf:o0.isFreed=false
 nc:∀a o,AO a o->∀v,o.data≠.cell v
 hA0:AO a0 o0
 hHO:∀(H':Hp) (h:Heap) (acc:Addr) (a:AS) (o:Obj),sysModules<acc->AO a o->h.get? acc=some o->qB9 P w H' h acc (HOf acc a)
 cl:∃gs,clausesOf e=⟨target,iter,ifs,0⟩ :: gs
 dnS:∀(it acc:Value) (env:Env) (A:Around) (Q:PySem.Fin->Shared->Prop) (E:Value->Shared->Prop) (s:Shared),wpAny (model P w) A ((compStart e 0 it acc env).onRaise (λx=>do noteFrame x env;standAt theWindowsPlace)) Q E s->wpAny (model P w) (A.under (.compStart e 0 it acc env)) ((model P w).den (.compStart e 0 it acc env)) Q E s
 dnL:∀(it acc:Value) (env:Env) (A:Around) (Q:PySem.Fin->Shared->Prop) (E:Value->Shared->Prop) (s:Shared),wpAny (model P w) A ((compTurn e 0 it acc env).onRaise (λx=>do noteFrame x env;theTreesLotGoes x)) Q E s->wpAny (model P w) (A.under (.compLoop e 0 it acc env)) ((model P w).den (.compLoop e 0 it acc env)) Q E s
 q:∀it acc env,(Code.compLoop e 0 it acc env).quiet=true
 sh:∀(it acc:Addr) (env:Env),compTurn e 0 (.ref it) (.ref acc) env=qCt tpos (.ref it) target env ifs (body acc env) (again (.compLoop e 0 (.ref it) (.ref acc) env))
def qYs{AS:Type}(sub:List (Option Nat))(wi:TI)(g:TG)(tt:TT)(tb:TB AS)(a0:AS)(HOf:Addr->AS->HO):TE:=λσ H Q=>wi σ H λJ H1 =>
 qG6 J g tt tb (λa _ H'=>∀r,H' r=none->Q (.ref r) (upd H' r (HOf r a))) a0 (subσ sub σ) H1
section
variable{X:Cx}{AS:Type}{e target iter:Expr}{ifs:List Expr}{scope sc:Scope}{pos tpos cpos:Pos}{N N':List Str}{sub:List (Option Nat)}{wi:TI}{g:TG}{tt:TT}{tb:TB AS}{newAcc:Sem Value}{body:Addr->Env->Sem Unit}{o0:Obj}{a0:AS}{AO:AS->Obj->Prop}{HOf:Addr->AS->HO}
theorem zB9(GG:GC X.prog X.w e target iter ifs scope tpos newAcc body o0 a0 AO HOf)(hev:eval e X.env=comprehension e scope X.env cpos newAcc false (eval iter X.env))(hN:X.N=N)(hsc:X.env.scope=sc)(O:CmpOk N sc N' scope sub)(hc:X.calm=true)(hi:PI X target iter wi)
  (B:∀C s H fp,PG (qBm X scope N' C s H fp) target g/\PTs (qBm X scope N' C s H fp) ifs tt/\∀acc,PBd (qBm X scope N' C s H fp) AO acc (body acc (qBm X scope N' C s H fp).env) tb)
  (hs:∀x,foldedSetIterable iter X.env x=pure x:=by intro _;rfl):PE X e (qYs sub wi g tt tb a0 HOf):=by
 subst hN hsc;intro aB s σ H Q I h;rw[hev];obtain⟨gs,hcl⟩:=GG.cl;refine hFl (use:=none) hcl hs (qJo I O) O.kind (qGf O) (thn (hi aB s σ H _ I h) λv s1 h1=>thn h1 λitv s2 h2=>?_);obtain⟨it,fp,tn,J,H2,e,I2,T,st2,f2,rd⟩:=h2;subst e;refine zAg (RR:=λacc C=>compPost (model X.prog X.w) X.A X.xe none (EP X aB σ Q) acc C) GG.new GG.nf GG.nc GG.hA0 GG.hHO (by rw[hcl];rfl) rfl GG.dnS GG.dnL GG.q GG.sh hc I2 O T st2 f2 B rd λacc C a H' s' I' fC hn na q=>?_
 obtain⟨m,hn⟩:=hn;obtain⟨f0,f1,f3,f4,f5,f6⟩:=fC;refine⟨m,hn,λh' sb=>?_⟩;exact⟨.ref acc,upd H' acc (HOf acc a),I'.turned (t':=s'.toks) (it:=C) (λb o hb e=>(sb.2 b hb).trans e) f0 f1 f4 f5 f6,rfl,q acc na⟩
theorem zBa(GG:GC X.prog X.w e target iter ifs scope tpos newAcc body o0 a0 AO HOf)
  (hev:∀use,evalThenUse e X.env use=(do let _ ← comprehension e scope X.env cpos newAcc false (eval iter X.env) (some use))) (hN:X.N=N) (hsc:X.env.scope=sc) (O:CmpOk N sc N' scope sub) (hc:X.calm=true) (hi:PI X target iter wi)
  (B:∀C s H fp,PG (qBm X scope N' C s H fp) target g/\PTs (qBm X scope N' C s H fp) ifs tt/\∀acc,PBd (qBm X scope N' C s H fp) AO acc (body acc (qBm X scope N' C s H fp).env) tb)
  (nd:X.N.Nodup) (hy:X.N[i]?=some y) (hx:Loc X.env.scope y) (hsw:swapsWith e (some (.Name y py)) spos.line X.env=pure true:=by rfl)
  (hs:∀x,foldedSetIterable iter X.env x=pure x:=by intro _;rfl) (hf:X.fn y=true\/X.env.scope.names.lookup y=some .local:=by exact kO2):PS X (.Assign [.Name y py] e spos) (qYh (qYs sub wi g tt tb a0 HOf) (qKz i)):=by
 subst hN hsc;intro aB s σ H D I h;rw[exec_Assign_Name_used _ _ _ _ hsw,hev];obtain⟨gs,hcl⟩:=GG.cl;refine hEp (hF9 (hEp ?_));refine hEp (hF2 (hFl (use:=some (assign (.Name y py) X.env)) (Q:=λ_ s'=>SP X aB D .next s') hcl hs (qJo I O) O.kind (qGf O) (thn (hi aB s σ H _ I h) λv s1 h1=>thn h1 λitv s2 h2=>?_)) (λ_ s' hq=>hEq (hEq hq)) λ_ _ e=>e);obtain⟨it,fp,tn,J,H2,e,I2,T,st2,f2,rd⟩:=h2;subst e;refine zAg (RR:=λacc C=>compPost (model X.prog X.w) X.A X.xe (some (assign (.Name y py) X.env)) (λ_ s'=>SP X aB D .next s') acc C) GG.new GG.nf GG.nc GG.hA0 GG.hHO (by rw[hcl];rfl) rfl GG.dnS GG.dnL GG.q GG.sh hc I2 O T st2 f2 B rd λacc C a H' s' I' fC hn na q=>?_
 obtain⟨m,hn⟩:=hn;obtain⟨f0,f1,f3,f4,f5,f6⟩:=fC;show wpAny _ _ (assign (.Name y py) X.env (.ref acc)) _ _ s';refine wpAny_assign_Name (qGp (v:=.ref acc) I' nd hy hx rfl (λs'' I'' ⟨b,sb,ha⟩=>?_) hf);have nCa:C≠b:=by
  rcases ha with z|z
  ·rw[z];exact f1
  ·exact λe=>f5 _ _ z e.symm
 refine⟨m,hn.sameBut sb nCa,λh' sb'=>?_⟩;exact⟨_,upd H' acc (HOf acc a),I''.turned (t':=s''.toks) (it:=C) (λb o hb e=>(sb'.2 b hb).trans e) f0 f1 f4 f5 f6,q acc na⟩
end
section
variable{P:Program}{w:World}{target iter target2 iter2 elt kx vx:Expr}{ifs ifs2:List Expr}{scope:Scope}{pos:Pos}
theorem qX2:GC P w (.SetComp elt [⟨target,iter,ifs,0⟩,⟨target2,iter2,ifs2,0⟩] scope pos) target iter ifs scope iter.pos (newSet (.type "set")) (qD8 (.SetComp elt [⟨target,iter,ifs,0⟩,⟨target2,iter2,ifs2,0⟩] scope pos) iter2) (qGs w) ([]:List Str) (qHl P w) (qYj P w) where
 new:=λA s Q E h=>by
  unfold newSet setsByText;refine hEp (hEp (hF5 (hEq ?_)));dsimp only;simp only[newObj];exact hEp (wpAny_alloc (hEq h))
 nf:=rfl
 nc:=λa o h=>h.nocell
 hA0:=by
  obtain⟨o,e,r⟩:=(qQc P w (h:=(({}:Heap).push (qGs w))) (a:=({}:Heap).objs.size) (Heap.get?_push_size _ rfl)).obj;rw[Heap.get?_push_size _ rfl]at e;cases e;exact r
 hHO:=λH' h acc a o _ x e=>⟨x.set e,⟨o,e⟩,λh1 h2 z k=>z.at k⟩
 cl:=⟨_,rfl⟩
 dnS:=λ_ _ _ _ _ _ _ h=>h
 dnL:=λ_ _ _ _ _ _ _ h=>h
 q:=λ_ _ _=>rfl
 sh:=λit acc env=>by
  unfold qCt qD8;simp only[bind_assoc];rfl
end
def DOb(P:Program)(w:World)(kvs:List (Key×V))(o:Obj):Prop :=
 kvs.length<=sizeLine/\∃(vs:List (Key×Value)) (es:Array DictEntry) (ep:Nat),KV kvs vs/\o.ExactDict/\o.data = .dict es ep/\KeysOf (qAu P w) es/\Pairs (qAu P w) es.toList vs/\(vs.map (·.1)).Nodup
noncomputable def qJj(kx vx:Expr)(acc:Addr)(env:Env):Sem Unit:=do
 let kv ← eval kx env
 let vv ← holding [kv] (eval vx env)
 standAt { kx.pos with endLine:=vx.pos.endLine,endCol:=vx.pos.endCol }
 holding [kv,vv] (dictSet acc kv vv)
def zAy(tk tv:TE):TB (List (Key×V)):=λkvs σ H Q=>tk σ H λx H1=>tv σ H1 λy H2=>∃k:Key,x=kV k/\kvs.length<sizeLine/\Q (qCz kvs k y) σ H2
theorem qIz(xxe:X.xe=λ_ _=>False)(hk:PE X kx tk)(hv:PE X vx tv):PBd X (DOb X.prog X.w) acc (qJj kx vx acc X.env) (zAy tk tv):=by
 intro aB s σ H a o Q I np hx ha h;have h0:=hk _ s σ H _ I h;rw[xxe]at h0;unfold qJj;refine hEp (thn h0 λu s1 ⟨x,H1,I1,r1,q1⟩=>hEp (hEy ?_));have h2:=hv _ s1 σ H1 _ I1 q1;rw[xxe]at h2;refine thn h2 λr s2 ⟨y,H2,I2,r2,k,ex,hl,q⟩=>hEp (hF9 (hEy ?_))
 subst ex;obtain⟨hz,vs,es,ep,kv,d1,d2,d3,d4,d5⟩:=ha;have pa:=I2.pin (acc,o) (hAq _ hAb);have hlen:=kv.length;refine wpAny_dictSet_pairs (hsz:=by omega) (qMm r1) (show s2.heap.DictOf (qAu X.prog X.w) acc vs from ⟨o,es,ep,pa.1,d1,d2,d3,d4,d5⟩) λh3 dd sb=>?_
 obtain⟨o3,es3,ep3,e1,e2,e3,e4,e5,e6⟩:=dd;have hl3:=qC4 a k y;exact⟨qCz a k y,o3,σ,H2,I2.repin (t':=s2.toks+1) (λb u hb e=>(sb.2 b hb).trans e) e1 (λv z=>by rw[e3]at z;cases z) hx np,⟨by omega,_,es3,ep3,kv.put k r2,e2,e3,e4,e5,e6⟩,q⟩
theorem qMu :
  GC P w (.DictComp kx vx [⟨target,iter,ifs,0⟩] scope pos) target iter ifs scope iter.pos (newDict) (qJj kx vx) { cls:=.type "dict",data:=.dict #[] } ([]:List (Key×V)) (DOb P w) (λ_ kvs=>.dK kvs) where
 new:=λA s Q E h=>hEw h (by size_fits)
 nf:=rfl
 nc:=λa o h v z=>by
  obtain⟨_,vs,es,ep,_,_,e,_⟩:=h;rw[e]at z;cases z
 hA0:=⟨hAy _,[],#[],0,.nil,⟨rfl,rfl,rfl⟩,rfl,λe he=>by simp at he,.nil,hCf⟩
 hHO:=λH' h acc a o hb x e=>by
  obtain⟨hz,vs,es,ep,kv,d1,d2,d3,d4,d5⟩:=x;exact qV5 hz (beq_eq_false_iff_ne.mpr (hCn hb)) kv ⟨o,es,ep,e,d1,d2,d3,d4,d5⟩
 cl:=⟨_,rfl⟩
 dnS:=λ_ _ _ _ _ _ _ h=>h
 dnL:=λ_ _ _ _ _ _ _ h=>h
 q:=λ_ _ _=>rfl
 sh:=λ_ _ _=>rfl
theorem FS.entry_dii:entryFor table "dict_itemiterator.__iter__"=some Builtin.«dict_keyiterator.__iter__»:=entryFor_alias (id':="dict_keyiterator.__iter__") (by kernel_rfl) (by first|rfl|decide +kernel|(unfold String.splitOn;simp +decide [String.splitOnAux])) (by decide +kernel) (by kernel_rfl)
noncomputable def itV(kvs:List (Key×V))(i:Nat):List V:=match kvs[i]? with
 |some p=>[kV p.1,p.2]
 |none=>[]
theorem qO2{P:Program}{w:World}{K:PySem.W.Frag}{elts:List Expr}{ct:Nat}{pos:Pos}(it d:Addr)(o:Obj)(kvs:List (Key×V))(vs:List (Key×Value))(es:Array DictEntry)(ep:Nat)
  (hne:d≠it) (kv:KV kvs vs) (hx:o.ExactDict) (hd:o.data = .dict es ep) (hk:KeysOf (qAu P w) es) (hp:Pairs (qAu P w) es.toList vs) (nd:(vs.map (·.1)).Nodup) :
  Turn P w K (.Tuple elts ct pos) (Itp kvs.length (λH=>H d=some (.frz o (.dK kvs))) (itV kvs)) [it] it (λi h=>∃ok ov,IsItemIter h it d i vs.length ep ok ov) where
 mem:=by simp
 obj:=λi h st b hb=>by
  have e:b=it:=by simpa using hb
  subst e;obtain⟨ok,ov,e⟩:=st;exact⟨_,e,λv z=>by cases z⟩
 keep:=λi h h' st k=>by
  obtain⟨ok,ov,e⟩:=st;exact⟨ok,ov,k it (by simp) _ e⟩
 item:=by
  intro X hP hw hK hc i aB s σ H E I hf st hg;subst hP hw hK;obtain⟨hH,hi⟩:=hg;obtain⟨ok,ov,hit⟩:=st;have ho:s.heap.get? d=some o:=(I.hok d _ hH).1;have da:s.heap.DictAt (qAu X.prog X.w) d vs ep:=⟨o,es,ho,hx,hd,hk,hp,nd⟩;obtain⟨⟨k,xv⟩,hkx⟩:∃p,kvs[i]?=some p:=⟨kvs[i],by simp[hi]⟩;have hvl:i<vs.length:=by have:=kv.length;omega
  obtain⟨⟨k',uv⟩,hkv⟩:∃p,vs[i]?=some p:=⟨vs[i],by simp[hvl]⟩;have pr:(k=k'/\qBx xv uv):=by
   have:∀ {a:List (Key×V)} {b:List (Key×Value)} {i:Nat} {p:Key×V} {q:Key×Value},KV a b->a[i]?=some p->b[i]?=some q->p.1=q.1/\qBx p.2 q.2:=by
    intro a b i p q r
    induction r generalizing i with
    |nil=>intro h;simp at h
    |cons h t ih =>
     cases i with
     |zero=>intro e1 e2;simp at e1 e2;subst e1 e2;exact h
     |succ i=>intro e1 e2;exact ih (by simpa using e1) (by simpa using e2)
   exact this kv hkx hkv
  obtain⟨rfl,rv⟩:=pr;refine wpAny_pyNext_items_item hit da hkv λkey h1 hkey ho1 ht hs1 k1=>?_
  refine⟨_,rfl,wpAny_letOwnedTupleGo_items ho1 λh2 hi2 sb2=>?_⟩;have hTit:s.heap.objs.size≠it:=hCn (Heap.lt_size hit);have ht2:h2.get? s.heap.objs.size=some { cls:=.type "tuple",data:=.seq #[key,uv] }:=sb2.extBut _ _ hTit ht;have rk:qBx (kV k) key:=by
   rcases qBb (show keyIs k key=true from hkey) with ⟨j,t,rfl,rfl⟩|⟨x,t,rfl,rfl⟩
   ·exact⟨t,rfl⟩
   ·exact⟨t,rfl⟩
  have ei:itV kvs i=[kV k,xv]:=by unfold itV;rw[hkx]
  refine⟨.ref s.heap.objs.size,upd H s.heap.objs.size (.tup (itV kvs i)),I.turnedT (t':=s.toks) (d':=s.drawn) (ch:=[it]) (λb u hb e=>?_) hf (hAj _) ⟨?_,[key,uv],?_,⟨_,ht2,rfl,_,rfl⟩⟩,rfl,⟨_,I.hok.fresh (hAj _),rfl,rfl⟩,⟨_,_,hi2⟩,λb hb=>?_⟩
  ·have nb:b≠it:=by simpa using hb
   exact sb2.extBut _ _ nb (k1 b u nb e)
  ·rw[ei];show 2<=sizeLine;decide
  ·rw[ei];exact .cons rk (.cons rv .nil)
  ·have e:b=it:=by simpa using hb
   subst e;rw[qAb (Ne.symm hTit)];exact(hf b (by simp)).1
 done:=by
  intro X hP hw hK hc i aB s σ H E I hf st hg;subst hP hw hK;obtain⟨hH,rfl⟩:=hg;obtain⟨ok,ov,hit⟩:=st;have ho:s.heap.get? d=some o:=(I.hok d _ hH).1;have da:s.heap.DictAt (qAu X.prog X.w) d vs ep:=⟨o,es,ho,hx,hd,hk,hp,nd⟩;obtain⟨f0,f1,f2,f3,f4,f5⟩:=hf it (by simp);have hl:=kv.length;exact wpAny_pyNext_items_end (I.ok.hd hc) hit da (by simp;omega) λh' eb=>⟨rfl,I.turned (t':=s.toks) (λb o hb e=>eb b o hb e) f0 f1 f3 f4 f5⟩
 self:=λA i s Q E st h=>by
  obtain⟨ok,ov,hit⟩:=st;have hT:s.TypeIs (.ref it) "dict_itemiterator":=⟨_,hit,rfl⟩;refine hF8 hT hCw (hEx hCw hT FS.entry_dii ?_ (PySem.F.args_dict_itemiterator_iter_1 _));exact hEq ⟨_,rfl,"dict_itemiterator",_,hT,PySem.F.slot_dict_itemiterator_next.lookup,h⟩
def qZ9(td:TE):TI:=λσ H R=>td σ H λx H1=>∃d kvs,x = .ref d/\H1 d=some (.dK kvs)/\∀o,R (Itp kvs.length (λH=>H d=some (.frz o (.dK kvs))) (itV kvs)) (upd H1 d (.frz o (.dK kvs)))
theorem qTu{X:Cx}{oe:Expr}{td:TE}{apos cpos tpos:Pos}{elts:List Expr}{ct:Nat}(he:PE X oe td)(hbase:attributeBase oe "items" X.env (eval oe X.env)=eval oe X.env:=by rfl)(hline:(apos.endLine == cpos.line)=true:=by rfl) :
  PI X (.Tuple elts ct tpos) (.Call (.Attribute oe "items" apos) [] [] cpos) (qZ9 td):=by
 intro aB s σ H R I h;refine hFp hbase hline (thn (he aB s σ H _ I h) λv s1 ⟨x,H1,I1,r1,q1⟩=>?_);obtain⟨d,kvs,e,hH,q⟩:=q1;subst e;cases r1;obtain⟨h1,h2⟩:=qJ3 I1 (x:=.ref d) (v:=.ref d) (T:="dict") rfl (.inr (.inr (.inl ⟨rfl,.inl ⟨kvs,hH⟩⟩)));obtain⟨hz,hsm,vs,kv,o,es,ep,ho,hx,hd,hk,hp,nd⟩:=qPk I1.hok hH;refine⟨"dict","dict.items",hDg,hE6,PySem.F.type_dict_items,h1,h2,Calls.callWith_builtin rfl (hEm ?_)⟩;refine hEx hE6 h1 PySem.F.entry_dict_items ?_ (PySem.F.args_dict_items_1 _);unfold Builtin.«dict.items» Builtin.Dict.noArgs;refine hEp (hEp (hFh h1 ?_));refine hEq ?_;show wpAny _ _ (Builtin.Dict.showsAll d >>= _) _ _ _;unfold Builtin.Dict.showsAll;rw[hEr (by rw[hsm];exact hAo)];refine hEp (hEq (hEp (hEw (hEq ⟨_,rfl,?_⟩))));have I2:Inv X aB σ (upd H1 d (.frz o (.dK kvs))) s1:=by
  refine I1.write (t':=s1.toks) (h':=s1.heap) (x:=d) (e:=d) (by rw[hH];trivial) (.inl rfl) (λ_ _ _ q=>q) ⟨o,ho⟩ ⟨ho,?_⟩;exact⟨hz,hsm,vs,kv,o,es,ep,ho,hx,hd,hk,hp,nd⟩
 have I3:Inv X aB σ (upd H1 d (.frz o (.dK kvs))) { s1 with heap:=s1.heap.push { cls:=.type "dict_items",data:=.fields #[.ref d] } }:=I2.kept (t':=s1.toks) λb o e=>Heap.get?_push_of_some _ e
 have da:(s1.heap.push { cls:=.type "dict_items",data:=.fields #[.ref d] }).DictAt (qAu X.prog X.w) d vs ep:=⟨o,es,Heap.get?_push_of_some _ ho,hx,hd,hk,hp,nd⟩;refine wpAny_pyIter_items (s:={ s1 with heap:=s1.heap.push { cls:=.type "dict_items",data:=.fields #[.ref d] } }) ⟨_,Heap.get?_push_size _ rfl,rfl,rfl⟩ da ?_;have hd1:d<s1.heap.objs.size:=Heap.lt_size ho;have hne:d≠(s1.heap.push { cls:=.type "dict_items",data:=.fields #[.ref d] }).objs.size:=by rw[Heap.size_push];exact hAt (hB5 hd1)
 refine⟨_,[(s1.heap.push { cls:=.type "dict_items",data:=.fields #[.ref d] }).objs.size],_,_,_,rfl,I3.kept (t':=s1.toks) λb o e=>Heap.get?_push_of_some _ e,qO2 _ d o kvs vs es ep hne kv hx hd hk hp nd,⟨_,_,Heap.get?_push_size _ rfl⟩,λb hb=>?_,q o⟩;have e:b=(s1.heap.push { cls:=.type "dict_items",data:=.fields #[.ref d] }).objs.size:=by simpa using hb
 subst e;exact I3.fpOk (hAj _) (I3.hok.fresh (hAj _))
noncomputable def VwS(v d:Addr):HO:=.ext λh=>h.IsValuesView v d
def zA8:V->List V->Hp->VK->Prop:=λx xs H Q=>∃d kvs,x = .ref d/\xs=[]/\H d=some (.dK kvs)/\∀v,H v=none->Q (.ref v) (upd H v (VwS v d))
section
variable{X:Cx}
theorem qRo:MtR X "dict.values" zA8:=by
 intro aB s σ H x xs v us Q I rx r h;obtain⟨d,kvs,rfl,rfl,hH,q⟩:=h;cases rx;cases r;obtain⟨hz,hsm,vs,kv,o,es,ep,ho,hx,hd,hk,hp,nd⟩:=qPk I.hok hH;have h1:s.TypeIs (.ref d) "dict":=⟨o,ho,hx.1⟩;refine hEx hDx h1 PySem.F.entry_dict_values ?_ (PySem.F.args_dict_values_1 _);refine hEp ?_;unfold Builtin.Dict.noArgs;refine hEp (hFh h1 (hEq ?_));show wpAny _ _ (Builtin.Dict.showsAll d >>= _) _ _ _;unfold Builtin.Dict.showsAll;rw[hEr (by rw[hsm];exact hAo)];refine hEp (hEq (hEp (hEw (hEq ⟨_,rfl,?_⟩))));refine⟨.ref s.heap.objs.size,_,I.laid (t':=s.toks) (a:=s.heap.objs.size) (o:=VwS s.heap.objs.size d) (λb o e=>Heap.get?_push_of_some _ e) (hAj _) ⟨⟨_,Heap.get?_push_size _ rfl,rfl,rfl⟩,⟨_,Heap.get?_push_size _ rfl⟩,λh1 h2 z k=>?_⟩,rfl,q _ (I.hok.fresh (hAj _))⟩;obtain⟨o',e',r'⟩:=z;exact⟨o',k _ e',r'⟩
theorem qZ0:∀ {a:List (Key×V)} {b:List (Key×Value)} {i:Nat} {p:Key×V} {q:Key×Value},KV a b->a[i]?=some p->b[i]?=some q->p.1=q.1/\qBx p.2 q.2:=by
 intro a b i p q r
 induction r generalizing i with
 |nil=>intro h;simp at h
 |cons h t ih =>
  cases i with
  |zero=>intro e1 e2;simp at e1 e2;subst e1 e2;exact h
  |succ i=>intro e1 e2;exact ih (by simpa using e1) (by simpa using e2)
theorem qXu:∀ {a:List (Key×V)} {b:List (Key×Value)},KV a b->qBd (a.map (·.2)) (b.map (·.2)):=by
 intro a b r
 induction r with
 |nil=>exact .nil
 |cons h t ih=>exact .cons h.2 ih
theorem qHq(hc:X.calm=true):qCa X (.type "list") (λxs H Q=>∃v d kvs,xs=[.ref v]/\H v=some (VwS v d)/\H d=some (.dK kvs)/\∀l,H l=none->Q (.ref l) (upd H l (.lst (kvs.map (·.2))))):=by
 intro aB s σ H xs us Q I r h;obtain⟨v,d,kvs,rfl,hv,hH,q⟩:=h;obtain⟨u,rfl,rx⟩:=qC8 r;cases rx;obtain⟨hz,hsm,vs,kv,o,es,ep,ho,hx,hd,hk,hp,nd⟩:=qPk I.hok hH;have vw:s.heap.IsValuesView v d:=(I.hok v _ hv).1;have hlen:=kv.length;refine PySem.W.kdl_call (PySem.W.kdl_values (knd:=qAu X.prog X.w) (kvs:=vs) (ep:=ep)) (I.ok.hd hc) ⟨vw,⟨o,es,ho,hx,hd,hk,hp,nd⟩⟩ (by omega) λh' tk acc' c' hk' hS' hacc=>?_
 have eacc:acc'.toList=vs.map (·.2):=by
  refine hDk λi=>?_
  by_cases hi:i<vs.length
  ·have hi':i<acc'.size:=by rw[hacc.1];exact hi
   obtain⟨k,e⟩:=hacc.2 i _ (hAv hi');rw[hB0,hAv hi',hAc,e];rfl
  ·rw[hB0,hCg (by rw[hacc.1];omega),hC2 (by rw[hA4];omega)]
 refine⟨.ref s.heap.objs.size,_,I.laid (t':=tk) (a:=s.heap.objs.size) (o:=.lst (kvs.map (·.2))) (λb o e=>hk' b o e) (hAj _) ⟨by rw[hA4];exact hz,vs.map (·.2),c',qXu kv,?_⟩,rfl,q _ (I.hok.fresh (hAj _))⟩;rw[<-eacc,Array.toArray_toList];exact hS'
end
end L2
namespace L2
open PySem PySem.Spec PyProof.Rows PySem.W
noncomputable abbrev Rng(n:Nat):Array Nat:=List.toArray (List.range n)
def Gd(n:Nat)(p:Array Nat):Prop:=p.Perm (Rng n)
theorem Gd.lt(h:Gd n p)(h0:0<n)(i:Nat):p.getD i 0<n:=by
 by_cases hi:i<p.size
 ·have e:p.getD i 0=p[i]:=by simp[Array.getD,hi]
  rw[e];have m:p[i]∈p.toList:=by simp
  have m2:=(hD9.mp h).mem_iff.mp m
  simpa using m2
 ·have e:p.getD i 0=0:=by simp[Array.getD,hi]
  rw[e];exact h0
theorem Gd.rev(h:Gd n p)(i j:Nat):Gd n (kas_rev p i j):=(mirror_perm _ _ _ _).trans h
theorem Gd.bub(h:Gd n p)(i j:Nat):Gd n (bubble p i j):=(bubble_perm _ _ _).trans h
section
variable{n:Nat}{cmp:Nat->Nat->(Bool->Shared->Prop)->Shared->Prop}{s:Shared}(hask:∀i j C,i<n->j<n->(∀b,C b s)->cmp i j C s)(h0:0<n)
include hask h0
end
section
variable{X:Cx}
theorem qMa:∀ {as:List Addr} {us:List Value},qBd (as.map V.ref) us->us=as.map Value.ref
 |[],_,r=>by cases r;rfl
 |a :: as,_,r=>by
  cases r with
  |cons h t=>cases h;rw[qMa t];rfl
theorem qGn:∀as:List Addr,qBd (as.map V.ref) (as.map Value.ref)
 |[]=>.nil
 |a :: as=>.cons rfl (qGn as)
end
section
variable{AS:Type}{g:TG}{tt:TT}{tb:TB AS}{Q:AS->St->Hp->Prop}{a0:AS}{σ0:St}{H0:Hp}
def NxG(n i:Nat)(Pv:Nat->AS->St->Hp->Prop)(a:AS)(σ:St)(H:Hp):Prop:=∃m',m'<n-i/\m'=n-(i+1)/\i+1<=n/\Pv (i+1) a σ H
theorem nxg(hi:i<n)(h:Pv (i+1) a σ H):NxG n i Pv a σ H:=⟨_,by omega,rfl,hi,h⟩
theorem qOo{K:PySem.W.Frag}{p:Addr}{xs:List V}(Pv:Nat->AS->St->Hp->Prop)(h0:Pv 0 a0 σ0 H0)(hl:∀i a σ H,i<=xs.length->Pv i a σ H->SqL K H p xs)
  (hs:∀i x a σ H,xs[i]?=some x->Pv i a σ H->g x σ H λσ2 H2=>tt σ2 H2 λb H3=>if b=true then tb a σ2 H3 (NxG xs.length i Pv) else NxG xs.length i Pv a σ2 H3)
  (hd:∀a σ H,Pv xs.length a σ H->Q a σ H):qG6 (Itl K p) g tt tb Q a0 σ0 H0:=by
 refine⟨λi m a σ H=>m=xs.length-i/\i<=xs.length/\Pv i a σ H,⟨xs.length,by simp,hAy _,h0⟩,?_⟩;rintro i m a σ H ⟨rfl,hi,pv⟩;have q:=hl i a σ H hi pv;by_cases hlt:i<xs.length
 ·refine .inr ⟨⟨xs,xs[i],q,by simp[hlt]⟩,λx H' y=>?_⟩;obtain⟨e,y⟩:=y;subst e;exact hs i x a σ _ (y xs q) pv
 ·have e:i=xs.length:=by omega
  subst e;exact .inl ⟨⟨xs,q,hAj _⟩,hd a σ H pv⟩
theorem qSb{K:PySem.W.Frag}{p:Addr}{xs:List V}(Pv:Nat->AS->St->Hp->Prop)(h0:Pv 0 a0 σ0 H0)(hl:∀i a σ H,i<=xs.length->Pv i a σ H->SqT K H p xs)
  (hs:∀i x a σ H,xs[i]?=some x->Pv i a σ H->g x σ H λσ2 H2=>tt σ2 H2 λb H3=>if b=true then tb a σ2 H3 (NxG xs.length i Pv) else NxG xs.length i Pv a σ2 H3)
  (hd:∀a σ H,Pv xs.length a σ H->Q a σ H):qG6 (Itt K p) g tt tb Q a0 σ0 H0:=by
 refine⟨λi m a σ H=>m=xs.length-i/\i<=xs.length/\Pv i a σ H,⟨xs.length,by simp,hAy _,h0⟩,?_⟩;rintro i m a σ H ⟨rfl,hi,pv⟩;have q:=hl i a σ H hi pv;by_cases hlt:i<xs.length
 ·refine .inr ⟨⟨xs,xs[i],q,by simp[hlt]⟩,λx H' y=>?_⟩;obtain⟨e,y⟩:=y;subst e;exact hs i x a σ _ (y xs q) pv
 ·have e:i=xs.length:=by omega
  subst e;exact .inl ⟨⟨xs,q,hAj _⟩,hd a σ H pv⟩
theorem qX3(Pv:Nat->AS->St->Hp->Prop)(h0:Pv 0 a0 σ0 H0)(hl:∀i a σ H,i<=n->Pv i a σ H->Ls H)
  (hs:∀i a σ H T,i<n->Pv i a σ H->H T=none->g (.ref T) σ (upd H T (.tup (xv i))) λσ2 H2=>tt σ2 H2 λb H3=>if b=true then tb a σ2 H3 (NxG n i Pv) else NxG n i Pv a σ2 H3)
  (hd:∀a σ H,Pv n a σ H->Q a σ H):qG6 (Itp n Ls xv) g tt tb Q a0 σ0 H0:=by
 refine⟨λi m a σ H=>m=n-i/\i<=n/\Pv i a σ H,⟨n,by simp,hAy _,h0⟩,?_⟩;rintro i m a σ H ⟨rfl,hi,pv⟩;have q:=hl i a σ H hi pv;by_cases hlt:i<n
 ·refine .inr ⟨⟨q,hlt⟩,λx H' y=>?_⟩;obtain⟨T,e1,e2,e3⟩:=y;subst e2 e3;exact hs i a σ H T hlt pv e1
 ·have e:i=n:=by omega
  subst e;exact .inl ⟨⟨q,rfl⟩,hd a σ H pv⟩
end
section
variable{X:Cx}
theorem qLg:qCa X (.type "range") (λxs H Q=>∃j:Int,xs=[.int j]/\0<=j/\j<=1000/\∀r,H r=none->Q (.ref r) (upd H r (.rng 0 j))):=by
 intro aB s σ H xs us Q I r h;obtain⟨j,rfl,h0,h1,q⟩:=h;obtain⟨u,rfl,t,rfl⟩:=qC8 r;refine call_range_1 ?_;exact⟨.ref s.heap.objs.size,_,I.laid (a:=s.heap.objs.size) (o:=.rng 0 j) (λb o e=>Heap.get?_push_of_some _ e) (hAj _) ⟨_,_,_,Heap.get?_push_size _ rfl⟩,rfl,q _ (I.hok.fresh (hAj _))⟩
theorem qKu:∀ {its:List Value} {n:Nat} (k:Nat),its.length=n->(∀i v,its[i]?=some v->∃t,v=Value.int ((k+i:Nat):Int) t)->qBd ((List.range' k n).map λ(i:Nat)=>V.int (i:Int)) its
 |[],n,k,hl,_=>by
  have e:n=0:=hl.symm;subst e;exact .nil
 |v :: r,n,k,hl,h=>by
  obtain⟨m,rfl⟩:∃m,n=m+1:=⟨n-1,by simp at hl;omega⟩;rw[List.range'_succ,hAn];refine .cons ?_ (qKu (k+1) (by simpa using hl) λi v hv=>?_)
  ·obtain⟨t,e⟩:=h 0 v rfl;exact⟨t,by rw[e,Nat.add_zero]⟩
  ·obtain⟨t,e⟩:=h (i+1) v (by simpa using hv);exact⟨t,by rw[e,show k+(i+1)=k+1+i by omega]⟩
theorem qJr(hc:X.calm=true):qCa X (.type "list") (λxs H Q=>∃(r:Addr) (j:Int),xs=[.ref r]/\H r=some (.rng 0 j)/\0<=j/\j<=1000/\∀l,H l=none->Q (.ref l) (upd H l (.lst ((List.range j.toNat).map λ(i:Nat)=>V.int (i:Int))))):=by
 intro aB s σ H xs us Q I r h;obtain⟨p,j,rfl,hp,h0,h1,q⟩:=h;obtain⟨u,rfl,rx⟩:=qC8 r;cases rx;obtain⟨t,u,v,e⟩:=I.hok p _ hp;refine call_list_range (n:=j.toNat) (a:=0) (b:=j) (c:=1) (I.ok.hd hc) e (small_one (by decide) (by decide) (by omega) (by omega)) (by rw[rangeSize_one];split <;> omega) (by omega) λh' tk acc' c' hk hS hacc=>?_
 refine⟨.ref s.heap.objs.size,_,I.laid (t':=tk) (a:=s.heap.objs.size) (o:=.lst ((List.range j.toNat).map λ(i:Nat)=>V.int (i:Int))) (λb o e=>hk b o e) (hAj _) ⟨?_,acc'.toList,c',?_,by rw[Array.toArray_toList];exact hS⟩,rfl,q _ (I.hok.fresh (hAj _))⟩
 ·rw[hA4,hB1];exact hBz (qAd (by omega))
 ·rw[List.range_eq_range'];refine qKu 0 (by rw[hBb];exact hacc.1) λi v hv=>?_
  obtain⟨t,e⟩:=hacc.2 i v (by rw[<-hB0];exact hv);exact⟨t,by rw[e];congr 1;omega⟩
end
structure Ordr(lt:Nat->Nat->Bool):Prop where
 asym:∀a b,lt a b=true->lt b a=false
 tr:∀a b c,lt b a=false->lt c b=false->lt c a=false
theorem Ordr.irr(o:Ordr lt)(a:Nat):lt a a=false:=by
 cases h:lt a a with
 |false=>rfl
 |true=>exact(o.asym a a h).symm.trans h▸rfl
def SPk(lt:Nat->Nat->Bool)(p:Array Nat)(k:Nat):Prop:=∀i j,i<j->j<k->lt (p.getD j 0) (p.getD i 0)=false
def DPk(lt:Nat->Nat->Bool)(p:Array Nat)(k:Nat):Prop:=∀i j,i<j->j<k->lt (p.getD i 0) (p.getD j 0)=false
def ERk(lt:Nat->Nat->Bool)(p:Array Nat)(a b:Nat):Prop:=∀i j,a<=i->i<b->a<=j->j<b->lt (p.getD i 0) (p.getD j 0)=false
theorem Gd.size(h:Gd n p):p.size=n:=by
 have:=Array.Perm.size_eq h
 simpa using this
theorem qH0(hj:j<=p.size)(k:Nat):(kas_rev p i j).getD k 0=if i<=k/\k<j then p.getD (i+j-1-k) 0 else p.getD k 0:=by
 unfold kas_rev;rw[hB9,getElem?_mirror_all hj];split <;> rw[<-hB9]
theorem qWa(hk:k<p.size)(hl:l<=k)(i:Nat):(bubble p k (k-l)).getD i 0=if i=l then p.getD k 0 else if l<i/\i<=k then p.getD (i-1) 0 else p.getD i 0:=by
 rw[hB9,getElem?_bubble hk _ (by omega)];have e:k-(k-l)=l:=by omega
 rw[e];by_cases e1:i=l
 ·rw[hEs e1,hEs e1,<-hB9]
 ·rw[hEr e1,hEr e1];by_cases e2:l<i/\i<=k
  ·rw[hEs e2,hEs e2,<-hB9]
  ·rw[hEr e2,hEr e2,<-hB9]
section
variable{lt:Nat->Nat->Bool}(o:Ordr lt)
include o
theorem SPk.snoc(h:SPk lt p k)(h1:1<=k)(hk:lt (p.getD k 0) (p.getD (k-1) 0)=false):SPk lt p (k+1):=λi j hij hj=>by
 by_cases e:j=k
 ·subst e;by_cases e2:i=j-1
  ·subst e2;exact hk
  ·exact o.tr _ _ _ (h i (j-1) (by omega) (by omega)) hk
 ·exact h i j hij (by omega)
theorem DPk.snoc(h:DPk lt p k)(h1:1<=k)(hk:lt (p.getD (k-1) 0) (p.getD k 0)=false):DPk lt p (k+1):=λi j hij hj=>by
 by_cases e:j=k
 ·subst e;by_cases e2:i=j-1
  ·subst e2;exact hk
  ·exact o.tr _ _ _ hk (h i (j-1) (by omega) (by omega))
 ·exact h i j hij (by omega)
omit o in
theorem DPk.rev(h:DPk lt p k)(hb:b<=p.size)(hbk:b<=k)(e:ERk lt p a b):DPk lt (kas_rev p a b) k:=λi j hij hj=>by
 rw[qH0 hb,qH0 hb];split
 ·split
  ·exact e _ _ (by omega) (by omega) (by omega) (by omega)
  ·exact h _ _ (by omega) (by omega)
 ·split
  ·exact h _ _ (by omega) (by omega)
  ·exact h _ _ (by omega) (by omega)
omit o in
theorem DPk.turn(h:DPk lt p k)(hk:k<=p.size):SPk lt (kas_rev p 0 k) k:=λi j hij hj=>by
 rw[qH0 hk,qH0 hk,hEs (by omega),hEs (by omega)];exact h _ _ (by omega) (by omega)
variable{n:Nat}{cmp:Nat->Nat->(Bool->Shared->Prop)->Shared->Prop}{s:Shared}(hask:∀i j C,i<n->j<n->C (lt i j) s->cmp i j C s)(h0:0<n)
include hask h0
theorem qQa(g:Gd n p)(N:Nat)(hq:∀m,SPk lt p m->1<=m->m<=N->(m<N->lt (p.getD m 0) (p.getD (m-1) 0)=true)->Q m s):∀f m,1<=m->m+f=N->SPk lt p m->(kas_asc p f m).kasWp cmp Q s
 |0,m,h1,hN,sp=>hq m sp h1 (by omega) (λz=>by omega)
 |f+1,m,h1,hN,sp=>by
  refine hask _ _ _ (g.lt h0 _) (g.lt h0 _) ?_;dsimp only;split
  ·rename_i c;exact hq m sp h1 (by omega) λ_=>c
  ·rename_i c;exact qQa g N hq f (m+1) (by omega) (by omega) (sp.snoc o h1 (by simpa using c))
theorem qIq(N:Nat)(hN:N<=n)(hq:∀p m q,Gd n p->1<=m->q+1<=m->m<=N->DPk lt p m->ERk lt p (m-(q+1)) m->Q (p,m,q) s):∀f p m q,Gd n p->1<=m->q+1<=m->m+f=N->DPk lt p m->ERk lt p (m-(q+1)) m->(kas_desc f p m q).kasWp cmp Q s
 |0,p,m,q,g,h1,h2,h3,dp,er=>hq p m q g h1 h2 (by omega) dp er
 |f+1,p,m,q,g,h1,h2,h3,dp,er=>by
  have sz:=g.size;refine hask _ _ _ (g.lt h0 _) (g.lt h0 _) ?_;dsimp only;split
  ·rename_i c;have dp':=dp.snoc o h1 (o.asym _ _ c);have one:∀p':Array Nat,ERk lt p' (m+1-(0+1)) (m+1):=λp' i j hi hi' hj hj'=>by
    have e1:i=m:=by omega
    have e2:j=m:=by omega
    subst e1 e2;exact o.irr _
   split
   ·exact qIq N hN hq f _ (m+1) 0 (g.rev _ _) (by omega) (by omega) (by omega) (dp'.rev (by omega) (by omega) er) (one _)
   ·exact qIq N hN hq f p (m+1) 0 g (by omega) (by omega) (by omega) dp' (one _)
  ·rename_i c;refine hask _ _ _ (g.lt h0 _) (g.lt h0 _) ?_;dsimp only;split
   ·exact hq p m q g h1 h2 (by omega) dp er
   ·rename_i d;have c':lt (p.getD m 0) (p.getD (m-1) 0)=false:=by simpa using c
    have d':lt (p.getD (m-1) 0) (p.getD m 0)=false:=by simpa using d
    refine qIq N hN hq f p (m+1) (q+1) g (by omega) (by omega) (by omega) (dp.snoc o h1 d') λi j hi hi' hj hj'=>?_
    by_cases ei:i=m
    ·subst ei;by_cases ej:j=i
     ·subst ej;exact o.irr _
     ·exact o.tr _ _ _ (er (i-1) j (by omega) (by omega) (by omega) (by omega)) c'
    ·by_cases ej:j=m
     ·subst ej;exact o.tr _ _ _ d' (er i (j-1) (by omega) (by omega) (by omega) (by omega))
     ·exact er i j (by omega) (by omega) (by omega) (by omega)
theorem qNq(g:Gd n p)(N:Nat)(hN:N<=n)(hq:∀m p,Gd n p->SPk lt p m->1<=m->m<=N->Q (m,p) s)(m:Nat)(h1:1<=m)(h2:m<=N)(dp:DPk lt p m):(kas_tail3 m N p).kasWp cmp Q s:=by
 unfold kas_tail3;rw[KasT.kasWp_bind];have sz:=g.size;exact qQa o hask h0 (g.rev _ _) N (λm' sp a b _=>hq m' _ (g.rev _ _) sp a b) _ _ h1 (by omega) (dp.turn (by omega))
theorem qGr(g:Gd n p)(N:Nat)(hN:N<=n)(hq:∀m p,Gd n p->SPk lt p m->1<=m->m<=N->Q (m,p) s)(m:Nat)(h2:m+1<=N)(dp:DPk lt p (m+1)):(kas_descPart m N p).kasWp cmp Q s:=by
 unfold kas_descPart;rw[KasT.kasWp_bind];refine qIq o hask h0 N hN (λp' m' q g' a b c dp' er=>?_) _ _ _ _ g (by omega) (by omega) (by omega) dp λi j hi hi' hj hj'=>?_
 ·have sz:=g'.size;dsimp only;split
  ·exact qNq o hask h0 (g'.rev _ _) N hN hq _ a c (dp'.rev (by omega) (hAj _) er)
  ·exact qNq o hask h0 g' N hN hq _ a c dp'
 ·have e1:i=m:=by omega
  have e2:j=m:=by omega
  subst e1 e2;exact o.irr _
theorem qTh(g:Gd n p)(hq:∀m p,Gd n p->SPk lt p m->1<=m->m<=n->Q (m,p) s):(kas_count n p).kasWp cmp Q s:=by
 unfold kas_count;rw[KasT.kasWp_bind];have sz:=g.size;refine qQa o hask h0 g n (λm sp m1 mn st=>?_) _ _ (hAj _) (by omega) (λi j hij hj=>by omega);split
 ·exact hq _ _ g sp m1 mn
 ·rename_i c;have c':m≠n:=by simpa using c
  have lt1:=st (by omega);have ge1:=o.asym _ _ lt1;split
  ·refine hask _ _ _ (g.lt h0 _) (g.lt h0 _) ?_;dsimp only;split
   ·exact hq _ _ g sp m1 mn
   ·rename_i d;have d':lt (p.getD 0 0) (p.getD (m-1) 0)=false:=by simpa using d
    have lo:∀i,i<m->lt (p.getD (m-1) 0) (p.getD i 0)=false:=λi hi=>by
     by_cases e:i=m-1
     ·subst e;exact o.irr _
     ·exact sp i (m-1) (by omega) (by omega)
    have hi0:∀j,j<m->lt (p.getD j 0) (p.getD 0 0)=false:=λj hj=>by
     by_cases e:j=0
     ·subst e;exact o.irr _
     ·exact sp 0 j (by omega) hj
    have er:ERk lt p 0 m:=λi j _ hi _ hj=>o.tr _ _ _ (o.tr _ _ _ (lo j hj) d') (hi0 i hi)
    refine qGr o hask h0 (g.rev _ _) n (hAj _) hq m (by omega) λi j hij hj=>?_
    rw[qH0 (by omega),qH0 (by omega)];by_cases ej:j=m
    ·subst ej;rw[hEs (by omega),hEr (by omega)];exact o.tr _ _ _ ge1 (er _ _ (by omega) (by omega) (by omega) (by omega))
    ·rw[hEs (by omega),hEs (by omega)];exact er _ _ (by omega) (by omega) (by omega) (by omega)
  ·have e:m=1:=by omega
   subst e;refine qGr o hask h0 g n (hAj _) hq 1 (by omega) λi j hij hj=>?_
   have e1:i=0:=by omega
   have e2:j=1:=by omega
   subst e1 e2;exact ge1
theorem qIp(g:Gd n p)(k:Nat)(sp:SPk lt p k)(hq:∀l,l<=k->(∀i,i<l->lt (p.getD k 0) (p.getD i 0)=false)->(∀i,l<=i->i<k->lt (p.getD i 0) (p.getD k 0)=false)->Q l s) :
  ∀f l r,l<=r->r<=k->r-l<=f->(∀i,i<l->lt (p.getD k 0) (p.getD i 0)=false)->(∀i,r<=i->i<k->lt (p.getD i 0) (p.getD k 0)=false)->(kas_place p k f l r).kasWp cmp Q s
 |0,l,r,h1,h2,h3,a,b=>hq l (by omega) a λi hi hk=>b i (by omega) hk
 |f+1,l,r,h1,h2,h3,a,b=>by
  unfold kas_place;split
  ·exact hq l (by omega) a λi hi hk=>b i (by omega) hk
  ·refine hask _ _ _ (g.lt h0 _) (g.lt h0 _) ?_;dsimp only;split
   ·rename_i c;have c':=o.asym _ _ c;refine qIp g k sp hq f l ((l+r) / 2) (by omega) (by omega) (by omega) a λi hi hk=>?_
    by_cases e:i=(l+r) / 2
    ·subst e;exact c'
    ·exact o.tr _ _ _ c' (sp _ _ (by omega) hk)
   ·rename_i c;have c':lt (p.getD k 0) (p.getD ((l+r) / 2) 0)=false:=by simpa using c
    refine qIp g k sp hq f ((l+r) / 2+1) r (by omega) h2 (by omega) (λi hi=>?_) b;by_cases e:i=(l+r) / 2
    ·subst e;exact c'
    ·exact o.tr _ _ _ (sp i ((l+r) / 2) (by omega) (by omega)) c'
theorem qVh(hq:∀p,Gd n p->SPk lt p n->Q p s):∀f p k,Gd n p->k+f=n->SPk lt p k->(kas_bin f p k).kasWp cmp Q s
 |0,p,k,g,h1,sp=>hq p g (by rw[<-h1];exact sp)
 |f+1,p,k,g,h1,sp=>by
  unfold kas_bin;rw[KasT.kasWp_bind];have sz:=g.size;refine qIp o hask h0 g k sp (λl hl a b=>qVh hq f _ _ (g.bub _ _) (by omega) λi j hij hj=>?_) k 0 k (by omega) (hAj _) (by omega) (λi hi=>by omega) (λi hi hk=>by omega);rw[qWa (by omega) hl,qWa (by omega) hl];by_cases ej:j=l
  ·rw[hEs ej,hEr (by omega),hEr (by omega)];exact a i (by omega)
  ·rw[hEr ej];by_cases ej2:l<j/\j<=k
   ·rw[hEs ej2];by_cases ei:i=l
    ·rw[hEs ei];exact b (j-1) (by omega) (by omega)
    ·rw[hEr ei];split
     ·exact sp _ _ (by omega) (by omega)
     ·exact sp _ _ (by omega) (by omega)
   ·rw[hEr ej2,hEr (by omega),hEr (by omega)];exact sp _ _ hij (by omega)
theorem qP9(hq:∀p,Gd n p->SPk lt p n->Q p s):(kas_sort n).kasWp cmp Q s:=by
 unfold kas_sort;rw[KasT.kasWp_bind];refine qTh o hask h0 (Array.Perm.refl _) (λm p g sp m1 mn=>?_);dsimp only;have e:max m 1=m:=by omega
 rw[e];split
 ·exact qVh o hask h0 hq _ _ _ g (by omega) sp
 ·have e2:m=n:=by omega
  subst e2;exact hq _ g sp
end
theorem txTri:∀a b:List Nat,a<b\/a=b\/b<a
 |[],[]=>.inr (.inl rfl)
 |[],_ :: _=>.inl (List.nil_lt_cons _ _)
 |_ :: _,[]=>.inr (.inr (List.nil_lt_cons _ _))
 |x :: a,y :: b=>by
  rcases Nat.lt_trichotomy x y with h|h|h
  ·exact .inl (hEi.mpr (.inl h))
  ·subst h;rcases txTri a b with h|h|h
   ·exact .inl (hEi.mpr (.inr ⟨rfl,h⟩))
   ·exact .inr (.inl (by rw[h]))
   ·exact .inr (.inr (hEi.mpr (.inr ⟨rfl,h⟩)))
  ·exact .inr (.inr (hEi.mpr (.inl h)))
theorem zAw{x y:Str}(h:x.cps.toList=y.cps.toList):x=y:=by
 cases x;cases y;simp only[Str.mk.injEq];exact Array.toList_inj.mp h
noncomputable def qHn(x y:Str):Bool:=decide (x.cps.toList<y.cps.toList)
theorem qCm(x:Str):qHn x x=false:=hEu (List.lt_irrefl _)
theorem qCb(h:qHn x y=true)(h':qHn y z=true):qHn x z=true:=hEt (List.lt_trans (hEz h) (hEz h'))
theorem qD6(x y:Str):qHn x y=true\/x=y\/qHn y x=true:=by
 rcases txTri x.cps.toList y.cps.toList with h|h|h
 ·exact .inl (hEt h)
 ·exact .inr (.inl (zAw h))
 ·exact .inr (.inr (hEt h))
theorem qIa(vs:List Value):(List.range vs.length).map (λi=>vs.getD i Value.none)=vs:=by
 refine hDk λi=>?_
 by_cases hi:i<vs.length
 ·rw[hAc,hCb hi,hA8 hi];show some (vs.getD i Value.none)=_;rw[hAa,hA8 hi];rfl
 ·rw[hC2 (by simp;omega),hC2 (by omega)]
theorem zAf(g:Gd n o)(hi:i∈o.toList):i<n:=by
 have:=(hD9.mp g).mem_iff.mp hi
 simpa using this
theorem qV2(g:Gd n o):o.toList.length=n:=by
 have:=g.size
 simpa using this
theorem qRc{as:List Addr}{l:List Nat}(h:∀i∈l,i<as.length):l.map (λi=>(as.map Value.ref).getD i Value.none)=(l.map λi=>as.getD i 0).map Value.ref:=by
 rw[hBi];refine hC9 λi hi=>?_
 have:=h i hi;show(as.map Value.ref).getD i Value.none=Value.ref (as.getD i 0);rw[hAa,hAa,hAc,hA8 this];rfl
end L2
namespace L2
open PySem PySem.Spec PyProof.Rows PySem.W
end L2
namespace L2
open PySem PySem.Spec PyProof.Rows
def LOb(xs:List V)(o:Obj):Prop:=xs.length<=sizeLine/\∃(its:List Value) (n:Nat),qBd xs its/\o={ cls:=.type "list",data:=.seq its.toArray n }
noncomputable def qOg(elt:Expr)(acc:Addr)(env:Env):Sem Unit:=do
 let _ ← call (.builtin "list.append") [.ref acc,<-eval elt env]
def zCo(te:TE):TB (List V):=λxs σ H Q=>te σ H λv H'=>xs.length<sizeLine/\Q (xs++[v]) σ H'
theorem qTz(xxe:X.xe=λ_ _=>False)(he:PE X elt te):PBd X LOb acc (qOg elt acc X.env) (zCo te):=by
 intro aB s σ H a o Q I np hx ha h;have h0:=he _ s σ H _ I h;rw[xxe]at h0;unfold qOg;refine hEp (thn h0 λv s1 ⟨y,H1,I1,r1,hl,q⟩=>hEp ?_);have pa:=I1.pin (acc,o) (hAq _ hAb);obtain⟨hz,its,n,rv,rfl⟩:=ha;have hlen:=rv.length;refine wpAny_list_append_plain (items:=its.toArray) ⟨n,pa.1⟩ (λh' pl sb=>?_) (by rw[hAu];omega);obtain⟨k',pl⟩:=pl;refine hEq ⟨a++[y],_,σ,H1,I1.repin (t':=s1.toks) (λb u hb e=>(sb.2 b hb).trans e) pl (λv z=>by cases z) hx np,⟨by rw[hAk];show _+1<=_;omega,its++[v],k',rv.append (.cons r1 .nil),by simp⟩,q⟩
section
variable{P:Program}{w:World}{target iter target2 iter2 elt:Expr}{ifs ifs2:List Expr}{scope:Scope}{pos:Pos}
theorem qUh:GC P w (.ListComp elt [⟨target,iter,ifs,0⟩,⟨target2,iter2,ifs2,0⟩] scope pos) target iter ifs scope iter.pos (newList []) (qD8 (.ListComp elt [⟨target,iter,ifs,0⟩,⟨target2,iter2,ifs2,0⟩] scope pos) iter2) (seqObj "list" #[] 0) ([]:List V) LOb (λ_ xs=>.lst xs) where
 new:=λA s Q E h=>hG1 h (hAy _)
 nf:=rfl
 nc:=λa o h v z=>by
  obtain⟨_,its,n,_,rfl⟩:=h;cases z
 hA0:=⟨hAy _,[],0,.nil,rfl⟩
 hHO:=λH' h acc a o hb x e=>by
  obtain⟨hz,its,n,rv,rfl⟩:=x;exact⟨hz,its,n,rv,e⟩
 cl:=⟨_,rfl⟩
 dnS:=λ_ _ _ _ _ _ _ h=>h
 dnL:=λ_ _ _ _ _ _ _ h=>h
 q:=λ_ _ _=>rfl
 sh:=λit acc env=>by
  unfold qCt qD8;simp only[bind_assoc];rfl
end
end L2
namespace L2
open PySem PySem.Spec PyProof.Rows
theorem qFq{X:Cx}{target iter elt:Expr}{ifs:List Expr}{scope sc:Scope}{pos:Pos}{N N':List Str}{sub:List (Option Nat)}{wi:TI}{g:TG}{tt:TT}{te:TE}(hN:X.N=N)(hsc:X.env.scope=sc)
  (O:CmpOk N sc N' scope sub) (hc:X.calm=true) (hi:PI X target iter wi)
  (B:∀C s H fp,PG (qBm X scope N' C s H fp) target g/\PTs (qBm X scope N' C s H fp) ifs tt/\PE (qBm X scope N' C s H fp) elt te)
  (hs:∀x,foldedSetIterable iter X.env x=pure x:=by intro _;rfl):PE X (.ListComp elt [⟨target,iter,ifs,0⟩] scope pos) (qO5 sub wi g tt te) :=
 qW4 hc (by rw[hN,hsc];exact O) hi B hs
theorem qTs{X:Cx}{target iter elt:Expr}{ifs:List Expr}{scope sc:Scope}{pos:Pos}{N N':List Str}{sub:List (Option Nat)}{wi:TI}{g:TG}{tt:TT}{te:TE}{i:Nat}{y:Str}{py spos:Pos}(hN:X.N=N)(hsc:X.env.scope=sc)
  (O:CmpOk N sc N' scope sub) (hc:X.calm=true) (hi:PI X target iter wi)
  (B:∀C s H fp,PG (qBm X scope N' C s H fp) target g/\PTs (qBm X scope N' C s H fp) ifs tt/\PE (qBm X scope N' C s H fp) elt te)
  (nd:X.N.Nodup) (hy:X.N[i]?=some y) (hx:Loc X.env.scope y)
  (hsw:swapsWith (.ListComp elt [⟨target,iter,ifs,0⟩] scope pos) (some (.Name y py)) spos.line X.env=pure true:=by rfl)
  (hs:∀x,foldedSetIterable iter X.env x=pure x:=by intro _;rfl) (hf:X.fn y=true\/X.env.scope.names.lookup y=some .local:=by exact kO2) :
  PS X (.Assign [.Name y py] (.ListComp elt [⟨target,iter,ifs,0⟩] scope pos) spos) (qYh (qO5 sub wi g tt te) (qKz i)) :=
 qW0 hc (by rw[hN,hsc];exact O) hi B nd hy hx hsw hs hf
theorem qKi{X:Cx}{y:Str}{py:Pos}{iter elt:Expr}{ifs:List Expr}{scope sc:Scope}{pos:Pos}{N N':List Str}{sub:List (Option Nat)}{wi:TI}{tt:TT}{te:TE}(hi:PI X (.Name y py) iter wi)
  (B:∀C s H fp,PTs (qBm X scope N' C s H fp) ifs tt/\PE (qBm X scope N' C s H fp) elt te) (hN:X.N=N:=by rfl) (hsc:X.env.scope=sc:=by rfl)
  (O:CmpOk N sc N' scope sub:=by exact CmpOk.of (by decide +kernel)) (hc:X.calm=true:=by rfl) (nd:N'.Nodup:=by decide) (h0:N'[0]?=some y:=by rfl) (hl:∀C s H fp,Loc (qBm X scope N' C s H fp).env.scope y:=by intro _ _ _ _;exact Or.inl rfl) (hg:∀C s H fp,(qBm X scope N' C s H fp).fn y=true\/(qBm X scope N' C s H fp).env.scope.names.lookup y=some .local:=by intro _ _ _ _;exact .inl rfl)
  (hs:∀x,foldedSetIterable iter X.env x=pure x:=by intro _;rfl):PE X (.ListComp elt [⟨.Name y py,iter,ifs,0⟩] scope pos) (qO5 sub wi (qKz 0) tt te) :=
 qFq hN hsc O hc hi (λC s H fp=>⟨qAf (i:=0) nd h0 (hl C s H fp) (hg C s H fp),B C s H fp⟩) hs
theorem qZj{X:Cx}{z:Str}{pz:Pos}{iter elt:Expr}{ifs:List Expr}{scope sc:Scope}{pos:Pos}{N N':List Str}{sub:List (Option Nat)}{wi:TI}{tt:TT}{te:TE}{i:Nat}{y:Str}{py spos:Pos}(hi:PI X (.Name z pz) iter wi)
  (B:∀C s H fp,PTs (qBm X scope N' C s H fp) ifs tt/\PE (qBm X scope N' C s H fp) elt te)
  (nd:X.N.Nodup) (hy:X.N[i]?=some y) (hx:Loc X.env.scope y) (hN:X.N=N:=by rfl) (hsc:X.env.scope=sc:=by rfl)
  (O:CmpOk N sc N' scope sub:=by exact CmpOk.of (by decide +kernel)) (hc:X.calm=true:=by rfl) (nd':N'.Nodup:=by decide) (h0:N'[0]?=some z:=by rfl) (hl:∀C s H fp,Loc (qBm X scope N' C s H fp).env.scope z:=by intro _ _ _ _;exact Or.inl rfl) (hg:∀C s H fp,(qBm X scope N' C s H fp).fn z=true\/(qBm X scope N' C s H fp).env.scope.names.lookup z=some .local:=by intro _ _ _ _;exact .inl rfl)
  (hsw:swapsWith (.ListComp elt [⟨.Name z pz,iter,ifs,0⟩] scope pos) (some (.Name y py)) spos.line X.env=pure true:=by rfl)
  (hs:∀x,foldedSetIterable iter X.env x=pure x:=by intro _;rfl) (hf:X.fn y=true\/X.env.scope.names.lookup y=some .local:=by exact kO2) :
  PS X (.Assign [.Name y py] (.ListComp elt [⟨.Name z pz,iter,ifs,0⟩] scope pos) spos) (qYh (qO5 sub wi (qKz 0) tt te) (qKz i)) :=
 qTs hN hsc O hc hi (λC s H fp=>⟨qAf (i:=0) nd' h0 (hl C s H fp) (hg C s H fp),B C s H fp⟩) nd hy hx hsw hs hf
end L2
namespace My
open PySem L2
structure Cl(P:Program)(w:World)(K:PySem.W.Frag)(mg:Str->Option Value)(base:Heap)(CX:CXT)(k:Nat)(f:Addr)(fd:FuncData)(ps:List Str)(sp:Sp)(n:Str):Prop where
 g:FnOk P w K mg base CX k f fd ps sp
 b:qPs K fd ps []
 k:PySem.W.keepIn K (.ref f)=true
 m:mg n=some (.ref f)
theorem qBf{X:Cx}{CX:CXT}{k:Nat}{f:Addr}{fd:FuncData}{ps:List Str}{sp:Sp}{x:Str}{dvs:List V}{E:XK}{e:Expr}{es:List Expr}{t:TA}{p pos:Pos}(G:Cl X.prog X.w X.K X.mg X.base CX k f fd ps sp x)(hr:Room k X.A)(hg:Gl X x)(hd:qBd dvs [])(hx:qOw CX X E)
  (ha:PA X (e :: es) t) (hdb:(x == ("__debug__" : Str))=false:=by decide) (he:starEach (e :: es) X.env=(false,eval e X.env) :: starEach es X.env:=by rfl) (hpl:(backTo pos (starEach es X.env)).any (·.1)=false:=by rfl):PE X (.Call (.Name x p) (e :: es) [] pos) (qYw sp dvs E t):=qW5 G.g hr hg G.m G.k G.b hd hx ha hdb he hpl
noncomputable def top(i:Nat):Stmt:=PySem.Challenge.pw_roundsalone_k70_lists_looked_at.main.body.getD i (.Pass ⟨0,0,0,0⟩)
abbrev qIu:Stmt:=top 1
abbrev qTo:Stmt:=top 2
abbrev qKa:Stmt:=top 3
abbrev qL6:Stmt:=top 4
abbrev qQi:Stmt:=top 6
abbrev qTp:Stmt:=top 7
abbrev qO9:Stmt:=top 8
abbrev qWm:Stmt:=top 9
noncomputable abbrev qTn:Stmt:=top 10
abbrev qL5:Stmt:=top 11
abbrev qQh:Stmt:=top 12
abbrev qWq:Stmt:=top 14
abbrev qQg:Stmt:=top 15
abbrev qWn:Stmt:=top 16
abbrev qWo:Stmt:=top 17
abbrev zAs:Stmt:=top 18
abbrev qWp:Stmt:=top 19
abbrev qNx:Stmt:=top 20
abbrev qL4:Stmt:=top 21
abbrev qIt:Stmt:=top 22
noncomputable abbrev qBp:Stmt:=top 23
abbrev qS5:Stmt:=top 24
def Ext(H H':Hp):Prop:=∀b o,H b=some o->H' b=some o
theorem Ext.refl(H:Hp):Ext H H:=λ_ _ h=>h
theorem Ext.trans{H H1 H2:Hp}(a:Ext H H1)(b:Ext H1 H2):Ext H H2:=λc o h=>b c o (a c o h)
theorem Ext.new{H:Hp}{p:Addr}(h:H p=none)(o:HO):Ext H (upd H p o):=λb u q=>by rw[qAb (qAp q h)];exact q
theorem Ext.none{H H':Hp}(e:Ext H H'){p:Addr}(h:H' p=none):H p=none:=by
 cases q:H p with
 |none=>rfl
 |some o=>rw[e p o q]at h;cases h
theorem Ext.sqL{K:PySem.W.Frag}{H H':Hp}{a:Addr}{xs:List V}(e:Ext H H')(h:SqL K H a xs):SqL K H' a xs:=by
 rcases h with (h|⟨o,h⟩)|h
 ·exact .inl (.inl (e _ _ h))
 ·exact .inl (.inr ⟨o,e _ _ h⟩)
 ·exact .inr h
def qVf(K:PySem.W.Frag):Sp:=λvs H Q _=>∃(a:Addr) (ns:List Int) (k:Int),vs=[.ref a,.int k]/\SqL K H a (ns.map V.int)/\0<=k/\∀v,Q (.int v) H
section
variable{P:Program}{w:World}{K:PySem.W.Frag}{mg:Str->Option Value}{base:Heap}{f f1:Addr}{fd fd1:FuncData}
theorem qY7:FnScope ["_law_script","_law_k"] ["_law_script","_law_k"] (qAc qWq):=fsk
theorem qXk(F:Fun K "_law_cell_at" "_law_cell_at" qWq f fd)(ml:mg "len"=none):FnOk P w K mg base CX0 1 f fd ["_law_script","_law_k"] (qVf K):=by
 refine F.okA qY7 λcdv A outer s H vs Q E hr h=>?_
 obtain⟨a,ns,k,rfl,hS,h0,q⟩:=h;refine⟨_,qAa (qC9 (qAv qPb (pv 1) (qAh qAj rfl ml hBd (pa1 (pv 0))) (qA6 _)) (qAi (qA2 (qAt qAm (pv 0) (pv 1) (λ_ _=>rfl)))) qBy) (qAi (qA2 qAk)),?_⟩;refine⟨_,rfl,_,rfl,a,_,rfl,.inl hS,_,_,rfl,rfl,_,rfl,?_⟩;refine qGi (λc=>?_) (λc=>q 0);have c':k<(((ns.map V.int).length:Nat):Int):=hEz c;rw[hA4]at c';have hk:k.toNat<ns.length:=by omega
 have hv:atI (ns.map V.int) ((k.toNat:Nat):Int)=some (.int ns[k.toNat]):=qAq (by rw[hAc,hA8 hk] <;> rfl);rw[Int.toNat_of_nonneg h0]at hv;exact⟨_,rfl,_,rfl,a,_,_,_,rfl,rfl,hS,hv,q _⟩
end
theorem qPo:bootBuiltins "bool"=some (.type "bool"):=by decide +kernel
theorem qBs:bootBuiltins "isinstance"=some (.builtin "isinstance"):=by decide +kernel
theorem qGh(K:PySem.W.Frag)(t:Value):PySem.W.kitOne K t t=some true:=by unfold PySem.W.kitOne;rw[hEs (hFf t)]
theorem qM9:bootBuiltins "range"=some (.type "range"):=by decide +kernel
theorem qMo(n:Str):∀other:List Str,inV (.str n) (other.map V.str)=decide (n∈other)
 |[]=>by simp[inV]
 |x :: r=>by
  have ih:=qMo n r;unfold inV at ih ⊢;rw[hAn,hCj,ih];show(x == n || decide (n∈r))=_;by_cases e:n=x
  ·subst e;simp
  ·have e':¬x=n:=λz=>e z.symm
   simp[e,e']
theorem qK1:∀other:List Str,(other.map V.str).all qJg=true:=λother=>by
 rw[hE9];intro x hx;obtain⟨y,_,rfl⟩:=hAm.mp hx;rfl
def LsS(H:Hp)(a:Addr)(ss:List Str):Prop:=H a=some (.lst (ss.map V.str))
noncomputable abbrev sg:Str:="abcdefghijklmnopqrstuvwxyz0123456789"
noncomputable def sgC(n:Nat):Nat:=sg.cps.toList.getD n 0
theorem qNs:sg.cps.toList.length=36:=by decide +kernel
theorem zA5:sg.cps.toList.Nodup:=by decide +kernel
theorem qTi:∀c∈sg.cps.toList,c<128:=by decide +kernel
theorem qY2{i:Int}(h0:0<=i)(h1:i<36):atI sg.cps.toList i=some (sgC i.toNat):=by
 have hk:i.toNat<sg.cps.toList.length:=by rw[qNs];omega
 have:=qAq (xs:=sg.cps.toList) (j:=i.toNat) (v:=sgC i.toNat) (by
  unfold sgC;rw[hAa,hA8 hk];rfl)
 rw[Int.toNat_of_nonneg h0]at this;exact this
theorem qQb{i j:Nat}(hi:i<36)(hj:j<36)(e:sgC i=sgC j):i=j:=by
 have hi':i<sg.cps.toList.length:=by rw[qNs];exact hi
 have hj':j<sg.cps.toList.length:=by rw[qNs];exact hj
 unfold sgC at e;rw[hAa,hAa,hA8 hi',hA8 hj']at e;exact(List.getElem_inj zA5).mp e
theorem qJ7{i:Nat}(hi:i<36):sgC i<128:=by
 have hi':i<sg.cps.toList.length:=by rw[qNs];exact hi
 unfold sgC;rw[hAa,hA8 hi'];exact qTi _ (hBy hi')
def Sm(x:Str):Prop:=∀c∈x.cps.toList,c<128
theorem Sm.ok{x:Str}(h:Sm x):PyData.strOk x=true:=by
 unfold PyData.strOk;rw[Array.all_eq_true_iff_forall_mem];intro c hc;have:=h c (by simpa using hc);exact hEt (by omega)
theorem Sm.app{x y:Str}(h:Sm x)(h':Sm y):Sm (x++y):=λc hc=>by
 rw[Str.cps_append,Array.toList_append,hAp]at hc;exact hc.elim (h c) (h' c)
theorem Sm.one{c:Nat}(h:c<128):Sm ⟨#[c]⟩:=λd hd=>by
 have:d=c:=by simpa using hd
 omega
noncomputable def zAt(r:List Str):PyData:=.list (r.map .str)
theorem qJh:∀a b:List Str,PyData.eqvAll (a.map .str) (b.map .str)=decide (a=b)
 |[],[]=>rfl
 |[],_ :: _=>rfl
 |_ :: _,[]=>rfl
 |x :: a,y :: b=>by
  show(x == y && PyData.eqvAll (a.map .str) (b.map .str))=_;rw[qJh a b];by_cases e:x=y
  ·subst e;simp
  ·simp[e]
theorem qSf(a b:List Str):PyData.eqv (zAt a) (zAt b)=decide (a=b):=qJh a b
def SOk(r:List Str):Prop:=∀x∈r,PyData.strOk x=true
theorem qOi:∀ {r:List Str},SOk r->PyData.canLayAll0 (r.map .str)=true/\PyData.depthAll (r.map .str)=0
 |[],_=>⟨rfl,rfl⟩
 |x :: r,h=>by
  obtain⟨h1,h2⟩:=qOi (r:=r) λy hy=>h y (hAe _ hy)
  refine⟨?_,?_⟩
  ·show(PyData.strOk x && PyData.canLayAll0 (r.map .str))=true;rw[h1,h x hAb];rfl
  ·show max 0 (PyData.depthAll (r.map .str))=0;rw[h2];rfl
theorem qDc{r:List Str}(h:SOk r):SeqAt.shaped (zAt r)=true:=by
 obtain⟨h3,h4⟩:=qOi h;show(PyData.canLayAll0 (r.map .str) && decide (PyData.depthAll (r.map .str)+1<=64))=true;rw[h3,h4];rfl
theorem qSi{K:PySem.W.Frag}{H:Hp}:∀r:List Str,DRs K H (r.map V.str) (r.map .str)
 |[]=>.nil
 |x :: r=>.cons (.str x) (qSi r)
theorem qK6{K:PySem.W.Frag}{H:Hp}{a:Addr}{r:List Str}(h:LsS H a r):DR K H (.ref a) (zAt r):=.lst (SqL.of h) (qSi r)
theorem qF6{k:Nat}{A:Around}(hr:Room k A):A.units+64<cLine:=by have:=hr.un;omega
theorem qBa:bootBuiltins "list"=some (.type "list"):=by decide +kernel
theorem qLl:bootBuiltins "str"=some (.type "str"):=by decide +kernel
theorem qBi:bootBuiltins "sorted"=some (.builtin "sorted"):=by decide +kernel
theorem qHj:bootBuiltins "all"=some (.builtin "all"):=by decide +kernel
theorem qLm:bootBuiltins "set"=some (.type "set"):=by decide +kernel
theorem qDr:bootBuiltins "tuple"=some (.type "tuple"):=by decide +kernel
end My
namespace My
open PySem L2
theorem qCx{α:Type}{P:List α->Prop}(h0:P [])(hs:∀l t,P l->P (l++[t]))(l:List α):P l:=by
 have:∀r:List α,P r.reverse:=λr=>by
  induction r with
  |nil=>exact h0
  |cons a r ih=>rw[hEj];exact hs _ _ ih
 have q:=this l.reverse
 rwa [List.reverse_reverse]at q
abbrev Tr:=Str×Str×Str
noncomputable abbrev lab(f:Str->Str)(t:Tr):Str->Str:=λp=>if f p=f t.2.2 then f t.2.1 else f p
noncomputable def homF(net:List Tr):Str->Str:=net.foldl lab id
theorem qC5(net:List Tr)(t:Tr):homF (net++[t])=lab (homF net) t:=by unfold homF;rw[List.foldl_append];rfl
def qH9(net:List Tr)(x:Str):Prop:=∃t∈net,x=t.2.1\/x=t.2.2
theorem qCr{net:List Tr}{t:Tr}{x:Str}:qH9 (net++[t]) x↔qH9 net x\/x=t.2.1\/x=t.2.2:=by
 unfold qH9;constructor
 ·rintro⟨u,hu,h⟩;rcases hAp.mp hu with z|z
  ·exact .inl ⟨u,z,h⟩
  ·rw[hAd]at z;subst z;exact .inr h
 ·rintro(⟨u,hu,h⟩|h)
  ·exact⟨u,hAx _ hu,h⟩
  ·exact⟨t,hAq _ (hAd.mpr rfl),h⟩
theorem qR7(net:List Tr):(∀x,qH9 net x->qH9 net (homF net x))/\∀x,¬qH9 net x->homF net x=x:=by
 refine qCx (P:=λnet=>(∀x,qH9 net x->qH9 net (homF net x))/\∀x,¬qH9 net x->homF net x=x) ⟨λx ⟨t,h,_⟩=>(by cases h),λx _=>rfl⟩ (λl t ih=>?_) net;obtain⟨h1,h2⟩:=ih;have any:∀x,qH9 (l++[t]) x->qH9 (l++[t]) (homF l x):=λx hx=>by
  by_cases e:qH9 l x
  ·exact qCr.mpr (.inl (h1 x e))
  ·rw[h2 x e];exact hx
 rw[qC5];refine⟨λx hx=>?_,λx hx=>?_⟩
 ·show qH9 _ (if homF l x=homF l t.2.2 then homF l t.2.1 else homF l x);split
  ·exact any _ (qCr.mpr (.inr (.inl rfl)))
  ·exact any x hx
 ·have nx:¬qH9 l x:=λz=>hx (qCr.mpr (.inl z))
  have ne:homF l x≠homF l t.2.2:=λz=>by
   have p:=any t.2.2 (qCr.mpr (.inr (.inr rfl)));rw[<-z,h2 x nx]at p;exact hx p
  show(if homF l x=homF l t.2.2 then homF l t.2.1 else homF l x)=x;rw[hEr ne,h2 x nx]
theorem qE6(net:List Tr):∀t∈net,homF net t.2.1=homF net t.2.2:=by
 refine qCx (P:=λnet=>∀t∈net,homF net t.2.1=homF net t.2.2) (λt h=>by cases h) (λl t ih=>?_) net;intro u hu;rw[qC5];show(if homF l u.2.1=homF l t.2.2 then homF l t.2.1 else homF l u.2.1)=if homF l u.2.2=homF l t.2.2 then homF l t.2.1 else homF l u.2.2
 rcases hAp.mp hu with z|z
 ·rw[ih u z]
 ·rw[hAd]at z;subst z;rw[hEs rfl];split <;> rfl
def qTa(kept:List Tr)(t:Tr):List Tr:=if homF kept t.2.1=homF kept t.2.2 then kept else kept++[t]
def qJy(net:List Tr):List Tr:=net.foldl qTa []
theorem qHs(net:List Tr)(t:Tr):qJy (net++[t])=qTa (qJy net) t:=by unfold qJy;rw[List.foldl_append];rfl
theorem qOk{f:Str->Str}{t:Tr}(h:f t.2.1=f t.2.2):lab f t=f:=by
 funext p
 show(if f p=f t.2.2 then f t.2.1 else f p)=f p;split
 ·rename_i e;rw[e,h]
 ·rfl
theorem qR6(net:List Tr):homF (qJy net)=homF net:=by
 refine qCx (P:=λnet=>homF (qJy net)=homF net) rfl (λl t ih=>?_) net;rw[qHs,qC5];unfold qTa;rw[ih];split
 ·rename_i e;rw[ih,qOk e]
 ·rw[qC5,ih]
theorem count(ps:List Str)(nd:ps.Nodup)(net:List Tr):(∀x,qH9 net x->x∈ps)->∃labs:List Str,labs.Nodup/\(∀x,x∈labs↔∃p∈ps,homF net p=x)/\labs.length+(qJy net).length=ps.length:=by
 refine qCx (P:=λnet=>(∀x,qH9 net x->x∈ps)->∃labs:List Str,labs.Nodup/\(∀x,x∈labs↔∃p∈ps,homF net p=x)/\labs.length+(qJy net).length=ps.length) (λ_=>⟨ps,nd,λx=>⟨λh=>⟨x,h,rfl⟩,λ⟨p,hp,e⟩=>e▸hp⟩,rfl⟩) (λl t ih hp=>?_) net;obtain⟨labs,n1,m1,c1⟩:=ih λx hx=>hp x (qCr.mpr (.inl hx))
 have o1:t.2.1∈ps:=hp _ (qCr.mpr (.inr (.inl rfl)));have o2:t.2.2∈ps:=hp _ (qCr.mpr (.inr (.inr rfl)));rw[qC5,qHs];unfold qTa;rw[qR6];by_cases e:homF l t.2.1=homF l t.2.2
 ·rw[hEs e,qOk e];exact⟨labs,n1,m1,c1⟩
 ·rw[hEr e];have mo:homF l t.2.2∈labs:=(m1 _).mpr ⟨_,o2,rfl⟩;refine⟨labs.erase (homF l t.2.2),n1.erase _,λx=>?_,?_⟩
  ·rw[n1.mem_erase_iff,m1];constructor
   ·rintro⟨nx,p,hp',ex⟩;refine⟨p,hp',?_⟩;show(if homF l p=homF l t.2.2 then homF l t.2.1 else homF l p)=x;rw[hEr (by rw[ex];exact nx),ex]
   ·rintro⟨p,hp',ex⟩;have ex':(if homF l p=homF l t.2.2 then homF l t.2.1 else homF l p)=x:=ex;by_cases z:homF l p=homF l t.2.2
    ·rw[hEs z]at ex';exact⟨by rw[<-ex'];exact e,_,o1,ex'⟩
    ·rw[hEr z]at ex';exact⟨by rw[<-ex'];exact z,p,hp',ex'⟩
  ·rw[List.length_erase_of_mem mo,hAk];have:0<labs.length:=List.length_pos_of_mem mo;show labs.length-1+((qJy l).length+1)=_;omega
noncomputable def zCa(f:Tr->Str)(t:Tr)(r:List Tr):List Tr:=r.filter λu=>!decide (f u=f t)
theorem qW8(f:Tr->Str)(t:Tr)(r:List Tr):(zCa f t r).length<=r.length:=hBj _ _
noncomputable def PCK(f:Tr->Str):List Tr->List (Str×List Str)
 |[]=>[]
 |t :: r=>(f t,((t :: r).filter λu=>decide (f u=f t)).map (·.1)) :: PCK f (zCa f t r)
termination_by l=>l.length
decreasing_by
 have:=qW8 f t r;simp only[hBg];omega
theorem qF3(f:Tr->Str):PCK f []=[]:=by rw[PCK]
theorem qFh(f:Tr->Str)(t:Tr)(r:List Tr):PCK f (t :: r)=(f t,((t :: r).filter λu=>decide (f u=f t)).map (·.1)) :: PCK f (r.filter λu=>!decide (f u=f t)):=by rw[PCK];rfl
theorem qMj{P:List Tr->Prop}(h:∀l,(∀l',l'.length<l.length->P l')->P l)(l:List Tr):P l:=by
 have:∀n,∀l:List Tr,l.length<n->P l:=λn=>by
  induction n with
  |zero=>intro l hl;omega
  |succ n ih=>intro l hl;exact h l λl' hl'=>ih l' (by omega)
 exact this (l.length+1) l (by omega)
theorem qFg(f:Tr->Str)(net:List Tr):((PCK f net).map (·.1)).Nodup/\∀x,x∈(PCK f net).map (·.1)↔∃t∈net,f t=x:=by
 refine qMj (P:=λnet=>((PCK f net).map (·.1)).Nodup/\∀x,x∈(PCK f net).map (·.1)↔∃t∈net,f t=x) (λl ih=>?_) net;cases l with
 |nil=>rw[qF3];exact⟨hCf,λx=>by simp⟩
 |cons t r =>
  obtain⟨h1,h2⟩:=ih (r.filter λu=>!decide (f u=f t)) (by have:=hBj (λu=>!decide (f u=f t)) r;rw[hBg];omega);rw[qFh,hAn];refine⟨hB7.mpr ⟨λz=>?_,h1⟩,λx=>?_⟩
  ·obtain⟨u,hu,e⟩:=(h2 _).mp z;have:=(hC0.mp hu).2;simp[e]at this
  ·rw[hAg,h2];constructor
   ·rintro(rfl|⟨u,hu,e⟩)
    ·exact⟨t,hAb,rfl⟩
    ·exact⟨u,hAe _ (hC0.mp hu).1,e⟩
   ·rintro⟨u,hu,e⟩;by_cases z:x=f t
    ·exact .inl z
    ·rcases hAg.mp hu with y|y
     ·subst y;exact absurd e.symm z
     ·exact .inr ⟨u,hC0.mpr ⟨y,by rw[e];simpa using z⟩,e⟩
theorem qOx(f:Tr->Str)(t:Tr)(net:List Tr):PCK f (net++[t])=if f t∈(PCK f net).map (·.1) then (PCK f net).map (λp=>if p.1=f t then (p.1,p.2++[t.1]) else p) else PCK f net++[(f t,[t.1])]:=by
 refine qMj (P:=λnet=>PCK f (net++[t])=if f t∈(PCK f net).map (·.1) then (PCK f net).map (λp=>if p.1=f t then (p.1,p.2++[t.1]) else p) else PCK f net++[(f t,[t.1])]) (λl ih=>?_) net;cases l with
 |nil =>
  rw[hDd,qFh,qF3,hCr,qF3,hEr (by simp)];simp
 |cons u r =>
  have ih':=ih (r.filter λv=>!decide (f v=f u)) (by have:=hBj (λv=>!decide (f v=f u)) r;rw[hBg];omega);obtain⟨k1,k2⟩:=qFg f (r.filter λv=>!decide (f v=f u));rw[hBx,qFh,qFh,hBk];have nu:f u∉(PCK f (r.filter λv=>!decide (f v=f u))).map (·.1):=λz=>by
   obtain⟨v,hv,e⟩:=(k2 _).mp z;have:=(hC0.mp hv).2;simp[e]at this
  by_cases e:f t=f u
  ·have e1:([t].filter λv=>!decide (f v=f u))=[]:=by simp[e]
   have e2:((u :: (r++[t])).filter λv=>decide (f v=f u))=((u :: r).filter λv=>decide (f v=f u))++[t]:=by
    rw[<-hBx,hBk];simp[e]
   rw[e1,e2,hBr,hAn,hEs (by rw[e];exact hAb),hAn];dsimp only;rw[hEs e.symm,hAf];congr 1;refine(List.map_id _).symm.trans (hC9 λp hp=>?_);have:p.1≠f t:=λz=>by
    have m:=hAr (f:=(·.1)) hp;rw[z,e]at m;exact nu m
   rw[hEr this];rfl
  ·have e1:([t].filter λv=>!decide (f v=f u))=[t]:=by simp[e]
   have e2:((u :: (r++[t])).filter λv=>decide (f v=f u))=((u :: r).filter λv=>decide (f v=f u)):=by
    rw[<-hBx,hBk];simp[e]
   rw[e1,e2,ih',hAn];dsimp only;by_cases m:f t∈(PCK f (r.filter λv=>!decide (f v=f u))).map (·.1)
   ·rw[hEs m,hEs (hAe _ m),hAn];dsimp only;rw[hEr (λz=>e z.symm)]
   ·rw[hEr m,hEr (λz=>(hAg.mp z).elim e m)];rfl
theorem qHm(f:Tr->Str)(net:List Tr):∀p∈PCK f net,p.2=(net.filter λu=>decide (f u=p.1)).map (·.1):=by
 refine qMj (P:=λnet=>∀p∈PCK f net,p.2=(net.filter λu=>decide (f u=p.1)).map (·.1)) (λl ih=>?_) net;cases l with
 |nil=>rw[qF3];intro p hp;cases hp
 |cons t r =>
  rw[qFh];intro p hp;rcases hAg.mp hp with z|z
  ·subst z;rfl
  ·have q:=ih (r.filter λu=>!decide (f u=f t)) (by have:=hBj (λu=>!decide (f u=f t)) r;rw[hBg];omega) p z;obtain⟨_,k2⟩:=qFg f (r.filter λv=>!decide (f v=f t));obtain⟨v,hv,e⟩:=(k2 p.1).mp (hAr z);have ne:¬f t=p.1:=λy=>by
    have:=(hC0.mp hv).2;simp[e,y]at this
   rw[q,List.filter_filter,hCd,hEr (by simpa using ne)];congr 1;refine hEk λu hu=>?_
   by_cases y:f u=p.1
   ·have w:¬f u=f t:=λw=>ne (w.symm.trans y)
    rw[hEt y,hEu w];rfl
   ·rw[hEu y];rfl
abbrev qIh(l:List Str):Prop:=l.Pairwise λa b=>qHn a b=true
theorem qN0:∀ {a b:List Str},qIh a->qIh b->(∀x,x∈a↔x∈b)->a=b
 |[],[],_,_,_=>rfl
 |[],y :: b,_,_,h=>by have:=(h y).mpr hAb;cases this
 |x :: a,[],_,_,h=>by have:=(h x).mp hAb;cases this
 |x :: a,y :: b,ha,hb,h=>by
  obtain⟨a1,a2⟩:=hD4.mp ha;obtain⟨b1,b2⟩:=hD4.mp hb;have e:x=y:=by
   rcases hAg.mp ((h x).mp hAb) with z|z
   ·exact z
   ·rcases hAg.mp ((h y).mpr hAb) with w|w
    ·exact w.symm
    ·have q:=qCb (b1 x z) (a1 y w);rw[qCm]at q;cases q
  subst e;refine congrArg _ (qN0 a2 b2 λz=>⟨λhz=>?_,λhz=>?_⟩)
  ·rcases hAg.mp ((h z).mp (hAe _ hz)) with w|w
   ·have:=a1 z hz;rw[w,qCm]at this;cases this
   ·exact w
  ·rcases hAg.mp ((h z).mpr (hAe _ hz)) with w|w
   ·have:=b1 z hz;rw[w,qCm]at this;cases this
   ·exact w
noncomputable abbrev trV(t:Tr):List V:=[.str t.1,.str t.2.1,.str t.2.2]
def qEl(H:Hp)(p:Addr)(net:List Tr):Prop:=∃as:List Addr,H p=some (.lst (as.map V.ref))/\Paired (λa t=>H a=some (.tup (trV t))) as net
theorem qEl.ext{H H':Hp}{p:Addr}{net:List Tr}(h:qEl H p net)(e:Ext H H'):qEl H' p net:=by
 obtain⟨as,h1,h2⟩:=h;exact⟨as,e _ _ h1,Paired.mapP h2 λa t z=>e _ _ z⟩
theorem qAo{α β:Type}{R:α->β->Prop}:∀ {as:List α} {bs:List β} {i:Nat} {a:α},Paired R as bs->as[i]?=some a->∃b,bs[i]?=some b/\R a b
 |_,_,_,_,.nil,e=>by simp at e
 |_,_,0,_,.cons h _,e=>by simp at e;subst e;exact⟨_,rfl,h⟩
 |_,_,i+1,_,.cons _ t,e=>by
  obtain⟨b,h1,h2⟩:=qAo (i:=i) t (by simpa using e);exact⟨b,by simpa using h1,h2⟩
theorem qDl{H:Hp}{as:List Addr}{net:List Tr}{i:Nat}{x:V}(h:Paired (λa t=>H a=some (.tup (trV t))) as net)(e:(as.map V.ref)[i]?=some x):∃a t,x = .ref a/\net[i]?=some t/\H a=some (.tup (trV t)):=by
 rw[hAc]at e;cases ha:as[i]? with
 |none=>rw[ha]at e;cases e
 |some a =>
  rw[ha]at e;obtain⟨t,h1,h2⟩:=qAo h ha;exact⟨a,t,(hAh e).symm,h1,h2⟩
theorem qAl{α:Type}{l:List α}{i:Nat}{t:α}(h:l[i]?=some t):l.take (i+1)=l.take i++[t]:=by rw[List.take_add_one,h];rfl
theorem qBj{α:Type}{l:List α}{i:Nat}{t:α}(h:l[i]?=some t):i<l.length:=(hAz.mp h).1
theorem qQo:∀(l:List Str) (p:Str),PyProof.Rows.risingS p l=true->(p :: l).Nodup->qIh (p :: l)
 |[],p,_,_=>List.pairwise_singleton _ _
 |x :: r,p,h,nd=>by
  have h':(!PySem.Spec.ltCps x.cps.toList p.cps.toList && PyProof.Rows.risingS x r)=true:=h;rw[hC4]at h';have nd':=hB7.mp nd;have ih:=qQo r x h'.2 nd'.2;have px:qHn p x=true:=by
   have z:=h'.1;rw[PyProof.Rows.ltCps_eq]at z;rcases qD6 p x with t|t|t
   ·exact t
   ·exact absurd t (λe=>nd'.1 (by rw[e];exact hAb))
   ·rw[hEt (hEz t)]at z;cases z
  refine hD4.mpr ⟨λy hy=>?_,ih⟩;rcases hAg.mp hy with e|hy
  ·rw[e];exact px
  ·exact qCb px ((hD4.mp ih).1 y hy)
theorem qQn{l:List Str}(h:PyProof.Rows.sortedS l=true)(nd:l.Nodup):qIh l:=by
 cases l with
 |nil=>exact List.Pairwise.nil
 |cons x r=>exact qQo r x h nd
def qGa(net:List Tr)(ps:List Str):Prop:=ps.Nodup/\∀x,x∈ps↔qH9 net x
def qGc:Sp:=λvs H Q _=>∃(p:Addr) (net:List Tr),vs=[.ref p]/\qEl H p net/\net.length<=12/\∀r ps H',Ext H H'->H r=none->LsS H' r ps->qGa net ps->qIh ps->ps.length<=24->Q (.ref r) H'
section
variable{P:Program}{w:World}{K:PySem.W.Frag}{mg:Str->Option Value}{base:Heap}{f f1:Addr}{fd fd1:FuncData}
theorem qTm:FnScope ["net"] ["net"] (qAc qIu):=fsk
noncomputable abbrev ptN:List Str:=["tie","one","other","end"]
theorem qRh(F:Fun K "points" "points" qIu f fd)(mso:mg "sorted"=none):FnOk P w K mg base CX0 1 f fd ["net"] qGc:=by
 refine F.okA qTm λcdv A outer s H vs Q E hr h=>?_
 obtain⟨p,net,rfl,⟨as,hp,pr⟩,hl,q⟩:=h;refine⟨_,qAi (qA2 (qAh (qEd rfl) rfl mso qBi (qAe
  (zB9 qX2 rfl (N:=["net"]) (sc:=qAc qIu) (N':=ptN) (sub:=[none,none,none,none]) rfl rfl (CmpOk.of (by decide +kernel)) rfl (qA1 (pv 0))
   (λC s H fp=>⟨(show PG _ _ (qPt K 3 _) from qBt rfl (qAg (qAf (i:=0) (by show ptN.Nodup;decide) rfl (Or.inl rfl)) (qAg (qAf (i:=1) (by show ptN.Nodup;decide) rfl (Or.inl rfl)) (qAg (qAf (i:=2) (by show ptN.Nodup;decide) rfl (Or.inl rfl)) qA3)))),qBk,
    λacc=>qOa rfl rfl (show PI _ _ _ (zBm K _) from qQ5 (qB4 (qAe (pv 1) (pa1 (pv 2))))) (qAf (i:=3) (by show ptN.Nodup;decide) rfl (Or.inl rfl)) qBk (qW6 rfl (pv 3)) (λ_=>rfl) rfl rfl (λ_=>rfl) (λ_ _ _ _ _ h=>h) (λ_ _ _ _ _ h=>h) (λ_=>rfl)⟩)) qC3))),?_⟩
 have lA:as.length=net.length:=pr.length;refine⟨_,rfl,p,rfl,⟨_,SqL.of hp⟩,?_⟩;refine qOo (xs:=as.map V.ref) (λi ss σ H'=>Ext H H'/\(∃x0 x1 x2 x3:Option V,σ=[x0,x1,x2,x3])/\ss.Nodup/\(∀x,x∈ss↔qH9 (net.take i) x)/\ss.length<=2*i) ⟨Ext.refl _,⟨none,none,none,none,rfl⟩,hCf,λx=>⟨λz=>(by cases z),λ⟨t,ht,_⟩=>(by simp at ht)⟩,hAy _⟩ (λi ss σ H' _ h=>SqL.of (h.1 _ _ hp)) ?_ ?_
 ·rintro i x ss σ H' hx ⟨he,⟨x0,x1,x2,x3,rfl⟩,nd,mem,ln⟩;obtain⟨a,t,rfl,ht,ha⟩:=qDl pr hx;have hi:=qBj ht;refine⟨a,_,rfl,SqT.of (he _ _ ha),rfl,_,_,rfl,_,_,rfl,_,_,rfl,rfl,iteT (B:=False) ?_⟩;refine⟨_,rfl,_,rfl,(by show 2<=sizeLine;decide),λT hT=>⟨T,rfl,⟨_,SqT.of upd_same⟩,?_⟩⟩;have X1:=Ext.new hT (.tup [V.str t.2.1,V.str t.2.2]);refine qSb (xs:=[V.str t.2.1,V.str t.2.2]) (λj ss σ H2=>Ext (upd H' T (.tup [V.str t.2.1,V.str t.2.2])) H2/\(∃y:Option V,σ=[some (.str t.1),some (.str t.2.1),some (.str t.2.2),y])/\ss.Nodup/\(∀x,x∈ss↔qH9 (net.take i) x\/(0<j/\x=t.2.1)\/(1<j/\x=t.2.2))/\ss.length<=2*i+j)
   ⟨Ext.refl _,⟨_,rfl⟩,nd,λx=>by rw[mem];simp,by omega⟩ (λj ss σ H2 _ h=>SqT.of (h.1 _ _ upd_same)) ?_ ?_
  ·rintro j z ss2 σ H2 hz ⟨h2,⟨y,rfl⟩,nd2,mem2,ln2⟩;have hj:j<2:=qBj hz;obtain⟨v,rfl,hv⟩:∃v:Str,z = .str v/\((j=0/\v=t.2.1)\/(j=1/\v=t.2.2)):=by
    rcases(show j=0\/j=1 by omega) with rfl|rfl
    ·exact⟨t.2.1,(hAh hz).symm,.inl ⟨rfl,rfl⟩⟩
    ·exact⟨t.2.2,(hAh hz).symm,.inr ⟨rfl,rfl⟩⟩
   refine iteT (B:=False) ⟨_,rfl,v,rfl,by omega,λss3 h3=>nxg hj ⟨h2,⟨_,rfl⟩,?_⟩⟩;have key:ss3.Nodup/\(∀x,x∈ss3↔x∈ss2\/x=v)/\ss3.length<=ss2.length+1:=by
    by_cases m:v∈ss2
    ·rw[hEs m]at h3;subst h3;exact⟨nd2,λx=>⟨.inl,λz=>z.elim id λe=>e▸m⟩,hBl _⟩
    ·rw[hEr m]at h3;refine⟨h3.nodup_iff.mpr ?_,λx=>by rw[h3.mem_iff,hAp,hAd],by rw[h3.length_eq,hAk];exact hAj _⟩;rw[hB6];exact⟨nd2,by simp,λy hy z hz=>by rw[hAd]at hz;subst hz;rintro rfl;exact m hy⟩
   refine⟨key.1,λx=>?_,by have:=key.2.2;omega⟩;rw[key.2.1,mem2];rcases hv with ⟨rfl,rfl⟩|⟨rfl,rfl⟩
   ·simp
   ·simp[or_assoc]
  ·rintro ss2 σ H2 ⟨h2,⟨y,rfl⟩,nd2,mem2,ln2⟩;refine nxg (qBj hx) ⟨he.trans (X1.trans h2),⟨_,_,_,_,rfl⟩,nd2,λx=>?_,by have:ss2.length<=2*i+2:=ln2;omega⟩;rw[mem2,qAl ht,qCr];simp
 ·rintro ss σ H' ⟨he,_,nd,mem,ln⟩ r hr1;rw[hA4,lA,hBw (hAj _)]at mem;rw[hA4,lA]at ln;refine⟨r,ss,rfl,upd_same,by omega,λr2 ss2 hr2 pm srt=>?_⟩;exact q r2 ss2 _ ((he.trans (Ext.new hr1 _)).trans (Ext.new hr2 _)) ((he.trans (Ext.new hr1 _)).none hr2) upd_same ⟨pm.nodup_iff.mpr nd,λx=>by rw[pm.mem_iff,mem]⟩ (qQn srt (pm.nodup_iff.mpr nd)) (by rw[pm.length_eq];omega)
end
theorem Ext.over{H H':Hp}{d:Addr}(e:Ext H H')(h:H d=Option.none)(o:HO):Ext H (upd H' d o):=λb u q=>by rw[qAb (qAp q h)];exact e b u q
noncomputable def hD(ps:List Str)(f:Str->Str):List (Key×V):=ps.map λp=>(Sum.inr p,V.str (f p))
theorem qKw(f:Str->Str)(x:Str):∀ps:List Str,valV (hD ps f) (Sum.inr x)=if x∈ps then some (.str (f x)) else none
 |[]=>by simp[hD,valV]
 |p :: r=>by
  have ih:=qKw f x r;by_cases e:p=x
  ·subst e;rw[hEs hAb];exact qBc rfl
  ·have:valV (hD (p :: r) f) (Sum.inr x)=valV (hD r f) (Sum.inr x):=qAz λz=>e (Sum.inr.inj z)
   rw[this,ih];have e':¬x=p:=λz=>e z.symm
   simp[e']
theorem qMr{ps:List Str}{f:Str->Str}{i:Nat}{p:Str}(nd:ps.Nodup)(h:ps[i]?=some p):qCz (hD (ps.take i) f) (Sum.inr p) (.str (f p))=hD (ps.take (i+1)) f:=by
 have np:p∉ps.take i:=λz=>by
  have e:=qAl h;have nd':(ps.take (i+1)).Nodup:=nd.sublist (List.take_sublist _ _);rw[e,hB6]at nd';exact nd'.2.2 p z p (by simp) rfl
 rw[qCn _ (by rw[qKw,hEr np]),qAl h];unfold hD;rw[hAf];rfl
theorem zAa{ps:List Str}{f:Str->Str}{i:Nat}{p:Str}(h:ps[i]?=some p):itV (hD ps f) i=[V.str p,V.str (f p)]:=by
 unfold itV hD;rw[hAc,h];rfl
def qP5:Sp:=λvs H Q _=>∃(p:Addr) (net:List Tr),vs=[.ref p]/\qEl H p net/\net.length<=12/\∀r ps H',Ext H H'->H r=none->H' r=some (.dK (hD ps (homF net)))->qGa net ps->ps.length<=24->Q (.ref r) H'
section
variable{P:Program}{w:World}{K:PySem.W.Frag}{mg:Str->Option Value}{base:Heap}{f f1:Addr}{fd fd1:FuncData}
noncomputable abbrev hoN:List Str:=["net","home","tie","one","other","old","new"]
theorem qDw:FnScope hoN ["net"] (qAc qKa):=fsk
theorem qT5(F:Fun K "homes" "homes" qKa f fd)(G:Cl P w K mg base CX0 1 f1 fd1 ["net"] qGc "points"):FnOk P w K mg base CX0 2 f fd ["net"] qP5:=by
 refine F.okA qDw λcdv A outer s H vs Q E hr h=>?_
 obtain⟨p,net,rfl,nt,hl,q⟩:=h;refine⟨_,qAa (zBa (i:=1) qMu (λ_=>rfl) (N:=hoN) (sc:=qAc qKa) (N':=["point"]) (sub:=[none]) rfl rfl (CmpOk.of (by decide +kernel)) rfl (qA1 (qBf G hr rfl .nil qBg (pa1 (pv 0))))
   (λC s H fp=>⟨qAf (i:=0) (by show(["point"]:List Str).Nodup;decide) rfl (Or.inl rfl),qBk,λacc=>qIz rfl (pv 0) (pv 0)⟩) qDw.nd rfl (Or.inl rfl))
  (qAa (qB3 PassesOwn.never rfl (qA1 (pv 0)) (qBt rfl (qAg (qAf (i:=2) qDw.nd rfl (Or.inl rfl)) (qAg (qAf (i:=3) qDw.nd rfl (Or.inl rfl)) (qAg (qAf (i:=4) qDw.nd rfl (Or.inl rfl)) qA3))))
   (qAa (qEx (qB4 (qAe (qCv (qCh hr) (pv 1) (pv 4) (λ_ _=>rfl)) (pa1 (qCv (qCh hr) (pv 1) (pv 3) (λ_ _=>rfl))))) (qBt rfl (qAg (qAf (i:=5) qDw.nd rfl (Or.inr rfl)) (qAg (qAf (i:=6) qDw.nd rfl (Or.inr rfl)) qA3))))
   (qAi (zBa (i:=1) qMu (λ_=>rfl) (N:=hoN) (sc:=qAc qKa) (N':=["point","at","new","old"]) (sub:=[none,none,some 6,some 5]) rfl rfl (CmpOk.of (by decide +kernel)) rfl (qTu (pv 1))
    (λC s H fp=>⟨(show PG _ _ (qPt K 2 _) from qBt rfl (qAg (qAf (i:=0) (by show(["point","at","new","old"]:List Str).Nodup;decide) rfl (Or.inl rfl)) (qAg (qAf (i:=1) (by show(["point","at","new","old"]:List Str).Nodup;decide) rfl (Or.inl rfl)) qA3))),qBk,
     λacc=>qIz rfl (pv 0) (qTy (qAv qE0 (pv 1) (pv 3) (qA6 _)) (pv 2) (pv 1))⟩) qDw.nd rfl (Or.inl rfl)))))
  (qAi (qA2 (pv 1)))),?_⟩
 obtain⟨as,hp,pr⟩:=id nt;have lA:as.length=net.length:=pr.length;refine⟨_,rfl,p,net,rfl,nt,hl,λr ps H1 e1 hr1 hps pok _ lps=>⟨r,rfl,⟨_,SqL.of hps⟩,?_⟩⟩;have pnd:=pok.1;refine qOo (xs:=ps.map V.str) (λi kvs σ H2=>H2=H1/\(∃x:Option V,σ=[x])/\kvs=hD (ps.take i) id) ⟨rfl,⟨none,rfl⟩,rfl⟩ (λi kvs σ H2 _ h=>by rw[h.1];exact SqL.of hps) ?_ ?_
 ·rintro i x kvs σ H2 hx ⟨rfl,⟨x0,rfl⟩,rfl⟩;obtain⟨y,hy,rfl⟩:∃y,ps[i]?=some y/\V.str y=x:=by
   rw[hAc]at hx;cases e:ps[i]? with
   |none=>rw[e]at hx;cases hx
   |some y=>rw[e]at hx;exact⟨y,rfl,hAh hx⟩
  refine iteT (B:=False) ⟨_,rfl,_,rfl,Sum.inr y,rfl,?_,nxg (qBj hx) ⟨rfl,⟨_,rfl⟩,qMr pnd hy⟩⟩;have:=qBj hy;unfold hD;rw[hA4,hB2];exact qAd (by omega)
 ·rintro kvs σ H2 ⟨rfl,_,rfl⟩ d hd;rw[hA4,hBw (hAj _)];have hd0:=e1.none hd;refine⟨_,rfl,p,rfl,⟨_,SqL.of ((e1.over hd0 _) _ _ hp)⟩,?_⟩;refine qC6 (xs:=as.map V.ref) (λi σ H3=>∃(d:Addr) (x2 x3 x4 x5 x6:Option V),σ=[some (.ref p),some (.ref d),x2,x3,x4,x5,x6]/\Ext H H3/\H d=none/\H3 d=some (.dK (hD ps (homF (net.take i))))) ⟨d,_,_,_,_,_,rfl,e1.over hd0 _,hd0,upd_same⟩ ?_ ?_ ?_
  ·rintro i σ H3 _ ⟨d,x2,x3,x4,x5,x6,_,e3,_⟩;exact SqL.of (e3 _ _ hp)
  ·rintro i x σ H3 hx ⟨d,x2,x3,x4,x5,x6,rfl,e3,hd0,hd3⟩;obtain⟨a,t,rfl,ht,ha⟩:=qDl pr hx;have i1:t.2.1∈ps:=(pok.2 _).mpr ⟨t,hAs ht,.inl rfl⟩;have i2:t.2.2∈ps:=(pok.2 _).mpr ⟨t,hAs ht,.inr rfl⟩;have v1:=qKw (homF (net.take i)) t.2.1 ps;have v2:=qKw (homF (net.take i)) t.2.2 ps;rw[hEs i1]at v1;rw[hEs i2]at v2;refine⟨a,_,rfl,SqT.of (e3 _ _ ha),rfl,_,_,rfl,_,_,rfl,_,_,rfl,rfl,?_⟩;have g2:=qD3.k (k:=Sum.inr t.2.2) hd3;rw[v2]at g2;have g1:=qD3.k (k:=Sum.inr t.2.1) hd3;rw[v1]at g1;refine⟨_,rfl,_,rfl,d,_,rfl,g2,_,rfl,_,rfl,d,_,rfl,g1,(by show 2<=sizeLine;decide),λT hT=>⟨T,_,rfl,SqT.of upd_same,rfl,_,_,rfl,_,_,rfl,rfl,?_⟩⟩;have e4:=Ext.new hT (.tup [V.str (homF (net.take i) t.2.2),V.str (homF (net.take i) t.2.1)]);refine⟨_,rfl,d,_,rfl,e4 _ _ hd3,λo=>?_⟩;have ln:(hD ps (homF (net.take i))).length=ps.length:=by unfold hD;rw[hA4]
   have g0:=(e3.trans e4).over hd0 (.frz o (.dK (hD ps (homF (net.take i)))));rw[ln];refine qX3 (λj kvs σ H5=>(∃x0 x1:Option V,σ=[x0,x1,some (.str (homF (net.take i) t.2.1)),some (.str (homF (net.take i) t.2.2))])/\Ext H H5/\H5 d=some (.frz o (.dK (hD ps (homF (net.take i)))))/\kvs=hD (ps.take j) (lab (homF (net.take i)) t))
    ⟨⟨none,none,rfl⟩,g0,upd_same,rfl⟩ (λj kvs σ H5 _ h=>h.2.2.1) ?_ ?_
   ·rintro j kvs σ H5 T2 hj ⟨⟨x0,x1,rfl⟩,e5,f5,rfl⟩ hT2;have hy:ps[j]?=some ps[j]:=hA8 hj;refine⟨T2,_,rfl,SqT.of upd_same,?_⟩;rw[zAa hy];refine⟨rfl,_,_,rfl,_,_,rfl,rfl,iteT (B:=False) ?_⟩;have e6:=e5.trans (Ext.new hT2 (.tup [V.str ps[j],V.str (homF (net.take i) ps[j])]));have f6:=Ext.new hT2 (.tup [V.str ps[j],V.str (homF (net.take i) ps[j])]) _ _ f5;have sm:(hD (ps.take j) (lab (homF (net.take i)) t)).length<sizeLine:=by
     unfold hD;rw[hA4,hB2];exact qAd (by omega)
    refine⟨_,rfl,_,rfl,_,rfl,rfl,_,rfl,?_⟩;refine qGi (λc=>?_) (λc=>?_)
    ·refine⟨_,rfl,Sum.inr ps[j],rfl,sm,nxg hj ⟨⟨_,_,rfl⟩,e6,f6,?_⟩⟩;have c':homF (net.take i) ps[j]=homF (net.take i) t.2.2:=by simpa using c
     have h:=qMr (f:=lab (homF (net.take i)) t) pnd hy
     rwa [show lab (homF (net.take i)) t ps[j]=homF (net.take i) t.2.1 from hEs c']at h
    ·refine⟨_,rfl,Sum.inr ps[j],rfl,sm,nxg hj ⟨⟨_,_,rfl⟩,e6,f6,?_⟩⟩;have c':¬homF (net.take i) ps[j]=homF (net.take i) t.2.2:=by simpa using c
     have h:=qMr (f:=lab (homF (net.take i)) t) pnd hy
     rwa [show lab (homF (net.take i)) t ps[j]=homF (net.take i) ps[j] from hEr c']at h
   ·rintro kvs σ H5 ⟨⟨x0,x1,rfl⟩,e5,f5,rfl⟩ d2 hd2;rw[hBw (hAj _)];have hd20:=e5.none hd2;refine⟨d2,_,_,_,_,_,rfl,e5.over hd20 _,hd20,?_⟩;rw[qAl ht,qC5];exact upd_same
  ·rintro σ H3 ⟨d,x2,x3,x4,x5,x6,rfl,e3,hd0,hd3⟩;rw[hA4,lA,hBw (hAj _)]at hd3;exact⟨_,rfl,q d ps H3 e3 hd0 hd3 pok lps⟩
end
noncomputable def stT(t:Tr)(x:Str):List Str:=(if t.2.1=x then [t.1] else [])++(if t.2.2=x then [t.1] else [])
noncomputable def starF(net:List Tr)(x:Str):List Str:=(net.map λt=>stT t x).flatten
theorem qHx(net:List Tr)(t:Tr)(x:Str):starF (net++[t]) x=starF net x++stT t x:=by
 unfold starF;rw[hAf,hE7];simp
theorem qY1(t:Tr)(x:Str):(stT t x).length<=2:=by
 unfold stT;rw[hAk];split <;> split <;> simp
theorem qNj(net:List Tr)(x:Str):(starF net x).length<=2*net.length:=by
 refine qCx (P:=λnet=>(starF net x).length<=2*net.length) (hAj _) (λl t ih=>?_) net;rw[qHx,hAk,hAk];have:=qY1 t x;show _<=2*(l.length+1);omega
def qU9:Sp:=λvs H Q _=>∃(p:Addr) (net:List Tr) (x:Str),vs=[.ref p,.str x]/\qEl H p net/\net.length<=12/\∀r H',Ext H H'->H r=none->LsS H' r (starF net x)->Q (.ref r) H'
section
variable{P:Program}{w:World}{K:PySem.W.Frag}{mg:Str->Option Value}{base:Heap}{f f1:Addr}{fd fd1:FuncData}
theorem qY3:FnScope ["net","point"] ["net","point"] (qAc qTo):=fsk
noncomputable abbrev stN:List Str:=["tie","one","other","end","point"]
theorem qXe(F:Fun K "star" "star" qTo f fd):FnOk P w K mg base CX0 1 f fd ["net","point"] qU9:=by
 refine F.okA qY3 λcdv A outer s H vs Q E hr h=>?_
 obtain⟨p,net,x,rfl,⟨as,hp,pr⟩,hl,q⟩:=h;refine⟨_,qAi (qA2
  (zB9 qUh rfl (N:=["net","point"]) (sc:=qAc qTo) (N':=stN) (sub:=[none,none,none,none,some 1]) rfl rfl (CmpOk.of (by decide +kernel)) rfl (qA1 (pv 0))
   (λC s H fp=>⟨(show PG _ _ (qPt K 3 _) from qBt rfl (qAg (qAf (i:=0) (by show stN.Nodup;decide) rfl (Or.inl rfl)) (qAg (qAf (i:=1) (by show stN.Nodup;decide) rfl (Or.inl rfl)) (qAg (qAf (i:=2) (by show stN.Nodup;decide) rfl (Or.inl rfl)) qA3)))),qBk,
    λacc=>qOa rfl rfl (show PI _ _ _ (zBm K _) from qQ5 (qB4 (qAe (pv 1) (pa1 (pv 2))))) (qAf (i:=3) (by show stN.Nodup;decide) rfl (Or.inl rfl)) (qEf (qAv qE0 (pv 3) (pv 4) (qA6 _))) (qTz rfl (pv 0)) (λ_=>rfl) rfl rfl (λ_=>rfl) (λ_ _ _ _ _ h=>h) (λ_ _ _ _ _ h=>h) (λ_=>rfl)⟩))),?_⟩
 have lA:as.length=net.length:=pr.length;refine⟨_,rfl,p,rfl,⟨_,SqL.of hp⟩,?_⟩;refine qOo (xs:=as.map V.ref) (λi ss σ H'=>Ext H H'/\(∃x0 x1 x2 x3:Option V,σ=[x0,x1,x2,x3,some (.str x)])/\ss=(starF (net.take i) x).map V.str) ⟨Ext.refl _,⟨none,none,none,none,rfl⟩,rfl⟩ (λi ss σ H' _ h=>SqL.of (h.1 _ _ hp)) ?_ ?_
 ·rintro i z ss σ H' hx ⟨he,⟨x0,x1,x2,x3,rfl⟩,rfl⟩;obtain⟨a,t,rfl,ht,ha⟩:=qDl pr hx;have hi:=qBj ht;refine⟨a,_,rfl,SqT.of (he _ _ ha),rfl,_,_,rfl,_,_,rfl,_,_,rfl,rfl,iteT (B:=False) ?_⟩;refine⟨_,rfl,_,rfl,(by show 2<=sizeLine;decide),λT hT=>⟨T,rfl,⟨_,SqT.of upd_same⟩,?_⟩⟩;have X1:=Ext.new hT (.tup [V.str t.2.1,V.str t.2.2]);have ls:=qNj (net.take i) x;rw[hB2]at ls;refine qSb (xs:=[V.str t.2.1,V.str t.2.2]) (λj ss σ H2=>Ext (upd H' T (.tup [V.str t.2.1,V.str t.2.2])) H2/\(∃y:Option V,σ=[some (.str t.1),some (.str t.2.1),some (.str t.2.2),y,some (.str x)])/\ss=(starF (net.take i) x++((if 0<j/\t.2.1=x then [t.1] else [])++(if 1<j/\t.2.2=x then [t.1] else []))).map V.str)
   ⟨Ext.refl _,⟨_,rfl⟩,by simp⟩ (λj ss σ H2 _ h=>SqT.of (h.1 _ _ upd_same)) ?_ ?_
  ·rintro j z ss2 σ H2 hz ⟨h2,⟨y,rfl⟩,rfl⟩;have hj:j<2:=qBj hz;rcases(show j=0\/j=1 by omega) with rfl|rfl
   ·cases hAh hz;refine⟨_,rfl,_,rfl,rfl,_,rfl,?_⟩;refine qGi (λc=>?_) (λc=>?_)
    ·have c':t.2.1=x:=by simpa using c
     refine⟨_,rfl,?_,nxg hj ⟨h2,⟨_,rfl⟩,?_⟩⟩
     ·simp only[hBu,false_and,hFg,hBr,hDd,hA4];exact qAd (by simp;omega)
     ·simp[c']
    ·have c':¬t.2.1=x:=by simpa using c
     exact nxg hj ⟨h2,⟨_,rfl⟩,by simp[c']⟩
   ·cases hAh hz;refine⟨_,rfl,_,rfl,rfl,_,rfl,?_⟩;refine qGi (λc=>?_) (λc=>?_)
    ·have c':t.2.2=x:=by simpa using c
     refine⟨_,rfl,?_,nxg hj ⟨h2,⟨_,rfl⟩,?_⟩⟩
     ·rw[hA4,hAk,hAk];refine qAd ?_;have e1:(if 0<1/\t.2.1=x then [t.1] else []).length<=1:=by split <;> simp
      have e2:(if 1<1/\t.2.2=x then [t.1] else []).length<=1:=by split <;> simp
      omega
     ·simp[c']
    ·have c':¬t.2.2=x:=by simpa using c
     exact nxg hj ⟨h2,⟨_,rfl⟩,by simp[c']⟩
  ·rintro ss2 σ H2 ⟨h2,⟨y,rfl⟩,rfl⟩;refine nxg (qBj hx) ⟨he.trans (X1.trans h2),⟨_,_,_,_,rfl⟩,?_⟩;rw[qAl ht,qHx];unfold stT;simp
 ·rintro ss σ H' ⟨he,_,rfl⟩ r hr1;rw[hA4,lA,hBw (hAj _)];exact q r _ (he.trans (Ext.new hr1 _)) (he.none hr1) upd_same
end
noncomputable abbrev lbF(net:List Tr):Tr->Str:=λt=>homF net t.2.1
def PD(H0 H:Hp)(kvs:List (Key×V))(P:List (Str×List Str)):Prop:=Paired (λkv p=>kv.1=Sum.inr p.1/\∃a,kv.2=V.ref a/\LsS H a p.2/\H0 a=Option.none) kvs P
theorem PD.ext{H0 H H':Hp}{kvs:List (Key×V)}{P:List (Str×List Str)}(h:PD H0 H kvs P)(e:Ext H H'):PD H0 H' kvs P:=Paired.mapP h λ_ _ ⟨h1,a,h2,h3,h4⟩=>⟨h1,a,h2,e _ _ h3,h4⟩
theorem PD.set{H0 H:Hp}{d:Addr}{kvs:List (Key×V)}{P:List (Str×List Str)}(h:PD H0 H kvs P){kvs':List (Key×V)}(hd:H d=some (.dK kvs'))(o:HO):PD H0 (upd H d o) kvs P:=Paired.mapP h λ_ _ ⟨h1,a,h2,h3,h4⟩=>⟨h1,a,h2,by
 have ne:a≠d:=λz=>by unfold LsS at h3;rw[z,hd]at h3;cases h3
 unfold LsS;rw[qAb ne];exact h3,h4⟩
theorem PD.none{H0 H:Hp}:∀ {kvs:List (Key×V)} {P:List (Str×List Str)} {x:Str},PD H0 H kvs P->x∉P.map (·.1)->valV kvs (Sum.inr x)=Option.none
 |_,_,_,.nil,_=>rfl
 |_,_,_,.cons h t,nx=>by
  rw[hAn]at nx;have n1:=λz=>nx (hAg.mpr (.inl z))
  rw[qAz (λz=>n1 (Sum.inr.inj (h.1▸z)).symm)];exact PD.none t λz=>nx (hAe _ z)
theorem PD.some{H0 H:Hp}:∀ {kvs:List (Key×V)} {P:List (Str×List Str)} {x:Str},PD H0 H kvs P->x∈P.map (·.1)->∃p∈P,p.1=x/\∃a,valV kvs (Sum.inr x)=Option.some (.ref a)/\LsS H a p.2
 |_,_,_,.nil,m=>by cases m
 |_,_,x,@Paired.cons _ _ _ kv p _ _ h t,m=>by
  obtain⟨h1,a,h2,h3,_⟩:=h;by_cases e:p.1=x
  ·exact⟨p,hAb,e,a,by rw[qBc (by rw[h1,e]),h2],h3⟩
  ·rw[hAn]at m;rcases hAg.mp m with z|z
   ·exact absurd z.symm e
   ·obtain⟨p',hp',e',a',v,l⟩:=PD.some t z;exact⟨p',hAe _ hp',e',a',by rw[qAz (λz=>e (Sum.inr.inj (h1▸z)))];exact v,l⟩
theorem PD.put{H0 H:Hp}{x n:Str}{a:Addr}{old:List Str}(la:LsS H a (old++[n]))(la0:H0 a=Option.none):∀ {kvs:List (Key×V)} {P:List (Str×List Str)},PD H0 H kvs P->(P.map (·.1)).Nodup->(∀p∈P,p.1=x->p.2=old)->PD H0 H (kvs.map λkv=>if kv.1=Sum.inr x then (kv.1,V.ref a) else kv) (P.map λp=>if p.1=x then (p.1,p.2++[n]) else p)
 |_,_,.nil,_,_=>.nil
 |_,_,@Paired.cons _ _ _ kv p _ _ h t,nd,ho=>by
  rw[hAn,hAn];refine .cons ?_ (PD.put la la0 t (hB7.mp nd).2 λp hp=>ho p (hAe _ hp));obtain⟨h1,b,h2,h3,h4⟩:=h;by_cases e:p.1=x
  ·have e':kv.1=Sum.inr x:=by rw[h1,e]
   rw[hEs e,hEs e'];exact⟨h1,a,rfl,by rw[ho p hAb e];exact la,la0⟩
  ·have e':¬kv.1=Sum.inr x:=λz=>e (Sum.inr.inj (h1▸z))
   rw[hEr e,hEr e'];exact⟨h1,b,h2,h3,h4⟩
def zBz(H0 H:Hp)(fo:Addr)(F:List (List Str)):Prop:=∃as:List Addr,H fo=some (.lst (as.map V.ref))/\Paired (λa r=>LsS H a r/\H0 a=none/\a≠fo) as F
theorem qMt(as:List Addr):(List.range as.length).map (λi=>as.getD i 0)=as:=by
 refine hDk λi=>?_
 by_cases hi:i<as.length
 ·rw[hAc,hCb hi,hA8 hi];show some (as.getD i 0)=_;rw[hAa,hA8 hi];rfl
 ·rw[hC2 (by simp;omega),hC2 (by omega)]
theorem pick_perm{as:List Addr}{o:Array Nat}(g:Gd as.length o):(o.toList.map λi=>as.getD i 0).Perm as :=
 ((hD9.mp g).map λi=>as.getD i 0).trans (List.Perm.of_eq (qMt as))
theorem qYg(f:Tr->Str)(net:List Tr):(PCK f net).length<=net.length:=by
 refine qCx (P:=λnet=>(PCK f net).length<=net.length) (by rw[qF3];exact hAj _) (λl t ih=>?_) net;rw[qOx,hAk];split
 ·rw[hA4];exact hBa ih (Nat.le_add_right _ _)
 ·rw[hAk];exact hDw ih _
theorem qS4(f:Tr->Str)(net:List Tr):∀p∈PCK f net,p.2.length<=net.length:=λp hp=>by
 rw[qHm f net p hp,hA4];exact hBj _ _
theorem qRb{H0 H:Hp}:∀ {kvs:List (Key×V)} {P:List (Str×List Str)},PD H0 H kvs P->∃as:List Addr,kvs.map (·.2)=as.map V.ref/\Paired (λa r=>LsS H a r/\H0 a=none) as (P.map (·.2))
 |_,_,.nil=>⟨[],rfl,.nil⟩
 |_,_,.cons h t=>by
  obtain⟨h1,a,h2,h3⟩:=h;obtain⟨as,e,p⟩:=qRb t;exact⟨a :: as,by rw[hAn,hAn,e,h2],.cons h3 p⟩
def qNn:Sp:=λvs H Q _=>∃(p:Addr) (net:List Tr),vs=[.ref p]/\qEl H p net/\net.length<=12/\∀r H',Ext H H'->H r=none->zBz H H' r ((PCK (lbF net) net).map (·.2))->Q (.ref r) H'
section
variable{P:Program}{w:World}{K:PySem.W.Frag}{mg:Str->Option Value}{base:Heap}{f f1 f2:Addr}{fd fd1 fd2:FuncData}
noncomputable abbrev piN:List Str:=["net","home","told","tie","one","other"]
theorem qD5:FnScope piN ["net"] (qAc qL6):=fsk
theorem qRi(F:Fun K "pieces" "pieces" qL6 f fd)(G:Cl P w K mg base CX0 2 f1 fd1 ["net"] qP5 "homes")(ml:mg "list"=none):FnOk P w K mg base CX0 3 f fd ["net"] qNn:=by
 refine F.okA qD5 λcdv A outer s H vs Q E hr h=>?_
 obtain⟨p,net,rfl,nt,hl,q⟩:=h;refine⟨_,qAa (qAr (i:=1) qD5.nd rfl (Or.inl rfl) (qBf G hr rfl .nil qBg (pa1 (pv 0))))
  (qAa (qAr (i:=2) qD5.nd rfl (Or.inl rfl) qEy)
  (qAa (qB3 PassesOwn.never rfl (qA1 (pv 0)) (qBt rfl (qAg (qAf (i:=3) qD5.nd rfl (Or.inl rfl)) (qAg (qAf (i:=4) qD5.nd rfl (Or.inl rfl)) (qAg (qAf (i:=5) qD5.nd rfl (Or.inl rfl)) qA3))))
   (qAi (qDi (qCh hr) (pv 2) (qCv (qCh hr) (pv 1) (pv 4) (λ_ _=>rfl)) (qA5 qE1 (qGd (qCh hr) (pv 2) (qCv (qCh hr) (pv 1) (pv 4) (λ_ _=>rfl)) (qBo qC3) ⟨rfl,rfl,rfl,rfl⟩) (qBo (pa1 (pv 3)))) rfl)))
  (qAi (qA2 (qA7 (qHq rfl) rfl ml qBa (pa1 (qZm hDg hDx PySem.F.type_dict_values qRo (pv 2)))))))),?_⟩
 obtain⟨as,hp,pr⟩:=id nt;have lA:as.length=net.length:=pr.length;refine⟨_,rfl,p,net,rfl,nt,hl,λhm ps H1 e1 hm0 hm1 pok lps=>?_⟩;intro d hd;have hd0:=e1.none hd;have hmd:hm≠d:=qAp hm1 hd;refine⟨_,rfl,p,rfl,⟨_,SqL.of ((e1.over hd0 _) _ _ hp)⟩,?_⟩;refine qC6 (xs:=as.map V.ref) (λi σ H3=>∃(x3 x4 x5:Option V) (kvs:List (Key×V)),σ=[some (.ref p),some (.ref hm),some (.ref d),x3,x4,x5]/\Ext H H3/\H3 hm=some (.dK (hD ps (homF net)))/\H3 d=some (.dK kvs)/\PD H H3 kvs (PCK (lbF net) (net.take i)))
  ⟨none,none,none,[],rfl,e1.over hd0 _,by rw[qAb hmd];exact hm1,upd_same,by rw[List.take_zero,qF3];exact .nil⟩ ?_ ?_ ?_
 ·rintro i σ H3 _ ⟨x3,x4,x5,kvs,_,e3,_⟩;exact SqL.of (e3 _ _ hp)
 ·rintro i x σ H3 hx ⟨x3,x4,x5,kvs,rfl,e3,hh3,hd3,pd⟩;obtain⟨a,t,rfl,ht,ha⟩:=qDl pr hx;have hi:=qBj ht;have i1:t.2.1∈ps:=(pok.2 _).mpr ⟨t,hAs ht,.inl rfl⟩;have v1:=qKw (homF net) t.2.1 ps;rw[hEs i1]at v1;have lk:kvs.length<=i:=by
   have h1:kvs.length=_:=pd.length;have h2:=qYg (lbF net) (net.take i);rw[hB2]at h2;omega
  refine⟨a,_,rfl,SqT.of (e3 _ _ ha),rfl,_,_,rfl,_,_,rfl,_,_,rfl,rfl,?_⟩;have gh:∀ {H4:Hp},Ext H3 H4->qD3 H4 hm (V.str t.2.1) (some (.str (homF net t.2.1))):=λe=>by
   have g:=qD3.k (k:=Sum.inr t.2.1) (e _ _ hh3);rw[v1]at g;exact g
  refine⟨_,rfl,d,rfl,.inl ⟨kvs,.inl hd3⟩,_,rfl,_,rfl,hm,_,rfl,gh (Ext.refl _),hAy _,λl0 hl0=>?_⟩;have n0:=Ext.new hl0 (.lst []);refine⟨_,qD3.k (k:=Sum.inr (homF net t.2.1)) (n0 _ _ hd3),?_⟩;refine⟨_,rfl,(by show 1<=sizeLine;decide),λl1 hl1=>?_⟩;have n1:=n0.trans (Ext.new hl1 (.lst [V.str t.1]));have snoc:=qOx (lbF net) t (net.take i);rw[<-qAl ht]at snoc;by_cases m:homF net t.2.1∈(PCK (lbF net) (net.take i)).map (·.1)
  ·obtain⟨pp,hpp,ep,lv,ev,hlv⟩:=pd.some m;have lz:=qS4 (lbF net) (net.take i) pp hpp;rw[hB2]at lz;rw[hEs (show lbF net t∈_ from m)]at snoc;refine⟨lv,l1,_,_,by rw[ev];rfl,rfl,n1 _ _ hlv,upd_same,?_,λl2 hl2=>?_⟩
   ·rw[hA4];show _+1<=sizeLine;exact hBz (qAd (by omega))
   have n2:=n1.trans (Ext.new hl2 (.lst (pp.2.map V.str++[V.str t.1])));have d2:=n2 _ _ hd3;have e4:=(e3.trans n2).over hd0 (.dK (qCz kvs (Sum.inr (homF net t.2.1)) (.ref l2)));refine⟨_,rfl,_,rfl,_,rfl,hm,_,rfl,gh n2,d,_,rfl,qJx.k (k:=Sum.inr (homF net t.2.1)) d2 (qAd (by omega)),?_⟩;refine⟨_,_,_,qCz kvs (Sum.inr (homF net t.2.1)) (.ref l2),rfl,e4,by rw[qAb hmd];exact n2 _ _ hh3,upd_same,?_⟩;rw[snoc];have pk:qCz kvs (Sum.inr (homF net t.2.1)) (.ref l2)=kvs.map λkv=>if kv.1=Sum.inr (homF net t.2.1) then (kv.1,V.ref l2) else kv:=by
    unfold qCz;rw[qCl,ev,hEe,hEs rfl]
   rw[pk];refine PD.set (PD.put (old:=pp.2) (n:=t.1) (by unfold LsS;rw[upd_same,hAf];rfl) ((e3.trans n1).none hl2) (pd.ext n2) (qFg _ _).1 λp' hp' ep'=>?_) d2 _;rw[qHm _ _ p' hp',qHm _ _ pp hpp,ep',ep]
  ·have ev:=pd.none m;rw[hEr (show ¬lbF net t∈_ from m)]at snoc;refine⟨l0,l1,_,_,by rw[ev];rfl,rfl,(Ext.new hl1 _) _ _ upd_same,upd_same,(by show 1<=sizeLine;decide),λl2 hl2=>?_⟩;have n2:=n1.trans (Ext.new hl2 (.lst ([]++[V.str t.1])));have d2:=n2 _ _ hd3;have e4:=(e3.trans n2).over hd0 (.dK (qCz kvs (Sum.inr (homF net t.2.1)) (.ref l2)));refine⟨_,rfl,_,rfl,_,rfl,hm,_,rfl,gh n2,d,_,rfl,qJx.k (k:=Sum.inr (homF net t.2.1)) d2 (qAd (by omega)),?_⟩;refine⟨_,_,_,qCz kvs (Sum.inr (homF net t.2.1)) (.ref l2),rfl,e4,by rw[qAb hmd];exact n2 _ _ hh3,upd_same,?_⟩;rw[snoc,qCn _ ev];exact PD.set (P:=PCK (lbF net) (net.take i)++[(lbF net t,[t.1])]) (Paired.snoc (pd.ext n2) ⟨rfl,l2,rfl,(upd_same:upd _ _ (HO.lst [V.str t.1]) _=_),(e3.trans n1).none hl2⟩) d2 _
 ·rintro σ H3 ⟨x3,x4,x5,kvs,rfl,e3,hh3,hd3,pd⟩;rw[hA4,lA,hBw (hAj _)]at pd;refine⟨_,rfl,.inr (.inr (.inl ⟨rfl,.inl ⟨kvs,hd3⟩⟩)),d,kvs,rfl,rfl,hd3,λv hv'=>?_⟩;have n1:=Ext.new hv' (VwS v d);refine⟨v,d,kvs,rfl,upd_same,n1 _ _ hd3,λl hl'=>?_⟩;obtain⟨bs,eb,pb⟩:=qRb pd;have n2:=n1.trans (Ext.new hl' (.lst (kvs.map (·.2))));exact q l _ (e3.trans n2) ((e3.trans n1).none hl') ⟨bs,by rw[upd_same,eb],Paired.mapP pb λa t z=>⟨n2 _ _ z.1,z.2,qAp (n1 _ _ z.1) hl'⟩⟩
end
end My
namespace L2
open PySem PySem.Spec PyProof.Rows
section
variable{X:Cx}
theorem qXy:∀ {us:List Value},qBd (ns.map V.int) us->∃xs:List (Int×Tok),us=xs.map (λp=>Value.int p.1 p.2)/\xs.map (·.1)=ns:=by
 induction ns with
 |nil=>intro us r;cases r;exact⟨[],rfl,rfl⟩
 |cons a l ih =>
  intro us r;cases r with
  |cons r rr =>
   obtain⟨t,rfl⟩:=r;obtain⟨xs,rfl,rfl⟩:=ih rr;exact⟨(a,t) :: xs,rfl,rfl⟩
theorem qSt(hc:X.calm=true):qCa X (.builtin "sum") (λxs H Q=>∃(p:Addr) (ns:List Int),xs=[.ref p]/\SqL X.K H p (ns.map V.int)/\Q (.int ns.sum) H):=by
 intro aB s σ H xs us Q I r h;obtain⟨p,ns,rfl,hq,q⟩:=h;obtain⟨u,rfl,rx⟩:=qC8 r;cases rx;obtain⟨its,rv,pl,hz⟩:=I.list hq;obtain⟨ys,rfl,rfl⟩:=qXy rv;have e:(ys.map (λp=>Value.int p.1 p.2)).toArray=intItems ys.toArray:=by unfold intItems;simp
 have pl':=pl.isList;rw[e]at pl';refine sum_intListG (I.ok.hd hc) pl' λh' tk t' hk=>⟨.int _,H,I.kept (t':=tk) hk,⟨t',rfl⟩,?_⟩
 rw[preSum_eq,hBw (by simp)];exact q
theorem qMn:∀ {us:List Value},qBd (ns.map V.int) us->IntsAre us ns:=by
 induction ns with
 |nil=>intro us r;cases r;exact .nil
 |cons a l ih =>
  intro us r;cases r with
  |cons r rr =>
   obtain⟨t,rfl⟩:=r;exact .cons a t (ih rr)
theorem qPd:∀ {us:List Value},IntsAre us ns->qBd (ns.map V.int) us:=by
 induction ns with
 |nil=>intro us r;cases r;exact .nil
 |cons a l ih =>
  intro us r;cases r with
  |cons _ _ r=>exact .cons ⟨_,rfl⟩ (ih r)
end
section
variable{X:Cx}
def zBr(K:PySem.W.Frag)(ta:TA):TI:=λσ H R=>ta σ H λvs H1=>∃(a:Addr) (xs:List V),vs=[.ref a]/\SqL K H1 a xs/\R (Itp xs.length (λH=>SqL K H a xs) (λi=>[.int (i:Nat),xs.getD i .non])) H1
theorem qS1:bootBuiltins "enumerate"=some (.type "enumerate"):=by decide +kernel
theorem qW2(hg:Gl X "enumerate")(hm:X.mg "enumerate"=none)(ha:PA X [a] ta)(hs:starEach [a] X.env=[(false,eval a X.env)]:=by rfl) :
  PI X (.Tuple elts ct tpos) (.Call (.Name "enumerate" p) [a] [] pos) (zBr X.K ta):=by
 intro aB s σ H R I h;refine Call_ (qG1 I hg hm qS1 (hDl (thn (ha pos aB s σ H _ I h) λus s1 ⟨vs,H1,I1,r1,q1⟩=>?_) (by rw[hs];rfl) (by rfl)));obtain⟨l,xs,e,hx,q⟩:=q1;subst e;obtain⟨u,rfl,rx⟩:=qC8 r1;cases rx;obtain⟨it1,rv1,pl1,hz1⟩:=I1.list hx;have b1:l<s1.heap.objs.size:=by obtain⟨o,n,e,_⟩:=pl1;exact Heap.lt_size e
 refine call_enumerate_list pl1.isList λh1 z1 z2 z3 z7=>?_
 refine wpAny_pyIter_enum z1 ?_;have hfp:∀b∈[s1.heap.objs.size+1,s1.heap.objs.size],s1.heap.objs.size<=b:=λb hb=>by
  simp only[hAg,hC6,hFv]at hb;rcases hb with rfl|rfl
  ·exact Nat.le_add_right _ _
  ·exact hAj _
 refine⟨s1.heap.objs.size+1,[s1.heap.objs.size+1,s1.heap.objs.size],
  λi h=>(∃old,IsEnum h (s1.heap.objs.size+1) s1.heap.objs.size i old)/\h.IsListIter s1.heap.objs.size l i,
  _,H1,rfl,I1.kept (t':=s1.toks) z7,
  qOz (s1.heap.objs.size+1) _ [s1.heap.objs.size+1,s1.heap.objs.size,l] [s1.heap.objs.size+1,s1.heap.objs.size] _ _ _ _ (by simp) (λb hb=>hb) (λi h st b hb=>?_) (λi h h' st k=>?_) (λi=>by show 2<=sizeLine;decide) ?_ (λA i s' Q E st hQ=>by
   obtain⟨⟨old,he⟩,_⟩:=st;exact wpAny_pyIter_enum he hQ),
  ⟨⟨_,z1⟩,z2⟩,λb hb=>I1.fpOk (hfp b hb) (I1.hok.fresh (hfp b hb)),q⟩
 ·obtain⟨⟨old,a1⟩,⟨o4,a4,c4,d4⟩⟩:=st;simp only[hAg,hC6,hFv]at hb;rcases hb with rfl|rfl
  ·exact⟨_,a1,λv z=>by cases z⟩
  ·exact⟨_,a4,λv z=>by rw[d4]at z;cases z⟩
 ·obtain⟨⟨old,a1⟩,a4⟩:=st;exact⟨⟨old,k _ (by simp) _ a1⟩,a4.at λo e=>k _ (by simp) o e⟩
 ·intro X' hP hw hK hc pins' s' σ' H' I' hL;rw[<-hK]at hL;obtain⟨jt1,sv1,ql1,_⟩:=I'.list hL;have m1:=sv1.length;have ne1:l≠s1.heap.objs.size:=hAt b1;have Wz:=WalksT.enumerateD (A:=X'.A) (Draws.list (prog:=X.prog) (w:=X.w) (A:=X'.A.in1) (I'.ok.hd hc) s1.heap.objs.size l ne1 jt1.toArray) (s1.heap.objs.size+1) (Nat.succ_ne_self _) (λz=>by
   simp only[hAg,hC6,hFv]at z;rcases z with z|z
   ·exact Nat.succ_ne_self _ z
   ·exact absurd b1 (by rw[<-z];exact Nat.not_lt_of_le (hBl _))) (by simp)
  rw[show jt1.toArray.size=xs.length by show jt1.length=_;rw[m1]]at Wz;refine⟨_,_,_,Wz,λi st=>?_,λi h st=>?_,λi vals pv=>?_⟩
  ·exact⟨st.1,st.2,ql1.isList⟩
  ·exact⟨st.1,st.2.1⟩
  ·obtain⟨t,x,e1,rfl⟩:=pv;have e1:jt1[i]?=some x:=by simpa using e1
   have c1:i<xs.length:=by rw[m1];exact(hAz.mp e1).1
   obtain⟨u,d1,d2⟩:=sv1.get (hA8 c1);rw[e1]at d1;cases d1;show qBd [.int (i:Nat),xs.getD i .non] [.int i t,x];rw[hAa,hA8 c1];exact .cons ⟨t,rfl⟩ (.cons d2 .nil)
end
section
variable{X:Cx}
def qWx:V->List V->Hp->VK->Prop:=λx vs H Q=>∃(l:Addr) (xs:List V) (i:Nat) (y:V),x = .ref l/\vs=[.int (i:Int),y]/\H l=some (.lst xs)/\i<=xs.length/\xs.length<1000/\Q .non (upd H l (.lst (xs.take i++y :: xs.drop i)))
theorem qBd.takeL:∀ {xs:List V} {us:List Value} (i:Nat),qBd xs us->qBd (xs.take i) (us.take i)
 |_,_,0,_=>.nil
 |_,_,_+1,.nil=>.nil
 |_,_,i+1,.cons r t=>.cons r (qBd.takeL i t)
theorem qBd.dropL:∀ {xs:List V} {us:List Value} (i:Nat),qBd xs us->qBd (xs.drop i) (us.drop i)
 |_,_,0,h=>h
 |_,_,_+1,.nil=>.nil
 |_,_,i+1,.cons _ t=>qBd.dropL i t
theorem qE2:MtM X "list.insert" qWx:=by
 intro aB s σ H x vs v us Q I rx rv h;obtain⟨l,xs,i,y,rfl,rfl,hH,hi,hz,q⟩:=h;cases rx;obtain⟨u,w',rfl,r1,r2⟩:=qLz rv;obtain⟨t,rfl⟩:=r1;obtain⟨z,its,n,r,hl,e⟩:=I.lstM hH;have fi:¬(!Builtin.List.listFitsIndex (i:Int))=true:=by
  rw[fitsIndex_both (by omega) (by omega)];exact hAo
 have zz:its.toArray.size<=sizeLine:=by rw[hAu,<-hl];exact z
 obtain⟨k,hk⟩:∃k:Int,k=(i:Int):=⟨_,rfl⟩;rw[<-hk]at fi ⊢;have M:=AutoListH.list_insert_list_int_val_1 l its.toArray n k t w' fi zz;refine call_meets F.slot_list_insert ⟨_,e,rfl⟩ F.entry_list_insert (F.args_list_insert_3 _ _ _) M ⟨e,?_⟩;refine⟨.non,_,I.lset (its':=its.take i++w' :: its.drop i) hH e ?_ (qBd.append (qBd.takeL i r) (.cons r2 (qBd.dropL i r))) ?_,rfl,q⟩
 ·have k':(if k<0 then (k+((its.toArray.size:Nat):Int)).toNat else min k.toNat its.toArray.size)=i:=by
   rw[hk,hEr (by omega),hB8,hAu];omega
  dsimp only;rw[k'];apply Array.ext';simp;rw[hBw (by rw[hC8];exact hAj _)]
 ·rw[hAk,hBg,hB2,hC8];exact hBz (qAd (by omega))
end
end L2
namespace L2
open PySem PySem.Spec PyProof.Rows PySem.SeqAt PySem.MeetsSeq
end L2
namespace L2
open PySem PySem.Spec PyProof.Rows
section
variable{X:Cx}{k:Nat}{f:Addr}{fd:FuncData}{ps:List Str}{sp:Sp}{E:XK}
structure Aw(X:Cx)(aB:List (Addr×Obj))(a:Addr):Prop where
 loc:a≠X.env.locals
 ab:X.s₀.heap.objs.size<=a
 cel:∀x c,X.env.cells.lookup x=some c->c≠a
 pin:∀p∈X.pn++aB,p.1≠a
 fs:a∉X.fs
end
end L2
namespace My
open PySem L2
def qP4(K:PySem.W.Frag):Sp:=λvs H Q _=>∃(a:Addr) (ns:List Int) (k:Int),vs=[.ref a,.int k]/\SqL K H a (ns.map V.int)/\0<=k/\k<=1000/\∀v r,H r=none->Q (.ref r) (upd H r (.lst [.int v]))
def qNk:Sp:=λvs H Q _=>∃(d:Addr) (n m:Int),vs=[.ref d,.int m]/\H d=some (.lst [.int n])/\0<m/\m<1073741824/\∀q r,0<=r->r<m->Q (.int r) (upd H d (.lst [.int q]))
section
variable{P:Program}{w:World}{K:PySem.W.Frag}{mg:Str->Option Value}{base:Heap}{f f1:Addr}{fd fd1:FuncData}
theorem qVi:FnScope ["_law_draw","_law_many","_law_digit"] ["_law_draw","_law_many"] (qAc qWn):=fsk
theorem qXd(F:Fun K "_law_take" "_law_take" qWn f fd):FnOk P w K mg base CX0 1 f fd ["_law_draw","_law_many"] qNk:=by
 refine F.okA qVi λcdv A outer s H vs Q E hr h=>?_
 obtain⟨d,n,m,rfl,hd,h1,h2,q⟩:=h;refine⟨_,qAa (qAr (i:=2) qVi.nd rfl (Or.inl rfl) (qA5 qEa (qAt qAm (pv 0) qAk (λ_ _=>rfl)) (pv 1)))
  (qAa (qEx (qA5 qMd (qAt qAm (pv 0) qAk (λ_ _=>rfl)) (pv 1)) (qKe (pv 0) qAk qEt)) (qAi (qA2 (pv 2)))),?_⟩
 refine⟨_,rfl,d,_,_,_,rfl,rfl,SqL.of hd,rfl,_,rfl,_,_,rfl,rfl,h1,?_⟩;refine⟨_,rfl,d,_,_,_,rfl,rfl,SqL.of hd,rfl,_,rfl,_,_,rfl,rfl,⟨h1,h2⟩,?_⟩;refine⟨_,rfl,d,_,_,_,rfl,rfl,hd,rfl,?_⟩;exact⟨_,rfl,q (n / m) (n % m) (hD5 _ (by omega)) (hCo _ h1)⟩
end
section
variable{P:Program}{w:World}{K:PySem.W.Frag}{mg:Str->Option Value}{base:Heap}{f f1:Addr}{fd fd1:FuncData}
theorem qEe:FnScope ["_law_script","_law_at","_law_cell","_law_come","_law_k","_law_one","_law_mixed"] ["_law_script","_law_at"] (qAc qQg):=fsk
theorem qT4(F:Fun K "_law_purse" "_law_purse" qQg f fd)(G:Cl P w K mg base CX0 1 f1 fd1 ["_law_script","_law_k"] (qVf K) "_law_cell_at")(mr:mg "range"=none) :
  FnOk P w K mg base CX0 2 f fd ["_law_script","_law_at"] (qP4 K):=by
 refine F.okA qEe λcdv A outer s H vs Q E hr h=>?_
 obtain⟨a,ns,k,rfl,hS,h0,h1,q⟩:=h;refine⟨_,qAa (qAr (i:=2) qEe.nd rfl (Or.inl rfl) (qBf G hr rfl .nil qBg (qAe (pv 0) (pa1 (pv 1)))))
  (qAa (qC9 (qAv zBe (pv 2) (qA5 qVs qAk qAk) (qA6 _)) (qAi (qA2 (qBo (pa1 (pv 2))))) qBy)
  (qAa (qAr (i:=3) qEe.nd rfl (Or.inl rfl) qAk)
  (qAa (qB3 PassesOwn.never rfl (qBz rfl mr (pa1 qAk)) (qAf (i:=4) qEe.nd rfl (Or.inl rfl))
   (qAa (qAr (i:=5) qEe.nd rfl (Or.inl rfl) (qA5 qCq (qA5 qCq (qA5 qCq (qA5 qEa (qBf G hr rfl .nil qBg (qAe (pv 0) (pa1 (qA5 qCq (pv 1) (qA5 qEa (pv 4) qAk))))) (qA5 qVs qAk qAk)) qAk)
     (qA5 qEz (qA5 qEz qAk (pv 4)) (pv 4))) (qA5 qEz qAk (pv 1))))
   (qAa (qAr (i:=6) qEe.nd rfl (Or.inl rfl) (qA5 qEa (qA5 qEz (pv 5) qAk) qAk))
   (qAi (qAr (i:=3) qEe.nd rfl (Or.inl rfl) (qA5 qCq (qA5 qEz (pv 3) qAk) (qA5 qEa (qA5 qCq (qA5 qEa (qA5 qEz (pv 6) (pv 6)) qAk) (qA5 qMd (pv 5) qAk)) qAk)))))))
  (qAi (qA2 (qBo (pa1 (pv 3)))))))),?_⟩
 refine⟨_,rfl,_,rfl,a,ns,k,rfl,hS,h0,λv=>?_⟩;refine⟨_,rfl,_,_,rfl,rfl,⟨by decide,by decide,by decide⟩,_,_,rfl,rfl,_,rfl,?_⟩;refine qGi (λc=>?_) (λc=>?_)
 ·exact⟨_,rfl,(by show 1<=sizeLine;decide),λr hr'=>q v r hr'⟩
 refine⟨60,rfl,by decide,by decide,qCs (lo:=0) (n:=60) (λi σ H'=>H'=H/\∃(c:Int) (x y z:Option V),σ=[some (.ref a),some (.int k),some (.int v),some (.int c),x,y,z]) ⟨rfl,0,none,none,none,rfl⟩ ?_ ?_⟩
 ·rintro i σ H' hi ⟨rfl,c0,x,y,z,rfl⟩;refine⟨_,rfl,_,rfl,_,rfl,_,_,rfl,rfl,(by show(0:Int)<_;decide),_,_,rfl,rfl,a,ns,_,rfl,hS,?_,λu=>?_⟩
  ·have:=hD5 ((0:Int)+(i:Int)) (show(9:Int)≠0 by decide);omega
  refine⟨_,_,rfl,rfl,⟨by decide,by decide,by decide⟩,_,_,rfl,rfl,(by show(0:Int)<_;decide),_,_,rfl,rfl,?_⟩;refine⟨_,rfl,_,_,rfl,rfl,.inl ⟨by decide,by decide⟩,_,rfl,_,_,rfl,rfl,.inr ⟨by omega,by omega⟩,_,_,rfl,rfl,?_⟩;refine⟨_,rfl,_,_,rfl,rfl,.inl ⟨by decide,by decide⟩,_,_,rfl,rfl,?_⟩;refine⟨_,rfl,_,_,rfl,rfl,.inr ⟨by decide,by decide⟩,_,_,rfl,rfl,(by show(0:Int)<_;decide),?_⟩;refine⟨_,rfl,_,_,rfl,rfl,.inr ⟨by decide,by decide⟩,_,rfl,_,rfl,_,_,rfl,rfl,?_,_,_,rfl,rfl,(by show(0:Int)<_;decide),_,rfl,_,_,rfl,rfl,⟨by decide,by decide⟩,_,_,rfl,rfl,_,_,rfl,rfl,(by show(0:Int)<_;decide),_,_,rfl,rfl,?_⟩
  ·refine .inl ⟨?_,?_⟩
   ·exact Int.lt_of_lt_of_le (by decide) (hD5 _ (by decide))
   ·exact Int.lt_of_lt_of_le (hCo _ (by decide)) (by decide)
  ·exact⟨rfl,_,_,_,_,rfl⟩
 ·rintro σ H' ⟨rfl,c0,x,y,z,rfl⟩;exact⟨_,rfl,(by show 1<=sizeLine;decide),λr hr'=>q c0 r hr'⟩
def qVa:Sp:=λvs H Q _=>∃(p r:Bool),vs=[.bl p,.bl r]/\Q (.bl (decide (V.bl p=V.bl r))) H
end
section
variable{α:Type}[DecidableEq α]
def Lk(f:α->α):α->List α->α->Prop
 |a,[],b=>f a=b
 |a,c :: l,b=>f a=c/\Lk f c l b
def Cyc(f:α->α):List α->Prop
 |[]=>False
 |x :: l=>Lk f x l x
theorem Lk.app{f:α->α}:∀ {l1 l2:List α} {a b c:α},Lk f a (l1++c :: l2) b↔Lk f a l1 c/\Lk f c l2 b
 |[],l2,a,b,c=>Iff.rfl
 |x :: l1,l2,a,b,c=>by
  show(f a=x/\Lk f x (l1++c :: l2) b)↔(f a=x/\Lk f x l1 c)/\Lk f c l2 b;rw[Lk.app];exact and_assoc.symm
theorem Lk.mem{f:α->α}{S:α->Prop}:∀ {l:List α} {a b:α},Lk f a l b->(∀e∈a :: l,S e->S (f e))->S a->(∀e∈l,S e)/\S b
 |[],a,b,h,hS,ha=>⟨λe he=>(by cases he),by rw[<-show f a=b from h];exact hS a hAb ha⟩
 |c :: l,a,b,⟨h1,h2⟩,hS,ha=>by
  have hc:S c:=by rw[<-h1];exact hS a hAb ha
  obtain⟨x,y⟩:=Lk.mem h2 (λe he=>hS e (hAe _ he)) hc;refine⟨λe he=>?_,y⟩;rcases hAg.mp he with rfl|he
  ·exact hc
  ·exact x e he
theorem Cyc.closed{f:α->α}{F:List α}(h:Cyc f F):∀e∈F,f e∈F:=λe he=>by
 cases F with
 |nil=>cases h
 |cons x l =>
  obtain⟨l1,l2,e2⟩:=hEf he;cases l1 with
  |nil =>
   rw[hDd,hB4]at e2;obtain⟨rfl,rfl⟩:=e2;cases l with
   |nil=>rw[show f x=x from h];exact he
   |cons c l=>rw[show f x=c from h.1];exact hAe _ hAb
  |cons y l1 =>
   rw[hBx,hB4]at e2;obtain⟨rfl,rfl⟩:=e2;have h2:=(Lk.app.mp (show Lk f x (l1++e :: l2) x from h)).2;cases l2 with
   |nil=>rw[show f e=x from h2];exact hAb
   |cons c l2=>rw[show f e=c from h2.1];simp
theorem Cyc.all{f:α->α}{S:α->Prop}{F:List α}(h:Cyc f F)(hS:∀e∈F,S e->S (f e)){x:α}(hx:x∈F)(sx:S x):∀e∈F,S e:=by
 cases F with
 |nil=>cases h
 |cons a l =>
  obtain⟨l1,l2,e2⟩:=hEf hx;cases l1 with
  |nil =>
   rw[hDd,hB4]at e2;obtain⟨rfl,rfl⟩:=e2;have:=Lk.mem (S:=S) (show Lk f a l a from h) hS sx;intro e he;rcases hAg.mp he with rfl|he
   ·exact sx
   ·exact this.1 e he
  |cons y l1 =>
   rw[hBx,hB4]at e2;obtain⟨rfl,rfl⟩:=e2;obtain⟨h1,h2⟩:=Lk.app.mp (show Lk f a (l1++x :: l2) a from h);obtain⟨b1,b2⟩:=Lk.mem (S:=S) h2 (λe he=>hS e (by
    rcases hAg.mp he with rfl|he
    ·simp
    ·simp[he])) sx
   obtain⟨b3,_⟩:=Lk.mem (S:=S) h1 (λe he=>hS e (by
    rcases hAg.mp he with rfl|he
    ·simp
    ·simp[he])) b2
   intro e he;rcases hAg.mp he with rfl|he
   ·exact b2
   ·rcases hAp.mp he with z|z
    ·exact b3 e z
    ·rcases hAg.mp z with rfl|z
     ·exact sx
     ·exact b1 e z
theorem Cyc.turn{f:α->α}{F:List α}(h:Cyc f F){y:α}(hy:y∈F):∃l,Cyc f (y :: l)/\F.Perm (y :: l):=by
 cases F with
 |nil=>cases h
 |cons a l =>
  obtain⟨l1,l2,e2⟩:=hEf hy;cases l1 with
  |nil =>
   rw[hDd,hB4]at e2;obtain⟨rfl,rfl⟩:=e2;exact⟨l,h,.refl _⟩
  |cons z l1 =>
   rw[hBx,hB4]at e2;obtain⟨rfl,rfl⟩:=e2;obtain⟨h1,h2⟩:=Lk.app.mp (show Lk f a (l1++y :: l2) a from h);refine⟨l2++a :: l1,Lk.app.mpr ⟨h2,h1⟩,?_⟩;rw[<-hBx];exact(List.perm_append_comm (l₁:=a :: l1) (l₂:=y :: l2))
theorem qK7{f:α->α}{p:α->Bool}:∀ {Fs Gs:List (List α)},Fs.flatten.Perm Gs.flatten->Fs.flatten.Nodup->(∀F∈Fs,Cyc f F)->(∀G∈Gs,Cyc f G)->(∀e∈Fs.flatten,p (f e)=p e) ->
  (Fs.filter λF=>F.any p).length=(Gs.filter λG=>G.any p).length
 |[],Gs,h,_,_,hG,_=>by
  cases Gs with
  |nil=>rfl
  |cons G r =>
   have hc:=hG G hAb;have:=h.length_eq;cases G with
   |nil=>cases hc
   |cons x l=>simp at this
 |F :: Fs,Gs,h,nd,hF,hG,hp=>by
  have cF:=hF F hAb;obtain⟨x,l,rfl⟩:∃x l,F=x :: l:=by
   cases F with
   |nil=>cases cF
   |cons x l=>exact⟨x,l,rfl⟩
  have hx:x∈Gs.flatten:=h.mem_iff.mp (by simp);obtain⟨G,hGm,hxG⟩:=hCe.mp hx;have cG:=hG G hGm;have ndF:(x :: l).Nodup:=by rw[hBt]at nd;exact(hB6.mp nd).1
  have ndG:G.Nodup:=by
   have:=(h.nodup_iff).mp nd;exact this.sublist (List.sublist_flatten_of_mem hGm)
  have mem:∀e,e∈x :: l↔e∈G:=λe =>
   ⟨λhe=>cF.all (S:=λe=>e∈G) (λe _=>cG.closed e) hAb hxG e he,λhe=>cG.all (S:=λe=>e∈x :: l) (λe _=>cF.closed e) hxG hAb e he⟩
  have pFG:(x :: l).Perm G:=(hBm ndF ndG).mpr mem;have pG:Gs.Perm (G :: Gs.erase G):=List.perm_cons_erase hGm;have fl:Fs.flatten.Perm (Gs.erase G).flatten:=by
   have h1:((x :: l)++Fs.flatten).Perm (G++(Gs.erase G).flatten):=by
    have:=h.trans (List.Perm.flatten pG);rw[hBt,hBt]at this;exact this
   exact(List.perm_append_left_iff G).mp ((pFG.symm.append_right _).trans h1)
  have ih:=qK7 (p:=p) fl (by rw[hBt]at nd;exact(hB6.mp nd).2.1) (λF hF'=>hF F (hAe _ hF')) (λG' hG'=>hG G' (hDq hG')) (λe he=>hp e (by rw[hBt];exact hAq _ he));have e1:(Gs.filter λG=>G.any p).length=((G :: Gs.erase G).filter λG=>G.any p).length:=(pG.filter _).length_eq;have e2:(x :: l).any p=G.any p:=by
   rw[hBq,hC5,hC5];exact⟨λ⟨e,he,z⟩=>⟨e,(mem e).mp he,z⟩,λ⟨e,he,z⟩=>⟨e,(mem e).mpr he,z⟩⟩
  rw[e1,hCd,hCd,e2];cases G.any p
  ·exact ih
  ·show _+1=_+1;rw[ih]
theorem Lk.same{f g:α->α}{ρ:α->α}{b:α}:∀ {l:List α} {a:α},(∀e∈a :: l,g (ρ e)=ρ (f e))->Lk f a l b->Lk g (ρ a) (l.map ρ) (ρ b)
 |[],a,hg,h=>by
  show g (ρ a)=ρ b;rw[hg a hAb,show f a=b from h]
 |c :: l,a,hg,⟨h1,h2⟩=>⟨by rw[hg a hAb,h1],Lk.same (λe he=>hg e (hAe _ he)) h2⟩
end
abbrev Ps:=Nat×Nat
section
variable{α:Type}[DecidableEq α]
noncomputable def qAx(R:List (List α))(i:Nat):List α:=R.getD i []
noncomputable def atR(R:List (List α))(e:Ps):Option α:=(qAx R e.1)[e.2]?
noncomputable def lenR(R:List (List α))(i:Nat):Nat:=(qAx R i).length
noncomputable def ends(R:List (List α)):List Ps:=(List.range R.length).flatMap λi=>(List.range (lenR R i)).map λj=>(i,j)
theorem qGt{R:List (List α)}{i:Nat}(h:R.length<=i):qAx R i=[]:=by
 unfold qAx;rw[hAa,hC2 h];rfl
theorem qAn{R:List (List α)}{e:Ps}:e∈ends R↔e.2<lenR R e.1:=by
 unfold ends;rw[List.mem_flatMap];constructor
 ·rintro⟨i,hi,h⟩;obtain⟨j,hj,rfl⟩:=hAm.mp h;exact hAw.mp hj
 ·intro h;have hi:e.1<R.length:=by
   by_cases z:e.1<R.length
   ·exact z
   ·unfold lenR at h;rw[qGt (by omega)]at h;cases h
  exact⟨e.1,hAw.mpr hi,hAm.mpr ⟨e.2,hAw.mpr h,rfl⟩⟩
theorem qCw{R:List (List α)}{e:Ps}:e∈ends R↔∃t,atR R e=some t:=by
 rw[qAn];unfold lenR atR;constructor
 ·intro h;exact⟨_,hA8 h⟩
 ·rintro⟨t,h⟩;exact(hAz.mp h).1
theorem qAy(R:List (List α)):(ends R).Nodup:=by
 unfold ends;refine List.pairwise_flatMap.mpr ⟨λi _=>?_,?_⟩
 ·rw[hC3];exact hCt.imp λh z=>h (hDa z).2
 ·refine hCt.imp λ{a b} h=>?_
  intro x hx y hy e;obtain⟨j,_,rfl⟩:=hAm.mp hx;obtain⟨k,_,rfl⟩:=hAm.mp hy;exact h (hDa e).1
noncomputable def nxR(R:List (List α))(e:Ps):Ps:=(e.1,(e.2+1) % lenR R e.1)
theorem qZt{R:List (List α)}{e:Ps}(h:e∈ends R):nxR R e∈ends R:=by
 rw[qAn]at h ⊢;exact Nat.mod_lt _ (by omega)
theorem qG0{R:List (List α)}{e:Ps}(h:e∈ends R):nxR R e=if e.2+1=lenR R e.1 then (e.1,0) else (e.1,e.2+1):=by
 rw[qAn]at h;unfold nxR;split
 ·rename_i z;rw[z,Nat.mod_self]
 ·rename_i z;rw[Nat.mod_eq_of_lt (by omega)]
theorem qZu{R:List (List α)}{e e':Ps}(h:e∈ends R)(h':e'∈ends R)(q:nxR R e=nxR R e'):e=e':=by
 rw[qG0 h,qG0 h']at q;rw[qAn]at h h';obtain⟨i,j⟩:=e;obtain⟨i',j'⟩:=e';dsimp only at *;split at q <;> split at q <;> (rw[Prod.mk.injEq]at q;obtain⟨rfl,q⟩:=q)
 ·congr 1;omega
 ·omega
 ·omega
 ·congr 1;omega
def qEn(R:List (List α))(c:Ps)(t:α):List (List α):=R.set c.1 ((qAx R c.1).take c.2++t :: (qAx R c.1).drop c.2)
noncomputable def rho(c e:Ps):Ps:=if e.1=c.1/\c.2<=e.2 then (e.1,e.2+1) else e
theorem qDx{c e e':Ps}(h:rho c e=rho c e'):e=e':=by
 obtain⟨i,j⟩:=e;obtain⟨i',j'⟩:=e';unfold rho at h;dsimp only at h;split at h <;> split at h <;> (rw[Prod.mk.injEq]at h;obtain⟨h1,h2⟩:=h)
 ·rw[h1];congr 1;omega
 ·omega
 ·omega
 ·rw[h1,h2]
theorem qEu(c e:Ps):rho c e≠c:=by
 obtain⟨i,j⟩:=e;unfold rho;split
 ·rename_i z;intro q;have:=congrArg Prod.snd q;dsimp only at *;omega
 ·rename_i z;intro q;rw[q]at z;exact z ⟨rfl,hAj _⟩
theorem qJc{R:List (List α)}{c:Ps}{t:α}(h:c∈ends R)(i:Nat):qAx (qEn R c t) i=if i=c.1 then (qAx R c.1).take c.2++t :: (qAx R c.1).drop c.2 else qAx R i:=by
 have hc:c.1<R.length:=by
  by_cases z:c.1<R.length
  ·exact z
  ·rw[qAn]at h;unfold lenR at h;rw[qGt (by omega)]at h;cases h
 unfold qEn;by_cases e:i=c.1
 ·rw[hEs e,e];unfold qAx;rw[hAa,hEb hc];rfl
 ·rw[hEr e];unfold qAx;rw[hAa,hDv (Ne.symm e),<-hAa]
theorem qG5{R:List (List α)}{c:Ps}{t:α}(h:c∈ends R)(i:Nat):lenR (qEn R c t) i=if i=c.1 then lenR R i+1 else lenR R i:=by
 unfold lenR;rw[qJc h];rw[qAn]at h;unfold lenR at h;split
 ·rename_i e;rw[e,hAk,hBg,hB2,hC8];omega
 ·rfl
theorem qJd{R:List (List α)}{c:Ps}{t:α}(h:c∈ends R):atR (qEn R c t) c=some t:=by
 unfold atR;rw[qJc h,hEs rfl];rw[qAn]at h;unfold lenR at h;rw[hD8 (by rw[hB2];omega),hB2,Nat.min_eq_left (by omega),Nat.sub_self];rfl
theorem qG4{R:List (List α)}{c:Ps}{t:α}(h:c∈ends R)(e:Ps):atR (qEn R c t) (rho c e)=atR R e:=by
 unfold atR rho;rw[qAn]at h;have h':=h;unfold lenR at h;by_cases z:e.1=c.1/\c.2<=e.2
 ·rw[hEs z,qJc (qAn.mpr h'),hEs z.1];dsimp only;rw[z.1,hD8 (by rw[hB2];omega),hB2,Nat.min_eq_left (by omega),show e.2+1-c.2=(e.2-c.2)+1 by omega,List.getElem?_cons_succ,List.getElem?_drop];congr 1;omega
 ·rw[hEr z,qJc (qAn.mpr h')];by_cases e1:e.1=c.1
  ·rw[hEs e1,e1,hDu (by rw[hB2];omega),List.getElem?_take_of_lt (by omega)]
  ·rw[hEr e1]
theorem qB8{R:List (List α)}{c:Ps}{t:α}(h:c∈ends R){e:Ps}:e∈ends (qEn R c t)↔e=c\/∃e0∈ends R,e=rho c e0:=by
 constructor
 ·intro he;by_cases z:e=c
  ·exact .inl z
  ·refine .inr ?_;rw[qAn,qG5 h]at he;obtain⟨i,j⟩:=e;dsimp only at he;by_cases q:i=c.1/\c.2<j
   ·refine⟨(i,j-1),qAn.mpr ?_,?_⟩
    ·rw[hEs q.1]at he;dsimp only;omega
    ·unfold rho;rw[hEs ⟨q.1,by dsimp only;omega⟩];dsimp only;rw[show j-1+1=j by omega]
   ·refine⟨(i,j),qAn.mpr ?_,?_⟩
    ·dsimp only;split at he
     ·rename_i w;rw[qAn]at h;have:j≠c.2:=λy=>z (by rw[w,y])
      rw[w]at he ⊢;omega
     ·exact he
    ·unfold rho;rw[hEr λw=>q ⟨w.1,?_⟩];have:j≠c.2:=λy=>z (by rw[show i=c.1 from w.1,y])
     have:=w.2;dsimp only at this;omega
 ·rintro(rfl|⟨e0,h0,rfl⟩)
  ·exact qCw.mpr ⟨t,qJd h⟩
  ·obtain⟨u,hu⟩:=qCw.mp h0;exact qCw.mpr ⟨u,by rw[qG4 h];exact hu⟩
theorem qE5{R:List (List α)}{c:Ps}{t:α}(h:c∈ends R):(ends (qEn R c t)).Perm (c :: (ends R).map (rho c)):=by
 refine(hBm (qAy _) (hB7.mpr ⟨λz=>?_,?_⟩)).mpr λe=>?_
 ·obtain⟨e,_,q⟩:=hAm.mp z;exact qEu c e q
 ·rw[List.Nodup,hC3];exact(qAy R).imp λh q=>h (qDx q)
 ·rw[qB8 h,hAg,hAm];exact or_congr Iff.rfl ⟨λ⟨e0,a,b⟩=>⟨e0,a,b.symm⟩,λ⟨e0,a,b⟩=>⟨e0,a,b.symm⟩⟩
theorem qOn{R:List (List α)}{c:Ps}{t:α}(h:c∈ends R){e:Ps}(he:e∈ends R):nxR (qEn R c t) (rho c e)=if nxR R e=c then c else rho c (nxR R e):=by
 have he':rho c e∈ends (qEn R c t):=(qB8 h).mpr (.inr ⟨e,he,rfl⟩);rw[qG0 he',qG0 he,qG5 h];rw[qAn]at h he;obtain⟨i,j⟩:=e;obtain⟨a,b⟩:=c;unfold rho;dsimp only at *;by_cases q:i=a
 ·subst q;by_cases z:b<=j
  ·simp only[z,and_self,hG3,true_and];by_cases w:j+1=lenR R i
   ·rw[hEs (by omega),hEs w];by_cases y:b=0
    ·rw[hEs (by rw[y]),y]
    ·rw[hEr (by intro k;have:=(hDa k).2;omega),hEr (by dsimp only;omega)]
   ·rw[hEr (by omega),hEr w,hEr (by intro k;have:=(hDa k).2;omega),hEs (by dsimp only;omega)]
  ·have w:¬j+1=lenR R i:=by omega
   have w2:¬j+1=lenR R i+1:=by omega
   simp only[z,and_false,hFg,hG3,w,w2];by_cases y:j+1=b
   ·rw[hEs (by rw[y]),y]
   ·rw[hEr (by intro k;have:=(hDa k).2;omega),hEr (by omega)]
 ·simp only[q,false_and,hFg];by_cases w:j+1=lenR R i
  ·simp only[w,hG3];rw[hEr (by intro k;exact q (hDa k).1),hEr (λk=>q k.1)]
  ·simp only[w,hFg];rw[hEr (by intro k;exact q (hDa k).1),hEr (λk=>q k.1)]
theorem qFu{R:List (List α)}{c:Ps}{t:α}(h:c∈ends R):nxR (qEn R c t) c=rho c c:=by
 have hc:c∈ends (qEn R c t):=(qB8 h).mpr (.inl rfl);rw[qG0 hc,qG5 h,hEs rfl];rw[qAn]at h;rw[hEr (by omega)];unfold rho;rw[hEs ⟨rfl,hAj _⟩]
end
section
variable{α:Type}[DecidableEq α]
def Tw(R:List (List α)):Prop:=∀e∈ends R,∃e'∈ends R,e'≠e/\atR R e'=atR R e/\∀u∈ends R,atR R u=atR R e->u=e\/u=e'
noncomputable def farR(R:List (List α))(e:Ps):Ps:=((ends R).find? λu=>decide (u≠e/\atR R u=atR R e)).getD e
theorem qBv{R:List (List α)}(tw:Tw R){e e':Ps}(he:e∈ends R)(he':e'∈ends R)(ne:e'≠e)(q:atR R e'=atR R e):farR R e=e':=by
 obtain⟨u,hu,hn,hq,hall⟩:=tw e he;have e1:e'=u:=(hall e' he' q).resolve_left ne;subst e1;unfold farR;cases h:(ends R).find? λu=>decide (u≠e/\atR R u=atR R e) with
 |none =>
  have:=List.find?_eq_none.mp h e' he';exact absurd (hEt ⟨ne,q⟩) this
 |some v =>
  have h1:=List.find?_some h;have h2:=List.mem_of_find?_eq_some h;have h3:=hEz h1;exact(hall v h2 h3.2).resolve_left h3.1
theorem qAw{R:List (List α)}(tw:Tw R){e:Ps}(he:e∈ends R):farR R e∈ends R/\farR R e≠e/\atR R (farR R e)=atR R e/\∀u∈ends R,atR R u=atR R e->u=e\/u=farR R e:=by
 obtain⟨u,hu,hn,hq,hall⟩:=tw e he;rw[qBv tw he hu hn hq];exact⟨hu,hn,hq,hall⟩
theorem qEk{R:List (List α)}(tw:Tw R){e:Ps}(he:e∈ends R):farR R (farR R e)=e:=by
 obtain⟨h1,h2,h3,_⟩:=qAw tw he;exact qBv tw h1 he (Ne.symm h2) h3.symm
noncomputable def onR(R:List (List α))(e:Ps):Ps:=nxR R (farR R e)
theorem qOc{R:List (List α)}(tw:Tw R){e:Ps}(he:e∈ends R):onR R e∈ends R:=qZt (qAw tw he).1
theorem qRe{R:List (List α)}(tw:Tw R){e e':Ps}(he:e∈ends R)(he':e'∈ends R)(q:onR R e=onR R e'):e=e':=by
 have h:=qZu (qAw tw he).1 (qAw tw he').1 q;rw[<-qEk tw he,<-qEk tw he',h]
structure IsF(R:List (List α))(Fs:List (List Ps)):Prop where
 all:Fs.flatten.Perm (ends R)
 cyc:∀F∈Fs,Cyc (onR R) F
theorem IsF.nd{R:List (List α)}{Fs:List (List Ps)}(h:IsF R Fs):Fs.flatten.Nodup:=(h.all.nodup_iff).mpr (qAy R)
theorem qR1{R:List (List α)}{Fs Gs:List (List Ps)}(hF:IsF R Fs)(hG:IsF R Gs){p:Ps->Bool}(hp:∀e∈ends R,p (onR R e)=p e):(Fs.filter λF=>F.any p).length=(Gs.filter λG=>G.any p).length :=
 qK7 (hF.all.trans hG.all.symm) hF.nd hF.cyc hG.cyc λe he=>hp e (hF.all.mem_iff.mp he)
theorem qFl{R:List (List α)}{r:List α}(i:Nat):qAx (R++[r]) i=if i<R.length then qAx R i else if i=R.length then r else []:=by
 unfold qAx;rw[hAa,hAa];by_cases h:i<R.length
 ·rw[hEs h,hDu h]
 ·rw[hEr h,hD8 (by omega)];by_cases e:i=R.length
  ·rw[hEs e,e,Nat.sub_self];rfl
  ·rw[hEr e,hC2 (by rw[hBf];omega)];rfl
theorem qAs{R:List (List α)}{e:Ps}(h:e∈ends R):e.1<R.length:=by
 by_cases z:e.1<R.length
 ·exact z
 ·rw[qAn]at h;unfold lenR at h;rw[qGt (by omega)]at h;cases h
theorem qD2{R:List (List α)}{t:α}{e:Ps}:e∈ends (R++[[t]])↔e∈ends R\/e=(R.length,0):=by
 rw[qAn,qAn];unfold lenR;rw[qFl];obtain⟨i,j⟩:=e;dsimp only;by_cases h:i<R.length
 ·rw[hEs h];constructor
  ·exact .inl
  ·rintro(z|z)
   ·exact z
   ·have:=(hDa z).1;omega
 ·rw[hEr h,qGt (R:=R) (by omega)];by_cases e:i=R.length
  ·rw[hEs e];constructor
   ·intro z;have:j=0:=by simpa using z
    exact .inr (by rw[e,this])
   ·rintro(z|z)
    ·cases z
    ·rw[(hDa z).2];simp
  ·rw[hEr e];constructor
   ·intro z;cases z
   ·rintro(z|z)
    ·cases z
    ·exact absurd (hDa z).1 e
theorem qLt{R:List (List α)}{t:α}{e:Ps}(h:e∈ends R):atR (R++[[t]]) e=atR R e:=by
 unfold atR;rw[qFl,hEs (qAs h)]
theorem qNb{R:List (List α)}{t:α}:atR (R++[[t]]) (R.length,0)=some t:=by
 unfold atR;rw[qFl,hEr (hBu _),hEs rfl];rfl
theorem qLs{R:List (List α)}{t:α}{e:Ps}(h:e∈ends R):nxR (R++[[t]]) e=nxR R e:=by
 unfold nxR lenR;rw[qFl,hEs (qAs h)]
theorem qF0{R:List (List α)}{t:α}:nxR (R++[[t]]) (R.length,0)=(R.length,0):=by
 unfold nxR lenR;rw[qFl,hEr (hBu _),hEs rfl];simp
theorem qFe{R:List (List α)}{t:α}:(ends (R++[[t]])).Perm ((R.length,0) :: ends R):=by
 refine(hBm (qAy _) (hB7.mpr ⟨λz=>?_,qAy R⟩)).mpr λe=>?_
 ·exact hBu _ (qAs z)
 ·rw[qD2,hAg];exact or_comm
def qEm(R:List (List α))(t:α):Prop:=∀e∈ends R,atR R e≠some t
theorem qA9(R:List (List α))(c:Ps)(t:α):(qEn R c t).length=R.length:=by unfold qEn;rw[hCz]
def qEg(R:List (List α))(c:Ps)(t:α):List (List α):=qEn R c t++[[t]]
section
variable{R:List (List α)}{c:Ps}{t:α}(hc:c∈ends R)(fr:qEm R t)
include hc
theorem qA4{e:Ps}:e∈ends (qEg R c t)↔e=c\/e=(R.length,0)\/∃e0∈ends R,e=rho c e0:=by
 unfold qEg;rw[qD2,qB8 hc,qA9];constructor
 ·rintro((h|h)|h)
  ·exact .inl h
  ·exact .inr (.inr h)
  ·exact .inr (.inl h)
 ·rintro(h|h|h)
  ·exact .inl (.inl h)
  ·exact .inr h
  ·exact .inl (.inr h)
theorem qHp:atR (qEg R c t) c=some t:=by
 unfold qEg;rw[qLt ((qB8 hc).mpr (.inl rfl)),qJd hc]
theorem qIx:atR (qEg R c t) (R.length,0)=some t:=by
 unfold qEg;have:=qNb (R:=qEn R c t) (t:=t);rw[qA9]at this;exact this
theorem qCg{e:Ps}(he:e∈ends R):atR (qEg R c t) (rho c e)=atR R e:=by
 unfold qEg;rw[qLt ((qB8 hc).mpr (.inr ⟨e,he,rfl⟩)),qG4 hc]
theorem qYi:c≠(R.length,0):=λz=>by
 have:=qAs hc;rw[z]at this;exact hBu _ this
include fr
theorem qGy(tw:Tw R):Tw (qEg R c t):=by
 intro e he;rcases(qA4 hc).mp he with rfl|rfl|⟨e0,h0,rfl⟩
 ·refine⟨(R.length,0),(qA4 hc).mpr (.inr (.inl rfl)),(qYi hc).symm,by rw[qIx hc,qHp hc],λu hu q=>?_⟩;rcases(qA4 hc).mp hu with rfl|rfl|⟨u0,hu0,rfl⟩
  ·exact .inl rfl
  ·exact .inr rfl
  ·rw[qCg hc hu0,qHp hc]at q;exact absurd q (fr u0 hu0)
 ·refine⟨c,(qA4 hc).mpr (.inl rfl),qYi hc,by rw[qIx hc,qHp hc],λu hu q=>?_⟩;rcases(qA4 hc).mp hu with rfl|rfl|⟨u0,hu0,rfl⟩
  ·exact .inr rfl
  ·exact .inl rfl
  ·rw[qCg hc hu0,qIx hc]at q;exact absurd q (fr u0 hu0)
 ·obtain⟨e1,h1,n1,q1,a1⟩:=tw e0 h0;refine⟨rho c e1,(qA4 hc).mpr (.inr (.inr ⟨e1,h1,rfl⟩)),λz=>n1 (qDx z),by rw[qCg hc h1,qCg hc h0,q1],λu hu q=>?_⟩;rcases(qA4 hc).mp hu with rfl|rfl|⟨u0,hu0,rfl⟩
  ·rw[qCg hc h0,qHp hc]at q;exact absurd q.symm (fr e0 h0)
  ·rw[qCg hc h0,qIx hc]at q;exact absurd q.symm (fr e0 h0)
  ·rw[qCg hc h0,qCg hc hu0]at q;rcases a1 u0 hu0 q with rfl|rfl
   ·exact .inl rfl
   ·exact .inr rfl
theorem qVm(tw:Tw R){e:Ps}(he:e∈ends R):onR (qEg R c t) (rho c e)=if onR R e=c then c else rho c (onR R e):=by
 have tw':=qGy hc fr tw;obtain⟨f1,f2,f3,_⟩:=qAw tw he;have hf:farR (qEg R c t) (rho c e)=rho c (farR R e):=qBv tw' ((qA4 hc).mpr (.inr (.inr ⟨e,he,rfl⟩))) ((qA4 hc).mpr (.inr (.inr ⟨_,f1,rfl⟩))) (λz=>f2 (qDx z)) (by rw[qCg hc f1,qCg hc he,f3]);unfold onR;rw[hf];unfold qEg;rw[qLs ((qB8 hc).mpr (.inr ⟨_,f1,rfl⟩)),qOn hc f1]
theorem qTx(tw:Tw R):onR (qEg R c t) c=(R.length,0):=by
 have tw':=qGy hc fr tw;have hf:farR (qEg R c t) c=(R.length,0):=qBv tw' ((qA4 hc).mpr (.inl rfl)) ((qA4 hc).mpr (.inr (.inl rfl))) (qYi hc).symm (by rw[qIx hc,qHp hc]);unfold onR;rw[hf];unfold qEg;have:=qF0 (R:=qEn R c t) (t:=t);rw[qA9]at this;exact this
theorem qTw(tw:Tw R):onR (qEg R c t) (R.length,0)=rho c c:=by
 have tw':=qGy hc fr tw;have hf:farR (qEg R c t) (R.length,0)=c:=qBv tw' ((qA4 hc).mpr (.inr (.inl rfl))) ((qA4 hc).mpr (.inl rfl)) (qYi hc) (by rw[qIx hc,qHp hc]);unfold onR;rw[hf];unfold qEg;rw[qLs ((qB8 hc).mpr (.inl rfl)),qFu hc]
end
end
section
variable{α:Type}[DecidableEq α]
theorem Lk.ins'{f g:α->α}{ρ:α->α}{y x:α}:∀ {l:List α} {a:α},(∀e∈a :: l,g (ρ e)=if f e=y then x else ρ (f e))->Lk f a l y->y∉l->Lk g (ρ a) (l.map ρ) x
 |[],a,hg,h,_=>by
  show g (ρ a)=x;rw[hg a hAb,hEs (show f a=y from h)]
 |c :: l,a,hg,⟨h1,h2⟩,hy=>by
  refine⟨?_,Lk.ins' (λe he=>hg e (hAe _ he)) h2 λz=>hy (hAe _ z)⟩;rw[hg a hAb,hEr (by rw[h1];exact λz=>hy (by rw[z];exact hAb)),h1]
theorem Cyc.same{f g:α->α}{ρ:α->α}{F:List α}(h:Cyc f F)(hg:∀e∈F,g (ρ e)=ρ (f e)):Cyc g (F.map ρ):=by
 cases F with
 |nil=>cases h
 |cons x l=>exact Lk.same hg h
theorem any_map{ρ:α->α}{p p':α->Bool}{l:List α}(h:∀e∈l,p' (ρ e)=p e):(l.map ρ).any p'=l.any p:=by
 rw[List.any_map];rw[hBq,hC5,hC5];exact⟨λ⟨e,he,z⟩=>⟨e,he,by rw[<-h e he];exact z⟩,λ⟨e,he,z⟩=>⟨e,he,by rw[<-h e he]at z;exact z⟩⟩
theorem qJu{p:α->Bool}{l l':List α}(h:l.Perm l'):l.any p=l'.any p:=by
 rw[hBq,hC5,hC5];exact⟨λ⟨e,he,z⟩=>⟨e,h.mem_iff.mp he,z⟩,λ⟨e,he,z⟩=>⟨e,h.mem_iff.mpr he,z⟩⟩
noncomputable def qDo{β:Type}(p:β->Bool)(Fs:List (List β)):Nat:=(Fs.filter λF=>F.any p).length
theorem qBu{β:Type}{p:β->Bool}{F:List β}{Fs:List (List β)}:qDo p (F :: Fs)=(if F.any p then 1 else 0)+qDo p Fs:=by
 unfold qDo;rw[hCd];split
 ·rw[hBg];omega
 ·omega
theorem qHd{β:Type}{p:β->Bool}{Fs Gs:List (List β)}(h:Fs.Perm Gs):qDo p Fs=qDo p Gs:=(h.filter _).length_eq
theorem qFa{ρ:α->α}{p p':α->Bool}:∀ {Fs:List (List α)},(∀F∈Fs,∀e∈F,p' (ρ e)=p e)->qDo p' (Fs.map (List.map ρ))=qDo p Fs
 |[],_=>rfl
 |F :: Fs,h=>by
  rw[hAn,qBu,qBu,any_map (h F hAb),qFa λG hG=>h G (hAe _ hG)]
theorem qMv{R:List (List α)}{Fs:List (List Ps)}(h:IsF R Fs){c:Ps}(hc:c∈ends R):∃F∈Fs,∃l,Cyc (onR R) (c :: l)/\F.Perm (c :: l)/\Fs.Perm (F :: Fs.erase F)/\(∀G∈Fs.erase F,∀e∈G,e∉F)/\(c :: l).Nodup:=by
 have hx:c∈Fs.flatten:=h.all.mem_iff.mpr hc;obtain⟨F,hF,hcF⟩:=hCe.mp hx;obtain⟨l,hl,pl⟩:=(h.cyc F hF).turn hcF;have pG:Fs.Perm (F :: Fs.erase F):=List.perm_cons_erase hF;have nd:(F++(Fs.erase F).flatten).Nodup:=by
  have:=(List.Perm.flatten pG).nodup_iff.mp h.nd;rw[hBt]at this;exact this
 refine⟨F,hF,l,hl,pl,pG,λG hG e he z=>?_,pl.nodup_iff.mp (hB6.mp nd).1⟩;exact(hB6.mp nd).2.2 e z e (hCe.mpr ⟨G,hG,he⟩) rfl
theorem qB7{R:List (List α)}{Fs:List (List Ps)}(h:IsF R Fs){F:List Ps}(hF:F∈Fs){e:Ps}(he:e∈F):e∈ends R:=h.all.mem_iff.mp (hCe.mpr ⟨F,hF,he⟩)
theorem qQ9{R:List (List α)}{c:Ps}{t:α}(hc:c∈ends R)(fr:qEm R t)(tw:Tw R){Fs:List (List Ps)}(h:IsF R Fs) :
  ∃Fs',IsF (qEg R c t) Fs'/\∀p p':Ps->Bool,(∀e∈ends R,p' (rho c e)=p e)->p' c=p c->p' (R.length,0)=p c->qDo p' Fs'=qDo p Fs:=by
 obtain⟨F,hF,l,hl,pl,pG,dis,nd⟩:=qMv h hc;have mF:∀e∈c :: l,e∈ends R:=λe he=>qB7 h hF (pl.mem_iff.mpr he)
 refine⟨(rho c c :: (l.map (rho c)++[c,(R.length,0)])) :: (Fs.erase F).map (List.map (rho c)),⟨?_,?_⟩,?_⟩
 ·refine List.Perm.trans ?_ (qFe (R:=qEn R c t) (t:=t)).symm;refine List.Perm.trans ?_ (List.Perm.cons _ (qE5 hc).symm);rw[qA9,hBt,<-List.map_flatten];have q:(ends R).Perm ((c :: l)++(Fs.erase F).flatten):=by
   refine h.all.symm.trans ((List.Perm.flatten pG).trans ?_);rw[hBt];exact pl.append_right _
  have q2:=q.map (rho c);rw[hAf,hAn]at q2;refine List.Perm.trans ?_ (List.Perm.cons _ (List.Perm.cons _ q2.symm));have e:rho c c :: (l.map (rho c)++[c,(R.length,0)])++(Fs.erase F).flatten.map (rho c)=(rho c c :: l.map (rho c))++([c,(R.length,0)]++(Fs.erase F).flatten.map (rho c)):=by simp
  rw[e];refine List.Perm.trans (List.perm_append_comm_assoc _ _ _) ?_;exact List.Perm.swap _ _ _
 ·intro G hG;rcases hAg.mp hG with rfl|hG
  ·refine Lk.app.mpr ⟨Lk.ins' (λe he=>qVm hc fr tw (mF e he)) hl (hB7.mp nd).1,qTx hc fr tw,qTw hc fr tw⟩
  ·obtain⟨G,hG0,rfl⟩:=hAm.mp hG;have hG':=hDq hG0;refine(h.cyc G hG').same λe he=>?_
   rw[qVm hc fr tw (qB7 h hG' he),hEr];intro z;have:=(h.cyc G hG').closed e he;rw[z]at this;exact dis G hG0 c this (pl.mem_iff.mpr hAb)
 ·intro p p' h1 h2 h3;rw[qBu,qHd pG,qBu,qFa (p:=p) λG hG e he=>h1 e (qB7 h (hDq hG) he),qJu pl];congr 2;rw[hCj,List.any_append,any_map λe he=>h1 e (mF e (hAe _ he)),h1 c hc,hCj,h2,hCj,h3,hCj];cases p c <;> cases l.any p <;> rfl
end
section
variable{α:Type}[DecidableEq α]
noncomputable def chR(R:List (List α))(a b:Ps)(t:α):List (List α):=qEn (qEn R a t) b t
noncomputable def r2(a b e:Ps):Ps:=rho b (rho a e)
theorem qQq{a b e e':Ps}(h:r2 a b e=r2 a b e'):e=e':=qDx (qDx h)
def LeP(b a:Ps):Prop:=b.1<a.1\/(b.1=a.1/\b.2<=a.2)
theorem qGv{a b:Ps}(h:LeP b a)(n:b≠a):rho a b=b:=by
 unfold rho;rw[hEr];rintro⟨h1,h2⟩;rcases h with h|⟨_,h⟩
 ·omega
 ·exact n (Prod.ext h1 (by omega))
section
variable{R:List (List α)}{a b:Ps}{t:α}(ha:a∈ends R)(hb:b∈ends R)(le:LeP b a)(fr:qEm R t)
include ha hb le
theorem qS8:b∈ends (qEn R a t):=by
 refine(qB8 ha).mpr ?_;by_cases n:b=a
 ·exact .inl n
 ·exact .inr ⟨b,hb,(qGv le n).symm⟩
theorem qB0{e:Ps}:e∈ends (chR R a b t)↔e=b\/e=rho b a\/∃e0∈ends R,e=r2 a b e0:=by
 unfold chR;rw[qB8 (qS8 ha hb le)];constructor
 ·rintro(h|⟨e1,h1,h⟩)
  ·exact .inl h
  ·rcases(qB8 ha).mp h1 with rfl|⟨e0,h0,rfl⟩
   ·exact .inr (.inl h)
   ·exact .inr (.inr ⟨e0,h0,h⟩)
 ·rintro(h|h|⟨e0,h0,h⟩)
  ·exact .inl h
  ·exact .inr ⟨a,(qB8 ha).mpr (.inl rfl),h⟩
  ·exact .inr ⟨_,(qB8 ha).mpr (.inr ⟨e0,h0,rfl⟩),h⟩
theorem qJp:(ends (chR R a b t)).Perm (b :: rho b a :: (ends R).map (r2 a b)):=by
 unfold chR;refine(qE5 (qS8 ha hb le)).trans (List.Perm.cons _ ?_);refine((qE5 ha).map (rho b)).trans ?_;rw[hAn,hBi];exact hDc _
theorem qEc:atR (chR R a b t) b=some t:=qJd (qS8 ha hb le)
theorem qFb:atR (chR R a b t) (rho b a)=some t:=by
 unfold chR;rw[qG4 (qS8 ha hb le),qJd ha]
theorem qD0(e:Ps):atR (chR R a b t) (r2 a b e)=atR R e:=by
 unfold chR r2;rw[qG4 (qS8 ha hb le),qG4 ha]
theorem zBw{e:Ps}(he:e∈ends R):nxR (chR R a b t) (r2 a b e)=if nxR R e=b then b else if nxR R e=a then rho b a else r2 a b (nxR R e):=by
 unfold chR r2;rw[qOn (qS8 ha hb le) ((qB8 ha).mpr (.inr ⟨e,he,rfl⟩)),qOn ha he];by_cases n:b=a
 ·subst n;by_cases z:nxR R e=b
  ·rw[hEs z,hEs rfl,hEs z]
  ·rw[hEr z,hEr (qEu _ _),hEr z,hEr z]
 ·by_cases z:nxR R e=a
  ·rw[hEs z,hEr (Ne.symm n),hEr (by rw[z];exact Ne.symm n)];rw[hEs z]
  ·rw[hEr z];by_cases w:nxR R e=b
   ·rw[hEs w,w,qGv le n,hEs rfl]
   ·rw[hEr w,hEr z,hEr];intro q;exact w (qDx (q.trans (qGv le n).symm))
theorem zAo:nxR (chR R a b t) (rho b a)=r2 a b a:=by
 unfold chR r2;rw[qOn (qS8 ha hb le) ((qB8 ha).mpr (.inl rfl)),qFu ha,hEr];intro q;by_cases n:b=a
 ·subst n;exact qEu _ _ q
 ·exact n (qDx (q.trans (qGv le n).symm)).symm
theorem zAn:nxR (chR R a b t) b=rho b b:=qFu (qS8 ha hb le)
include fr
theorem qM7(tw:Tw R):Tw (chR R a b t):=by
 intro e he;have al:∀u∈ends (chR R a b t),atR (chR R a b t) u=some t->u=b\/u=rho b a:=λu hu q=>by
  rcases(qB0 ha hb le).mp hu with rfl|rfl|⟨u0,hu0,rfl⟩
  ·exact .inl rfl
  ·exact .inr rfl
  ·rw[qD0 ha hb le]at q;exact absurd q (fr u0 hu0)
 rcases(qB0 ha hb le).mp he with rfl|rfl|⟨e0,h0,rfl⟩
 ·refine⟨_,(qB0 ha hb le).mpr (.inr (.inl rfl)),qEu _ _,by rw[qFb ha hb le,qEc ha hb le],λu hu q=>?_⟩;rw[qEc ha hb le]at q;exact al u hu q
 ·refine⟨b,(qB0 ha hb le).mpr (.inl rfl),(qEu _ _).symm,by rw[qFb ha hb le,qEc ha hb le],λu hu q=>?_⟩;rw[qFb ha hb le]at q;exact(al u hu q).symm
 ·obtain⟨e1,h1,n1,q1,a1⟩:=tw e0 h0;refine⟨r2 a b e1,(qB0 ha hb le).mpr (.inr (.inr ⟨e1,h1,rfl⟩)),λz=>n1 (qQq z),by rw[qD0 ha hb le,qD0 ha hb le,q1],λu hu q=>?_⟩;rw[qD0 ha hb le]at q;rcases(qB0 ha hb le).mp hu with rfl|rfl|⟨u0,hu0,rfl⟩
  ·rw[qEc ha hb le]at q;exact absurd q.symm (fr e0 h0)
  ·rw[qFb ha hb le]at q;exact absurd q.symm (fr e0 h0)
  ·rw[qD0 ha hb le]at q;rcases a1 u0 hu0 q with rfl|rfl
   ·exact .inl rfl
   ·exact .inr rfl
theorem qUw(tw:Tw R){e:Ps}(he:e∈ends R):onR (chR R a b t) (r2 a b e)=if onR R e=b then b else if onR R e=a then rho b a else r2 a b (onR R e):=by
 have tw':=qM7 ha hb le fr tw;obtain⟨f1,f2,f3,_⟩:=qAw tw he;have hf:farR (chR R a b t) (r2 a b e)=r2 a b (farR R e):=qBv tw' ((qB0 ha hb le).mpr (.inr (.inr ⟨e,he,rfl⟩))) ((qB0 ha hb le).mpr (.inr (.inr ⟨_,f1,rfl⟩))) (λz=>f2 (qQq z)) (by rw[qD0 ha hb le,qD0 ha hb le,f3]);unfold onR;rw[hf,zBw ha hb le f1]
theorem qSs(tw:Tw R):onR (chR R a b t) (rho b a)=rho b b:=by
 have tw':=qM7 ha hb le fr tw;have hf:farR (chR R a b t) (rho b a)=b:=qBv tw' ((qB0 ha hb le).mpr (.inr (.inl rfl))) ((qB0 ha hb le).mpr (.inl rfl)) (qEu _ _).symm (by rw[qFb ha hb le,qEc ha hb le]);unfold onR;rw[hf,zAn ha hb le]
theorem qSr(tw:Tw R):onR (chR R a b t) b=r2 a b a:=by
 have tw':=qM7 ha hb le fr tw;have hf:farR (chR R a b t) b=rho b a:=qBv tw' ((qB0 ha hb le).mpr (.inl rfl)) ((qB0 ha hb le).mpr (.inr (.inl rfl))) (qEu _ _) (by rw[qFb ha hb le,qEc ha hb le]);unfold onR;rw[hf,zAo ha hb le]
end
theorem qLu{p:Ps->Bool}{f:Ps->Ps}{F:List Ps}(h:Cyc f F)(hp:∀e∈F,p (f e)=p e){x:Ps}(hx:x∈F):∀e∈F,p e=p x :=
 h.all (S:=λe=>p e=p x) (λe he q=>by rw[hp e he,q]) hx rfl
theorem qIg{p:Ps->Bool}{l:List Ps}{v:Bool}(h:∀e∈l,p e=v)(ne:l≠[]):l.any p=v:=by
 cases l with
 |nil=>exact absurd rfl ne
 |cons x l =>
  rw[hCj,h x hAb];cases v
  ·rw[Bool.false_or,Bool.eq_false_iff];intro z;obtain⟨e,he,q⟩:=hC5.mp z;rw[h e (hAe _ he)]at q;cases q
  ·rfl
theorem Lk.hit{f:Ps->Ps}{z y:Ps}:∀ {l:List Ps} {a:Ps},Lk f a l y->z∉l->z≠y->∀e∈a :: l,f e≠z
 |[],a,h,_,ne,e,he=>by
  rw[hAd.mp he,show f a=y from h];exact Ne.symm ne
 |c :: l,a,⟨h1,h2⟩,nz,ne,e,he=>by
  rcases hAg.mp he with rfl|he
  ·rw[h1];exact λq=>nz (by rw[q];exact hAb)
  ·exact Lk.hit h2 (λq=>nz (hAe _ q)) ne e he
theorem qUz{R:List (List α)}{a b:Ps}{t:α}(ha:a∈ends R)(hb:b∈ends R)(le:LeP b a)(fr:qEm R t)(tw:Tw R){Fs:List (List Ps)}(h:IsF R Fs){F0:List Ps}(hF0:F0∈Fs)(haF:a∈F0)(hbF:b∈F0) :
  ∃Fs',IsF (chR R a b t) Fs'/\∀p p':Ps->Bool,(∀e∈ends R,p (onR R e)=p e)->(∀e∈ends R,p' (r2 a b e)=p e)->p' b=p b->p' (rho b a)=p a->qDo p' Fs'=qDo p Fs+if p a then 1 else 0:=by
 obtain⟨F,hF,l,hl,pl,pG,dis,nd⟩:=qMv h ha;have mF:∀e∈a :: l,e∈ends R:=λe he=>qB7 h hF (pl.mem_iff.mpr he)
 have aF:a∈F:=pl.mem_iff.mpr hAb;have bF:b∈F:=by
  have c0:=h.cyc F0 hF0;exact c0.all (S:=λe=>e∈F) (λe _=>(h.cyc F hF).closed e) haF aF b hbF
 have old:∀G∈Fs.erase F,Cyc (onR (chR R a b t)) (G.map (r2 a b)):=λG hG=>by
  have hG':=hDq hG;refine(h.cyc G hG').same λe he=>?_
  have hc:=(h.cyc G hG').closed e he;rw[qUw ha hb le fr tw (qB7 h hG' he),hEr λz=>dis G hG b (by rw[<-z];exact hc) bF,hEr λz=>dis G hG a (by rw[<-z];exact hc) aF]
 have q:(ends R).Perm ((a :: l)++(Fs.erase F).flatten):=by
  refine h.all.symm.trans ((List.Perm.flatten pG).trans ?_);rw[hBt];exact pl.append_right _
 have q2:=q.map (r2 a b);have hcnt:∀p p':Ps->Bool,(∀e∈ends R,p' (r2 a b e)=p e)->qDo p' ((Fs.erase F).map (List.map (r2 a b)))=qDo p (Fs.erase F):=λp p' h1=>qFa λG hG e he=>h1 e (qB7 h (hDq hG) he)
 by_cases n:b=a
 ·subst n;refine⟨[rho b b] :: (r2 b b b :: (l.map (r2 b b)++[b])) :: (Fs.erase F).map (List.map (r2 b b)),⟨?_,?_⟩,?_⟩
  ·refine List.Perm.trans ?_ (qJp ha hb le).symm;rw[hBt,hBt,<-List.map_flatten];rw[hAf,hAn]at q2;refine List.Perm.trans ?_ (List.Perm.cons _ (List.Perm.cons _ q2.symm));refine hEn.mpr λx=>?_
   simp only[hDy,hDz,hBx,hDd,hCk];omega
  ·intro G hG;rcases hAg.mp hG with rfl|hG
   ·exact qSs ha hb le fr tw
   ·rcases hAg.mp hG with rfl|hG
    ·refine Lk.app.mpr ⟨Lk.ins' (λe he=>?_) hl (hB7.mp nd).1,qSr ha hb le fr tw⟩;rw[qUw ha hb le fr tw (mF e he)];by_cases z:onR R e=b
     ·rw[hEs z,hEs z]
     ·rw[hEr z,hEr z,hEr z]
    ·obtain⟨G,hG0,rfl⟩:=hAm.mp hG;exact old G hG0
  ·intro p p' h0 h1 h2 h3;have cst:=qLu hl (λe he=>h0 e (mF e he)) hAb;have e1:[rho b b].any p'=p b:=qIg (λe he=>by rw[hAd.mp he,h3]) (by simp);have e2:(r2 b b b :: (l.map (r2 b b)++[b])).any p'=p b:=qIg (λe he=>by
    rcases hAg.mp he with rfl|he
    ·rw[h1 b hb]
    ·rcases hAp.mp he with he|he
     ·obtain⟨e0,he0,rfl⟩:=hAm.mp he;rw[h1 e0 (mF e0 (hAe _ he0))];exact cst e0 (hAe _ he0)
     ·rw[hAd.mp he,h2]) (by simp)
   have e3:(b :: l).any p=p b:=qIg cst (by simp);rw[qBu,qBu,hcnt p p' h1,qHd pG,qBu,qJu pl,e1,e2,e3];omega
 ·have bl:b∈l:=(hAg.mp (pl.mem_iff.mp bF)).resolve_left n;obtain⟨l1,l2,rfl⟩:=hEf bl;obtain⟨k1,k2⟩:=Lk.app.mp (show Lk (onR R) a (l1++b :: l2) a from hl);have nd':=nd;rw[hB7,hB6,hB7]at nd';obtain⟨na,nl1,⟨nb2,nl2⟩,dj⟩:=nd';have m1:∀e∈a :: l1,e∈a :: (l1++b :: l2):=λe he=>by
   rcases hAg.mp he with rfl|he
   ·simp
   ·simp[he]
  have m2:∀e∈b :: l2,e∈a :: (l1++b :: l2):=λe he=>by
   rcases hAg.mp he with rfl|he
   ·simp
   ·simp[he]
  refine⟨(r2 a b a :: (l1.map (r2 a b)++[b])) :: (rho b b :: (l2.map (r2 a b)++[rho b a])) :: (Fs.erase F).map (List.map (r2 a b)),⟨?_,?_⟩,?_⟩
  ·refine List.Perm.trans ?_ (qJp ha hb le).symm;rw[hBt,hBt,<-List.map_flatten];refine List.Perm.trans ?_ (List.Perm.cons _ (List.Perm.cons _ q2.symm));have e:r2 a b b=rho b b:=by unfold r2;rw[qGv le n]
   refine hEn.mpr λx=>?_
   simp only[hDy,hDz,hBx,hDd,hCk,hAf,hAn,e,List.count_nil];omega
  ·intro G hG;rcases hAg.mp hG with rfl|hG
   ·refine Lk.app.mpr ⟨Lk.ins' (λe he=>?_) k1 (λz=>dj b z b hAb rfl),qSr ha hb le fr tw⟩;rw[qUw ha hb le fr tw (mF e (m1 e he))];by_cases z:onR R e=b
    ·rw[hEs z,hEs z]
    ·rw[hEr z,hEr z,hEr];exact Lk.hit k1 (λz=>na (hAx _ z)) (Ne.symm n) e he
   ·rcases hAg.mp hG with rfl|hG
    ·have w:Lk (onR (chR R a b t)) (r2 a b b) (l2.map (r2 a b)) (rho b a):=Lk.ins' (λe he=>by
      rw[qUw ha hb le fr tw (mF e (m2 e he)),hEr];exact Lk.hit k2 nb2 n e he) k2 (λz=>na (hAq _ (hAe _ z)))
     rw[show r2 a b b=rho b b by unfold r2;rw[qGv le n]]at w;exact Lk.app.mpr ⟨w,qSs ha hb le fr tw⟩
    ·obtain⟨G,hG0,rfl⟩:=hAm.mp hG;exact old G hG0
  ·intro p p' h0 h1 h2 h3;have cst:=qLu hl (λe he=>h0 e (mF e he)) hAb;have pb:p b=p a:=cst b (by simp);have e1:(r2 a b a :: (l1.map (r2 a b)++[b])).any p'=p a:=qIg (λe he=>by
    rcases hAg.mp he with rfl|he
    ·rw[h1 a ha]
    ·rcases hAp.mp he with he|he
     ·obtain⟨e0,he0,rfl⟩:=hAm.mp he;have:=m1 e0 (hAe _ he0);rw[h1 e0 (mF e0 this)];exact cst e0 this
     ·rw[hAd.mp he,h2,pb]) (by simp)
   have e:r2 a b b=rho b b:=by unfold r2;rw[qGv le n]
   have e2:(rho b b :: (l2.map (r2 a b)++[rho b a])).any p'=p a:=qIg (λe he=>by
    rcases hAg.mp he with rfl|he
    ·rw[<-e,h1 b hb,pb]
    ·rcases hAp.mp he with he|he
     ·obtain⟨e0,he0,rfl⟩:=hAm.mp he;have:=m2 e0 (hAe _ he0);rw[h1 e0 (mF e0 this)];exact cst e0 this
     ·rw[hAd.mp he,h3]) (by simp)
   have e3:(a :: (l1++b :: l2)).any p=p a:=qIg cst (by simp);rw[qBu,qBu,hcnt p p' h1,qHd pG,qBu,qJu pl,e1,e2,e3];omega
end
section
variable{α:Type}[DecidableEq α]
theorem qS6(c e:Ps):(rho c e).1=e.1:=by unfold rho;split <;> rfl
theorem r21(a b e:Ps):(r2 a b e).1=e.1:=by unfold r2;rw[qS6,qS6]
section
variable{R:List (List α)}{c:Ps}{t:α}(hc:c∈ends R)(fr:qEm R t)
include hc fr
theorem qQ8(tw:Tw R){e:Ps}(he:e∈ends R):farR (qEg R c t) (rho c e)=rho c (farR R e):=by
 obtain⟨f1,f2,f3,_⟩:=qAw tw he;exact qBv (qGy hc fr tw) ((qA4 hc).mpr (.inr (.inr ⟨e,he,rfl⟩))) ((qA4 hc).mpr (.inr (.inr ⟨_,f1,rfl⟩))) (λz=>f2 (qDx z)) (by rw[qCg hc f1,qCg hc he,f3])
theorem qKg(tw:Tw R):farR (qEg R c t) c=(R.length,0) :=
 qBv (qGy hc fr tw) ((qA4 hc).mpr (.inl rfl)) ((qA4 hc).mpr (.inr (.inl rfl))) (qYi hc).symm (by rw[qIx hc,qHp hc])
theorem qKf(tw:Tw R):farR (qEg R c t) (R.length,0)=c :=
 qBv (qGy hc fr tw) ((qA4 hc).mpr (.inr (.inl rfl))) ((qA4 hc).mpr (.inl rfl)) (qYi hc) (by rw[qIx hc,qHp hc])
end
section
variable{R:List (List α)}{a b:Ps}{t:α}(ha:a∈ends R)(hb:b∈ends R)(le:LeP b a)(fr:qEm R t)
include ha hb le fr
theorem qV9(tw:Tw R){e:Ps}(he:e∈ends R):farR (chR R a b t) (r2 a b e)=r2 a b (farR R e):=by
 obtain⟨f1,f2,f3,_⟩:=qAw tw he;exact qBv (qM7 ha hb le fr tw) ((qB0 ha hb le).mpr (.inr (.inr ⟨e,he,rfl⟩))) ((qB0 ha hb le).mpr (.inr (.inr ⟨_,f1,rfl⟩))) (λz=>f2 (qQq z)) (by rw[qD0 ha hb le,qD0 ha hb le,f3])
theorem qUy(tw:Tw R):farR (chR R a b t) (rho b a)=b :=
 qBv (qM7 ha hb le fr tw) ((qB0 ha hb le).mpr (.inr (.inl rfl))) ((qB0 ha hb le).mpr (.inl rfl)) (qEu _ _).symm (by rw[qFb ha hb le,qEc ha hb le])
theorem qUx(tw:Tw R):farR (chR R a b t) b=rho b a :=
 qBv (qM7 ha hb le fr tw) ((qB0 ha hb le).mpr (.inl rfl)) ((qB0 ha hb le).mpr (.inr (.inl rfl))) (qEu _ _) (by rw[qFb ha hb le,qEc ha hb le])
end
noncomputable def qEi(R:List (List α))(t:α):List (List α):=R++[[t]]++[[t]]
section
variable{R:List (List α)}{t:α}
theorem qBq{e:Ps}:e∈ends (qEi R t)↔e∈ends R\/e=(R.length,0)\/e=(R.length+1,0):=by
 unfold qEi;rw[qD2,qD2,hAk,hBf];exact or_assoc
theorem qI4:(ends (qEi R t)).Perm ((R.length+1,0) :: (R.length,0) :: ends R):=by
 unfold qEi;have h:=qFe (R:=R++[[t]]) (t:=t);rw[hAk,hBf]at h;exact h.trans (List.Perm.cons _ qFe)
theorem qDk{e:Ps}(he:e∈ends R):atR (qEi R t) e=atR R e:=by
 unfold qEi;rw[qLt (qD2.mpr (.inl he)),qLt he]
theorem qZw{e:Ps}(he:e∈ends R):nxR (qEi R t) e=nxR R e:=by
 unfold qEi;rw[qLs (qD2.mpr (.inl he)),qLs he]
theorem qKn:atR (qEi R t) (R.length,0)=some t:=by
 unfold qEi;rw[qLt (qD2.mpr (.inr rfl)),qNb]
theorem qMf:atR (qEi R t) (R.length+1,0)=some t:=by
 have:=qNb (R:=R++[[t]]) (t:=t);rw[hAk,hBf]at this;exact this
theorem qXq:nxR (qEi R t) (R.length,0)=(R.length,0):=by
 unfold qEi;rw[qLs (qD2.mpr (.inr rfl)),qF0]
theorem qXp:nxR (qEi R t) (R.length+1,0)=(R.length+1,0):=by
 have:=qF0 (R:=R++[[t]]) (t:=t);rw[hAk,hBf]at this;exact this
theorem zAv:((R.length,0):Ps)≠(R.length+1,0):=λz=>by
 have:=(hDa z).1;omega
theorem qOe(fr:qEm R t)(tw:Tw R):Tw (qEi R t):=by
 intro e he;have al:∀u∈ends (qEi R t),atR (qEi R t) u=some t->u=(R.length,0)\/u=(R.length+1,0):=λu hu q=>by
  rcases qBq.mp hu with h|h
  ·rw[qDk h]at q;exact absurd q (fr u h)
  ·exact h
 rcases qBq.mp he with h|rfl|rfl
 ·obtain⟨e1,h1,n1,q1,a1⟩:=tw e h;refine⟨e1,qBq.mpr (.inl h1),n1,by rw[qDk h1,qDk h,q1],λu hu q=>?_⟩;rw[qDk h]at q;rcases qBq.mp hu with hu|rfl|rfl
  ·rw[qDk hu]at q;exact a1 u hu q
  ·rw[qKn]at q;exact absurd q.symm (fr e h)
  ·rw[qMf]at q;exact absurd q.symm (fr e h)
 ·refine⟨(R.length+1,0),qBq.mpr (.inr (.inr rfl)),zAv.symm,by rw[qKn,qMf],λu hu q=>?_⟩;rw[qKn]at q;exact al u hu q
 ·refine⟨(R.length,0),qBq.mpr (.inr (.inl rfl)),zAv,by rw[qKn,qMf],λu hu q=>?_⟩;rw[qMf]at q;exact(al u hu q).symm
theorem qMe(fr:qEm R t)(tw:Tw R){e:Ps}(he:e∈ends R):farR (qEi R t) e=farR R e:=by
 obtain⟨f1,f2,f3,_⟩:=qAw tw he;exact qBv (qOe fr tw) (qBq.mpr (.inl he)) (qBq.mpr (.inl f1)) f2 (by rw[qDk f1,qDk he,f3])
theorem qI6(fr:qEm R t)(tw:Tw R):farR (qEi R t) (R.length,0)=(R.length+1,0) :=
 qBv (qOe fr tw) (qBq.mpr (.inr (.inl rfl))) (qBq.mpr (.inr (.inr rfl))) zAv.symm (by rw[qKn,qMf])
theorem qI5(fr:qEm R t)(tw:Tw R):farR (qEi R t) (R.length+1,0)=(R.length,0) :=
 qBv (qOe fr tw) (qBq.mpr (.inr (.inr rfl))) (qBq.mpr (.inr (.inl rfl))) zAv (by rw[qKn,qMf])
theorem qRm(fr:qEm R t)(tw:Tw R){Fs:List (List Ps)}(h:IsF R Fs) :
  ∃Fs',IsF (qEi R t) Fs'/\∀p p':Ps->Bool,(∀e∈ends R,p' e=p e)->p' (R.length+1,0)=p' (R.length,0)->qDo p' Fs'=qDo p Fs+if p' (R.length,0) then 1 else 0:=by
 refine⟨[(R.length+1,0),(R.length,0)] :: Fs,⟨?_,?_⟩,?_⟩
 ·rw[hBt];exact(List.Perm.cons _ (List.Perm.cons _ h.all)).trans qI4.symm
 ·intro G hG;rcases hAg.mp hG with rfl|hG
  ·refine⟨?_,?_⟩
   ·unfold onR;rw[qI5 fr tw,qXq]
   ·show onR _ _=_;unfold onR;rw[qI6 fr tw,qXp]
  ·have:=(h.cyc G hG).same (g:=onR (qEi R t)) (ρ:=id) λe he=>by
    have he:=qB7 h hG he;show onR (qEi R t) e=onR R e;unfold onR;rw[qMe fr tw he,qZw (qAw tw he).1]
   rw[List.map_id]at this;exact this
 ·intro p p' h1 h2;rw[qBu];have e1:[(R.length+1,0),(R.length,0)].any p'=p' (R.length,0):=by
   rw[hCj,hCj,h2];cases p' (R.length,0) <;> rfl
  have e2:qDo p' Fs=qDo p Fs:=by
   have:=qFa (ρ:=id) (p:=p) (p':=p') (Fs:=Fs) λF hF e he=>h1 e (qB7 h hF he)
   rw[<-this];congr 1;rw[show(List.map id:List Ps->List Ps)=id from funext λl=>List.map_id l,List.map_id]
  rw[e1,e2];omega
end
end
section
variable{α:Type}[DecidableEq α]
structure Lab(R:List (List α))(h:Nat->Nat):Prop where
 tie:∀e∈ends R,h (farR R e).1=h e.1
 one:∀i j,i<R.length->j<R.length->h i=h j->∀S:Nat->Prop,(∀e∈ends R,S e.1->S (farR R e).1)->S i->S j
noncomputable def pF(h:Nat->Nat)(v:Nat):Ps->Bool:=λe=>h e.1 == v
noncomputable def cP(h:Nat->Nat)(v:Nat)(n:Nat):Nat:=(List.range n).countP λi=>h i == v
noncomputable def cE(h:Nat->Nat)(v:Nat)(R:List (List α)):Nat:=(ends R).countP (pF h v)
noncomputable def qYl(R:List (List α))(h:Nat->Nat)(Fs:List (List Ps)):Prop:=∀i<R.length,2*qDo (pF h (h i)) Fs+2*cP h (h i) R.length=cE h (h i) R+4
theorem qT1{R:List (List α)}{h:Nat->Nat}(tw:Tw R)(L:Lab R h)(v:Nat):∀e∈ends R,pF h v (onR R e)=pF h v e:=λe he=>by
 unfold pF onR;have:=L.tie e he;show(h (nxR R (farR R e)).1 == v)=_;rw[show(nxR R (farR R e)).1=(farR R e).1 from rfl,this]
theorem qPl{p q:Ps->Bool}{Fs:List (List Ps)}(h:∀F∈Fs,∀e∈F,p e=q e):qDo p Fs=qDo q Fs:=by
 unfold qDo;congr 1;refine hEk λF hF=>?_
 rw[hBq,hC5,hC5];exact⟨λ⟨e,he,z⟩=>⟨e,he,by rw[<-h F hF e he];exact z⟩,λ⟨e,he,z⟩=>⟨e,he,by rw[h F hF e he];exact z⟩⟩
theorem qK8{R:List (List α)}{h g:Nat->Nat}{Fs Gs:List (List Ps)}(tw:Tw R)(hF:IsF R Fs)(hG:IsF R Gs)(L:Lab R h)(M:Lab R g)(C:qYl R h Fs):qYl R g Gs:=by
 intro i hi;have same:∀j<R.length,(h j == h i)=(g j == g i):=λj hj=>by
  rw[hBq,hG6,hG6];constructor
  ·intro e;exact(L.one i j hi hj e.symm (λk=>g k=g i) (λe he q=>by rw[M.tie e he];exact q) rfl)
  ·intro e;exact(M.one i j hi hj e.symm (λk=>h k=h i) (λe he q=>by rw[L.tie e he];exact q) rfl)
 have c:=C i hi;have e1:qDo (pF g (g i)) Gs=qDo (pF h (h i)) Fs:=by
  have a:qDo (pF g (g i)) Gs=qDo (pF g (g i)) Fs:=(qR1 (p:=pF g (g i)) hG hF (qT1 tw M _));rw[a];exact qPl λF hF' e he=>(same e.1 (qAs (qB7 hF hF' he))).symm
 have e2:cP g (g i) R.length=cP h (h i) R.length:=by
  unfold cP;exact hCa λj hj=>by rw[same j (hAw.mp hj)]
 have e3:cE g (g i) R=cE h (h i) R:=by
  unfold cE;exact hCa λe he=>by
   unfold pF;rw[same e.1 (qAs he)]
 rw[e1,e2,e3];exact c
def qLv(R:List (List α)):Prop:=∃h Fs,IsF R Fs/\Lab R h/\qYl R h Fs
theorem qM8(h:Nat->Nat)(v n:Nat):cP h v (n+1)=cP h v n+if h n == v then 1 else 0:=by
 unfold cP;rw[hBv,List.countP_append,List.countP_singleton]
theorem qOv{h g:Nat->Nat}{v n:Nat}(e:∀i<n,h i=g i):cP h v n=cP g v n:=by
 unfold cP;exact hCa λj hj=>by rw[e j (hAw.mp hj)]
theorem qSz{R:List (List α)}{h g:Nat->Nat}{v:Nat}{ρ:Ps->Ps}(e:∀e∈ends R,pF g v (ρ e)=pF h v e):((ends R).map ρ).countP (pF g v)=cE h v R:=by
 unfold cE;rw[hE0];exact hCa λx hx=>by
  show pF g v (ρ x)=true↔_;rw[e x hx]
theorem qUl{R:List (List α)}{c:Ps}{t:α}(hc:c∈ends R)(fr:qEm R t)(tw:Tw R)(F:qLv R):qLv (qEg R c t):=by
 obtain⟨h,Fs,hF,L,C⟩:=F;obtain⟨Fs',hF',cnt⟩:=qQ9 hc fr tw hF;have lt:=qAs hc;have ln:(qEg R c t).length=R.length+1:=by unfold qEg;rw[hAk,qA9];rfl
 let g:Nat->Nat:=λi=>if i=R.length then h c.1 else h i
 have gn:g R.length=h c.1:=hEs rfl;have gi:∀i<R.length,g i=h i:=λi hi=>hEr (by omega)
 refine⟨g,Fs',hF',⟨?_,?_⟩,?_⟩
 ·intro e he;rcases(qA4 hc).mp he with rfl|rfl|⟨e0,h0,rfl⟩
  ·rw[qKg hc fr tw];exact gn.trans (gi _ lt).symm
  ·rw[qKf hc fr tw];exact(gi _ lt).trans gn.symm
  ·have h1:=(qAw tw h0).1;rw[qQ8 hc fr tw h0,qS6,qS6,gi _ (qAs h1),gi _ (qAs h0)];exact L.tie e0 h0
 ·rw[ln];intro i j hi hj q S hS si;have S0:∀e∈ends R,S e.1->S (farR R e).1:=λe he s=>by
   have:=hS (rho c e) ((qA4 hc).mpr (.inr (.inr ⟨e,he,rfl⟩))) (by rw[qS6];exact s);rw[qQ8 hc fr tw he,qS6]at this;exact this
  have up:S c.1->S R.length:=λs=>by
   have:=hS c ((qA4 hc).mpr (.inl rfl)) s;rw[qKg hc fr tw]at this;exact this
  have dn:S R.length->S c.1:=λs=>by
   have:=hS (R.length,0) ((qA4 hc).mpr (.inr (.inl rfl))) s;rw[qKf hc fr tw]at this;exact this
  by_cases ei:i=R.length
  ·subst ei;by_cases ej:j=R.length
   ·rw[ej];exact si
   ·rw[gn,gi j (by omega)]at q;exact L.one c.1 j lt (by omega) q S S0 (dn si)
  ·rw[gi i (by omega)]at q;by_cases ej:j=R.length
   ·subst ej;rw[gn]at q;exact up (L.one i c.1 (by omega) lt q S S0 si)
   ·rw[gi j (by omega)]at q;exact L.one i j (by omega) (by omega) q S S0 si
 ·have go:∀i<R.length,2*qDo (pF g (h i)) Fs'+2*cP g (h i) (R.length+1)=cE g (h i) (qEg R c t)+4:=λi hi=>by
   have c0:=C i hi;have pc:pF g (h i) c=pF h (h i) c:=by unfold pF;rw[gi _ lt]
   have pn:pF g (h i) (R.length,0)=pF h (h i) c:=by unfold pF;dsimp only;rw[gn]
   have po:∀e∈ends R,pF g (h i) (rho c e)=pF h (h i) e:=λe he=>by unfold pF;rw[qS6,gi _ (qAs he)]
   have e1:=cnt (pF h (h i)) (pF g (h i)) po pc pn;have e2:cP g (h i) (R.length+1)=cP h (h i) R.length+if pF h (h i) c then 1 else 0:=by
    rw[qM8,qOv gi,gn];rfl
   have e3:cE g (h i) (qEg R c t)=cE h (h i) R+2*if pF h (h i) c then 1 else 0:=by
    have p1:=(qFe (R:=qEn R c t) (t:=t)).trans (List.Perm.cons _ (qE5 hc));rw[qA9]at p1;have:=p1.countP_eq (pF g (h i));rw[hCu,hCu,qSz po,pc,pn]at this;unfold cE;show(ends (qEn R c t++[[t]])).countP _=_;rw[this];unfold cE;omega
   rw[e1,e2,e3];omega
  intro i hi;rw[ln]at hi ⊢;by_cases ei:i=R.length
  ·rw[ei,gn];exact go c.1 lt
  ·rw[gi i (by omega)];exact go i (by omega)
theorem qX5{R:List (List α)}{a b:Ps}{t:α}(ha:a∈ends R)(hb:b∈ends R)(le:LeP b a)(fr:qEm R t)(tw:Tw R)(F:qLv R){F0:List Ps}(cF:Cyc (onR R) F0)(mF:∀e∈F0,e∈ends R)(haF:a∈F0)(hbF:b∈F0):qLv (chR R a b t):=by
 obtain⟨h,Fs,hF,L,C⟩:=F;obtain⟨F1,hF1,l1,_,pl,_,_,_⟩:=qMv hF ha;have aF1:a∈F1:=pl.mem_iff.mpr hAb;have bF1:b∈F1:=cF.all (S:=λe=>e∈F1) (λe _=>(hF.cyc F1 hF1).closed e) haF aF1 b hbF;obtain⟨Fs',hF',cnt⟩:=qUz ha hb le fr tw hF hF1 aF1 bF1;have ln:(chR R a b t).length=R.length:=by unfold chR;rw[qA9,qA9]
 have hab:h b.1=h a.1:=cF.all (S:=λe=>h e.1=h a.1) (λe he q=>by
  show h (nxR R (farR R e)).1=_;rw[show(nxR R (farR R e)).1=(farR R e).1 from rfl,L.tie e (mF e he)];exact q) haF rfl b hbF
 refine⟨h,Fs',hF',⟨?_,?_⟩,?_⟩
 ·intro e he;rcases(qB0 ha hb le).mp he with rfl|rfl|⟨e0,h0,rfl⟩
  ·rw[qUx ha hb le fr tw,qS6];exact hab.symm
  ·rw[qUy ha hb le fr tw,qS6];exact hab
  ·rw[qV9 ha hb le fr tw h0,r21,r21];exact L.tie e0 h0
 ·rw[ln];intro i j hi hj q S hS si;refine L.one i j hi hj q S (λe he s=>?_) si;have:=hS (r2 a b e) ((qB0 ha hb le).mpr (.inr (.inr ⟨e,he,rfl⟩))) (by rw[r21];exact s);rw[qV9 ha hb le fr tw he,r21]at this;exact this
 ·intro i hi;rw[ln]at hi ⊢;have c0:=C i hi;have po:∀e∈ends R,pF h (h i) (r2 a b e)=pF h (h i) e:=λe he=>by unfold pF;rw[r21]
  have pa:pF h (h i) (rho b a)=pF h (h i) a:=by unfold pF;rw[qS6]
  have pb:pF h (h i) b=pF h (h i) a:=by unfold pF;rw[hab]
  have e1:=cnt (pF h (h i)) (pF h (h i)) (qT1 tw L _) po rfl pa;have e3:cE h (h i) (chR R a b t)=cE h (h i) R+2*if pF h (h i) a then 1 else 0:=by
   have:=(qJp (t:=t) ha hb le).countP_eq (pF h (h i));rw[hCu,hCu,qSz po,pa,pb]at this;show(ends (chR R a b t)).countP _=_;rw[this];omega
  rw[e1,e3];omega
theorem qIc(h:Nat->Nat):∀n,∃M,∀i<n,h i<M
 |0=>⟨0,λi hi=>by omega⟩
 |n+1=>by
  obtain⟨M,hM⟩:=qIc h n;refine⟨M+h n+1,λi hi=>?_⟩;by_cases e:i=n
  ·rw[e];omega
  ·have:=hM i (by omega);omega
theorem qUn{R:List (List α)}{t:α}(fr:qEm R t)(tw:Tw R)(F:qLv R):qLv (qEi R t):=by
 obtain⟨h,Fs,hF,L,C⟩:=F;obtain⟨Fs',hF',cnt⟩:=qRm fr tw hF;obtain⟨M,hM⟩:=qIc h R.length;have ln:(qEi R t).length=R.length+2:=by unfold qEi;simp
 let g:Nat->Nat:=λi=>if i<R.length then h i else M
 have gi:∀i<R.length,g i=h i:=λi hi=>hEs hi
 have gn:∀i,R.length<=i->g i=M:=λi hi=>hEr (by omega)
 refine⟨g,Fs',hF',⟨?_,?_⟩,?_⟩
 ·intro e he;rcases qBq.mp he with h0|rfl|rfl
  ·rw[qMe fr tw h0,gi _ (qAs h0),gi _ (qAs (qAw tw h0).1)];exact L.tie e h0
  ·rw[qI6 fr tw];exact(gn _ (by dsimp only;omega)).trans (gn _ (by dsimp only;omega)).symm
  ·rw[qI5 fr tw];exact(gn _ (by dsimp only;omega)).trans (gn _ (by dsimp only;omega)).symm
 ·rw[ln];intro i j hi hj q S hS si;by_cases ei:i<R.length
  ·by_cases ej:j<R.length
   ·rw[gi i ei,gi j ej]at q;refine L.one i j ei ej q S (λe he s=>?_) si;have:=hS e (qBq.mpr (.inl he)) s;rw[qMe fr tw he]at this;exact this
   ·rw[gi i ei,gn j (by omega)]at q;have:=hM i ei;omega
  ·by_cases ej:j<R.length
   ·rw[gi j ej,gn i (by omega)]at q;have:=hM j ej;omega
   ·have h1:=hS (R.length,0) (qBq.mpr (.inr (.inl rfl)));have h2:=hS (R.length+1,0) (qBq.mpr (.inr (.inr rfl)));rw[qI6 fr tw]at h1;rw[qI5 fr tw]at h2;dsimp only at h1 h2;obtain rfl|rfl:i=R.length\/i=R.length+1:=by omega
    ·obtain rfl|rfl:j=R.length\/j=R.length+1:=by omega
     ·exact si
     ·exact h1 si
    ·obtain rfl|rfl:j=R.length\/j=R.length+1:=by omega
     ·exact h2 si
     ·exact si
 ·intro i hi;rw[ln]at hi ⊢;have po:∀v,∀e∈ends R,pF g v e=pF h v e:=λv e he=>by unfold pF;rw[gi _ (qAs he)]
  have p1:∀v,pF g v (R.length,0)=(M == v):=λv=>by unfold pF;dsimp only;rw[gn _ (hAj _)]
  have p2:∀v,pF g v (R.length+1,0)=(M == v):=λv=>by unfold pF;dsimp only;rw[gn _ (by omega)]
  have e1:∀v,qDo (pF g v) Fs'=qDo (pF h v) Fs+if M == v then 1 else 0:=λv=>by
   have:=cnt (pF h v) (pF g v) (po v) (by rw[p1,p2]);rw[p1]at this;exact this
  have e2:∀v,cP g v (R.length+2)=cP h v R.length+2*if M == v then 1 else 0:=λv=>by
   rw[qM8,qM8,qOv gi,gn _ (hAj _),gn _ (by omega)];omega
  have e3:∀v,cE g v (qEi R t)=cE h v R+2*if M == v then 1 else 0:=λv=>by
   have:=(qI4 (R:=R) (t:=t)).countP_eq (pF g v);rw[hCu,hCu,p1,p2]at this;have q:(ends R).countP (pF g v)=cE h v R:=hCa λe he=>by rw[po v e he]
   show(ends (qEi R t)).countP _=_;rw[this,q];omega
  rw[e1,e2,e3];by_cases ei:i<R.length
  ·rw[gi i ei];have:=C i ei;have nm:(M == h i)=false:=by
    rw[Bool.eq_false_iff];intro z;have:=hM i ei;have:=beq_iff_eq.mp z;omega
   rw[nm]
   simpa using this
  ·rw[gn i (by omega)];have z:∀e∈ends R,pF h M e=false:=λe he=>by
    have:=hM e.1 (qAs he);unfold pF;rw[beq_eq_false_iff_ne];omega
   have c1:qDo (pF h M) Fs=0:=by
    unfold qDo;rw[hD2,hEd];intro F hFm q;obtain⟨e,he,q⟩:=hC5.mp q;rw[z e (qB7 hF hFm he)]at q;cases q
   have c2:cP h M R.length=0:=by
    unfold cP;rw[List.countP_eq_zero];intro j hj q;have:=hM j (hAw.mp hj);have:=beq_iff_eq.mp q;omega
   have c3:cE h M R=0:=by
    unfold cE;rw[List.countP_eq_zero];intro e he q;rw[z e he]at q;cases q
   rw[c1,c2,c3,hFf];rfl
theorem qUm:qLv ([]:List (List α)):=⟨λ_=>0,[],⟨.refl _,λF hF=>(by cases hF)⟩,⟨λe he=>(by cases he),λi j hi=>(by cases hi)⟩,λi hi=>(by cases hi)⟩
end
section
variable{α β:Type}[DecidableEq α][DecidableEq β]
structure Iso(R:List (List α))(R':List (List β))(φ:Ps->Ps)(π ψ:Nat->Nat):Prop where
 mem:∀e∈ends R,φ e∈ends R'
 inj:∀e∈ends R,∀u∈ends R,φ e=φ u->e=u
 sur:∀e'∈ends R',∃e∈ends R,φ e=e'
 nx:∀e∈ends R,nxR R' (φ e)=φ (nxR R e)
 at_:∀e∈ends R,∀u∈ends R,(atR R' (φ e)=atR R' (φ u)↔atR R e=atR R u)
 pt:∀e∈ends R,(φ e).1=π e.1
 pl:∀i<R.length,π i<R'.length
 ql:∀i<R'.length,ψ i<R.length
 pq:∀i<R.length,ψ (π i)=i
 qp:∀i<R'.length,π (ψ i)=i
section
variable{R:List (List α)}{R':List (List β)}{φ:Ps->Ps}{π ψ:Nat->Nat}(I:Iso R R' φ π ψ)
include I
theorem Iso.perm:(ends R').Perm ((ends R).map φ):=by
 refine(hBm (qAy _) ?_).mpr λe=>?_
 ·rw[List.Nodup,hC3];exact hCh (λha hb h q=>h (I.inj _ ha _ hb q)) (qAy R)
 ·rw[hAm];exact⟨λh=>I.sur e h,λ⟨u,hu,q⟩=>by rw[<-q];exact I.mem u hu⟩
theorem Iso.tw(tw:Tw R):Tw R':=by
 intro e' he';obtain⟨e,he,rfl⟩:=I.sur e' he';obtain⟨u,hu,n,q,al⟩:=tw e he;refine⟨φ u,I.mem u hu,λz=>n (I.inj u hu e he z),(I.at_ u hu e he).mpr q,λv' hv' q'=>?_⟩;obtain⟨v,hv,rfl⟩:=I.sur v' hv';rcases al v hv ((I.at_ v hv e he).mp q') with rfl|rfl
 ·exact .inl rfl
 ·exact .inr rfl
theorem Iso.far(tw:Tw R){e:Ps}(he:e∈ends R):farR R' (φ e)=φ (farR R e):=by
 obtain⟨f1,f2,f3,_⟩:=qAw tw he;exact qBv (I.tw tw) (I.mem e he) (I.mem _ f1) (λz=>f2 (I.inj _ f1 e he z)) ((I.at_ _ f1 e he).mpr f3)
theorem Iso.on(tw:Tw R){e:Ps}(he:e∈ends R):onR R' (φ e)=φ (onR R e):=by
 unfold onR;rw[I.far tw he,I.nx _ (qAw tw he).1]
theorem Iso.isF(tw:Tw R){Fs:List (List Ps)}(hF:IsF R Fs):IsF R' (Fs.map (List.map φ)):=by
 refine⟨?_,?_⟩
 ·rw[<-List.map_flatten];exact(hF.all.map φ).trans I.perm.symm
 ·intro G hG;obtain⟨F,hFm,rfl⟩:=hAm.mp hG;exact(hF.cyc F hFm).same λe he=>I.on tw (qB7 hF hFm he)
theorem Iso.rng:(List.range R'.length).Perm ((List.range R.length).map π):=by
 refine(hBm hCt ?_).mpr λi=>?_
 ·rw[List.Nodup,hC3];exact hCh (λha hb h q=>h (by rw[<-I.pq _ (hAw.mp ha),<-I.pq _ (hAw.mp hb),q])) hCt
 ·rw[hAm,hAw];exact⟨λh=>⟨ψ i,hAw.mpr (I.ql i h),I.qp i h⟩,λ⟨j,hj,q⟩=>by rw[<-q];exact I.pl j (hAw.mp hj)⟩
theorem Iso.flat(tw:Tw R)(F:qLv R):qLv R':=by
 obtain⟨h,Fs,hF,L,C⟩:=F;refine⟨λi=>h (ψ i),_,I.isF tw hF,⟨?_,?_⟩,?_⟩
 ·intro e' he';obtain⟨e,he,rfl⟩:=I.sur e' he';have h1:=(qAw tw he).1;rw[I.far tw he,I.pt _ h1,I.pt _ he,I.pq _ (qAs h1),I.pq _ (qAs he)];exact L.tie e he
 ·intro i j hi hj q S hS si;have:=L.one (ψ i) (ψ j) (I.ql i hi) (I.ql j hj) q (λk=>S (π k)) (λe he s=>by
   have:=hS (φ e) (I.mem e he) (by rw[I.pt e he];exact s);rw[I.far tw he,I.pt _ (qAw tw he).1]at this;exact this) (by rw[I.qp i hi];exact si)
  rw[I.qp j hj]at this;exact this
 ·intro i hi;have c:=C (ψ i) (I.ql i hi);have po:∀e∈ends R,pF (λi=>h (ψ i)) (h (ψ i)) (φ e)=pF h (h (ψ i)) e:=λe he=>by
   unfold pF;dsimp only;rw[I.pt e he,I.pq _ (qAs he)]
  have e1:qDo (pF (λi=>h (ψ i)) (h (ψ i))) (Fs.map (List.map φ))=qDo (pF h (h (ψ i))) Fs:=qFa λF hFm e he=>po e (qB7 hF hFm he)
  have e2:cP (λi=>h (ψ i)) (h (ψ i)) R'.length=cP h (h (ψ i)) R.length:=by
   unfold cP;rw[I.rng.countP_eq,hE0];exact hCa λj hj=>by
    show(h (ψ (π j)) == h (ψ i))=true↔_;rw[I.pq j (hAw.mp hj)]
  have e3:cE (λi=>h (ψ i)) (h (ψ i)) R'=cE h (h (ψ i)) R:=by
   have:=qSz (h:=h) (g:=λi=>h (ψ i)) (v:=h (ψ i)) (ρ:=φ) po;unfold cE;rw[I.perm.countP_eq];exact this
  rw[e1,e2,e3];exact c
end
theorem qI9(R:List (List α))(f:α->β)(i:Nat):qAx (R.map (List.map f)) i=(qAx R i).map f:=by
 unfold qAx;rw[hAa,hAa,hAc];cases R[i]? <;> rfl
theorem qRy{R:List (List α)}{f:α->β}(hf:∀e∈ends R,∀u∈ends R,(atR R e).map f=(atR R u).map f->atR R e=atR R u):Iso R (R.map (List.map f)) id id id:=by
 have ha:∀e,atR (R.map (List.map f)) e=(atR R e).map f:=λe=>by
  unfold atR;rw[qI9,hAc]
 have hm:∀e,e∈ends (R.map (List.map f))↔e∈ends R:=λe=>by
  rw[qAn,qAn];unfold lenR;rw[qI9,hA4]
 have hl:(R.map (List.map f)).length=R.length:=hA4 _;refine⟨λe he=>(hm e).mpr he,λe _ u _ q=>q,λe he=>⟨e,(hm e).mp he,rfl⟩,λe he=>?_,λe he u hu=>?_,λe he=>rfl,λi hi=>by rw[hl];exact hi,λi hi=>by rw[hl]at hi;exact hi,λi hi=>rfl,λi hi=>rfl⟩
 ·show nxR (R.map (List.map f)) e=nxR R e;unfold nxR lenR;rw[qI9,hA4]
 ·show atR (R.map (List.map f)) e=atR (R.map (List.map f)) u↔_;rw[ha,ha];exact⟨hf e he u hu,λq=>by rw[q]⟩
theorem qTv{γ:Type}{l l':List γ}(h:l.Perm l'):∃π ψ:Nat->Nat,(∀i<l.length,π i<l'.length/\l'[π i]?=l[i]?/\ψ (π i)=i)/\∀i<l'.length,ψ i<l.length/\π (ψ i)=i:=by
 induction h with
 |nil=>exact⟨id,id,λi hi=>absurd hi (hD6 i),λi hi=>absurd hi (hD6 i)⟩
 |@cons x l l' h ih =>
  obtain⟨π,ψ,h1,h2⟩:=ih;refine⟨λi=>match i with|0=>0|k+1=>π k+1,λi=>match i with|0=>0|k+1=>ψ k+1,λi hi=>?_,λi hi=>?_⟩
  ·cases i with
   |zero=>exact⟨by simp,rfl,rfl⟩
   |succ k =>
    obtain⟨a,b,c⟩:=h1 k (by simpa using hi);exact⟨by simpa using a,b,by dsimp only;rw[c]⟩
  ·cases i with
   |zero=>exact⟨by simp,rfl⟩
   |succ k =>
    obtain⟨a,b⟩:=h2 k (by simpa using hi);exact⟨by simpa using a,by dsimp only;rw[b]⟩
 |swap x y l =>
  refine⟨λi=>match i with|0=>1|1=>0|k+2=>k+2,λi=>match i with|0=>1|1=>0|k+2=>k+2,λi hi=>?_,λi hi=>?_⟩
  ·match i,hi with
   |0,_=>exact⟨by simp,rfl,rfl⟩
   |1,_=>exact⟨by simp,rfl,rfl⟩
   |k+2,hi=>exact⟨by simpa using hi,rfl,rfl⟩
  ·match i,hi with
   |0,_=>exact⟨by simp,rfl⟩
   |1,_=>exact⟨by simp,rfl⟩
   |k+2,hi=>exact⟨by simpa using hi,rfl⟩
 |trans _ _ ih1 ih2 =>
  obtain⟨π,ψ,h1,h2⟩:=ih1;obtain⟨π',ψ',h3,h4⟩:=ih2;refine⟨λi=>π' (π i),λi=>ψ (ψ' i),λi hi=>?_,λi hi=>?_⟩
  ·obtain⟨a,b,c⟩:=h1 i hi;obtain⟨a',b',c'⟩:=h3 _ a;exact⟨a',b'.trans b,by dsimp only;rw[c',c]⟩
  ·obtain⟨a,b⟩:=h4 i hi;obtain⟨a',b'⟩:=h2 _ a;exact⟨a',by dsimp only;rw[b',b]⟩
theorem qT9{R R':List (List α)}(h:R.Perm R'):∃φ π ψ,Iso R R' φ π ψ:=by
 obtain⟨π,ψ,h1,h2⟩:=qTv h;have row:∀i<R.length,qAx R' (π i)=qAx R i:=λi hi=>by
  unfold qAx;rw[hAa,hAa,(h1 i hi).2.1]
 refine⟨λe=>(π e.1,e.2),π,ψ,λe he=>?_,λe he u hu q=>?_,λe' he'=>?_,λe he=>?_,λe he u hu=>?_,λe he=>rfl,λi hi=>(h1 i hi).1,λi hi=>(h2 i hi).1,λi hi=>(h1 i hi).2.2,λi hi=>(h2 i hi).2⟩
 ·have l:=qAs he;rw[qAn]at he ⊢;unfold lenR at *;dsimp only;rw[row _ l];exact he
 ·have q1:=(hDa q).1;have q2:=(hDa q).2;refine Prod.ext ?_ q2;rw[<-(h1 _ (qAs he)).2.2,<-(h1 _ (qAs hu)).2.2,q1]
 ·have l:=h2 _ (qAs he');refine⟨(ψ e'.1,e'.2),?_,Prod.ext l.2 rfl⟩;rw[qAn]at he' ⊢;unfold lenR at *;dsimp only;rw[<-row _ l.1,l.2];exact he'
 ·unfold nxR lenR;dsimp only;rw[row _ (qAs he)]
 ·unfold atR;dsimp only;rw[row _ (qAs he),row _ (qAs hu)]
end
section
variable{α:Type}[DecidableEq α]
theorem qXw{R R':List (List α)}{k:Nat->Nat}(hl:R'.length=R.length)(hk:∀i<R.length,k i<=lenR R i)(hr:∀i<R.length,qAx R' i=(qAx R i).drop (k i)++(qAx R i).take (k i)) :
  Iso R R' (λe=>if k e.1<=e.2 then (e.1,e.2-k e.1) else (e.1,e.2+lenR R e.1-k e.1)) id id:=by
 have hL:∀i<R.length,lenR R' i=lenR R i:=λi hi=>by
  unfold lenR;rw[hr i hi,hAk,hC8,hB2];have:=hk i hi;unfold lenR at this;omega
 have at_:∀e∈ends R,atR R' (if k e.1<=e.2 then (e.1,e.2-k e.1) else (e.1,e.2+lenR R e.1-k e.1))=atR R e:=λe he=>by
  have l:=qAs he;rw[qAn]at he;have hk':=hk e.1 l;unfold lenR at he hk' ⊢;unfold atR;by_cases z:k e.1<=e.2
  ·rw[hEs z];dsimp only;rw[hr _ l,hDu (by rw[hC8];omega),List.getElem?_drop];congr 1;omega
  ·rw[hEr z];dsimp only;rw[hr _ l,hD8 (by rw[hC8];omega),hC8,List.getElem?_take_of_lt (by omega)];congr 1;omega
 refine⟨λe he=>?_,λe he u hu q=>?_,λe' he'=>?_,λe he=>?_,λe he u hu=>?_,λe he=>?_,λi hi=>by rw[hl];exact hi,λi hi=>by rw[hl]at hi;exact hi,λi hi=>rfl,λi hi=>rfl⟩
 ·have l:=qAs he;rw[qAn]at he ⊢;have hk':=hk e.1 l;split
  ·dsimp only;rw[hL _ l];omega
  ·dsimp only;rw[hL _ l];omega
 ·have l:=qAs he;have l':=qAs hu;rw[qAn]at he hu;have hk1:=hk e.1 l;have hk2:=hk u.1 l';obtain⟨i,j⟩:=e;obtain⟨i',j'⟩:=u;dsimp only at *;split at q <;> split at q <;> (rw[Prod.mk.injEq]at q;obtain⟨rfl,q⟩:=q)
  ·congr 1;omega
  ·omega
  ·omega
  ·congr 1;omega
 ·have l:e'.1<R.length:=by rw[<-hl];exact qAs he'
  rw[qAn,hL _ l]at he';have hk':=hk e'.1 l;obtain⟨i,j⟩:=e';dsimp only at *;by_cases z:j+k i<lenR R i
  ·exact⟨(i,j+k i),qAn.mpr z,by dsimp only;rw[hEs (by omega)];congr 1;omega⟩
  ·refine⟨(i,j+k i-lenR R i),qAn.mpr (by dsimp only;omega),?_⟩;dsimp only;rw[hEr (by omega)];congr 1;omega
 ·have l:=qAs he;rw[qG0 he];have hk':=hk e.1 l;have he0:=qAn.mp he;have m1:∀x:Ps,x.1=e.1->x.2<lenR R e.1->nxR R' x=if x.2+1=lenR R e.1 then (e.1,0) else (e.1,x.2+1):=λx h1 h2=>by
   rw[qG0 (qAn.mpr (by rw[h1,hL _ l];exact h2)),h1,hL _ l]
  obtain⟨i,j⟩:=e;dsimp only at *;by_cases z:k i<=j
  ·rw[hEs z,m1 (i,j-k i) rfl (by dsimp only;omega)];dsimp only;by_cases w:j+1=lenR R i
   ·rw[hEs w];dsimp only;by_cases y:k i=0
    ·rw[hEs (by omega),hEs (by omega)];congr 1;omega
    ·rw[hEr (by omega),hEr (by omega)];congr 1;omega
   ·rw[hEr w];dsimp only;rw[hEr (by omega),hEs (by omega)];congr 1;omega
  ·rw[hEr z,m1 (i,j+lenR R i-k i) rfl (by dsimp only;omega)];dsimp only;by_cases w:j+1=lenR R i
   ·have y1:j+lenR R i-k i+1=lenR R i:=by omega
    have y2:¬k i<=0:=by omega
    rw[hEs y1,hEs w];dsimp only;rw[hEr y2];congr 1;omega
   rw[hEr w];dsimp only;by_cases y:j+1=k i
   ·have y1:j+lenR R i-k i+1=lenR R i:=by omega
    have y2:k i<=j+1:=by omega
    rw[hEs y1,hEs y2];congr 1;omega
   ·have y1:¬j+lenR R i-k i+1=lenR R i:=by omega
    have y2:¬k i<=j+1:=by omega
    rw[hEr y1,hEr y2];congr 1;omega
 ·rw[at_ e he,at_ u hu]
 ·show(if k e.1<=e.2 then (e.1,e.2-k e.1) else (e.1,e.2+lenR R e.1-k e.1)).1=e.1;split <;> rfl
end
section
variable{α:Type}[DecidableEq α]
theorem Lk.last{f:α->α}:∀ {l:List α} {a b:α},Lk f a l b->∃z∈a :: l,f z=b
 |[],a,b,h=>⟨a,hAb,h⟩
 |c :: l,a,b,⟨h1,h2⟩=>by
  obtain⟨z,hz,q⟩:=Lk.last h2;exact⟨z,hAe _ hz,q⟩
theorem Cyc.back{f:α->α}{E F:List α}(inj:∀a∈E,∀b∈E,f a=f b->a=b)(h:Cyc f F)(hE:∀e∈F,e∈E){e:α}(he:e∈E)(hf:f e∈F):e∈F:=by
 obtain⟨l,c,p⟩:=h.turn hf;obtain⟨z,hz,q⟩:=Lk.last (show Lk f (f e) l (f e) from c);have hz:=p.mem_iff.mpr hz;rw[inj e he z (hE z hz) q.symm];exact hz
structure Wk(f:α->α)(E:List α)(seen:List α)(x:α)(l:List α)(y:α):Prop where
 lk:Lk f x l y
 nd:(x :: l).Nodup
 inE:∀e∈x :: l,e∈E
 out:∀e∈x :: l,e∉seen
section
variable{f:α->α}{E seen:List α}(inj:∀a∈E,∀b∈E,f a=f b->a=b)(cl:∀e∈E,f e∈E)
theorem Wk.one{x:α}(hx:x∈E)(nx:x∉seen):Wk f E seen x [] (f x):=⟨rfl,by simp,λe he=>by rw[hAd.mp he];exact hx,λe he=>by rw[hAd.mp he];exact nx⟩
include cl in
theorem Wk.yE{x y:α}{l:List α}(w:Wk f E seen x l y):y∈E:=by
 obtain⟨z,hz,q⟩:=Lk.last w.lk;rw[<-q];exact cl z (w.inE z hz)
include cl in
theorem Wk.more{x y:α}{l:List α}(w:Wk f E seen x l y)(n1:y∉seen)(n2:y∉x :: l):Wk f E seen x (l++[y]) (f y):=by
 refine⟨Lk.app.mpr ⟨w.lk,rfl⟩,?_,λe he=>?_,λe he=>?_⟩
 ·rw[<-hBx,hB6];exact⟨w.nd,by simp,λa ha b hb q=>n2 (by rw[<-hAd.mp hb,<-q];exact ha)⟩
 ·rw[<-hBx]at he;rcases hAp.mp he with h|h
  ·exact w.inE e h
  ·rw[hAd.mp h];exact w.yE cl
 ·rw[<-hBx]at he;rcases hAp.mp he with h|h
  ·exact w.out e h
  ·rw[hAd.mp h];exact n1
include inj in
theorem Wk.close{x y:α}{l:List α}(w:Wk f E seen x l y)(bk:∀e∈E,f e∈seen->e∈seen)(h:y∈seen\/y∈x :: l):y=x:=by
 obtain⟨z,hz,q⟩:=Lk.last w.lk;rcases h with h|h
 ·exact absurd (bk z (w.inE z hz) (by rw[q];exact h)) (w.out z hz)
 ·rcases hAg.mp h with h|h
  ·exact h
  ·exfalso;obtain⟨l1,l2,rfl⟩:=hEf h;obtain⟨k1,k2⟩:=Lk.app.mp w.lk;obtain⟨a,ha,qa⟩:=Lk.last k1;obtain⟨b,hb,qb⟩:=Lk.last k2;have nd:=w.nd;rw[<-hBx,hB6]at nd;have a':a∈x :: (l1++y :: l2):=by rw[<-hBx];exact hAx _ ha
   have b':b∈x :: (l1++y :: l2):=by rw[<-hBx];exact hAq _ hb
   exact nd.2.2 a ha b hb (inj a (w.inE a a') b (w.inE b b') (qa.trans qb.symm))
theorem Wk.len{x y:α}{l:List α}(w:Wk f E seen x l y):(x :: l).length<=E.length:=hBe w.nd λe he=>w.inE e he
end
structure Dn(f:α->α)(E:List α)(Fs:List (List α)):Prop where
 cyc:∀F∈Fs,Cyc f F
 inE:∀e∈Fs.flatten,e∈E
 nd:Fs.flatten.Nodup
theorem Dn.bk{f:α->α}{E:List α}{Fs:List (List α)}(inj:∀a∈E,∀b∈E,f a=f b->a=b)(D:Dn f E Fs):∀e∈E,f e∈Fs.flatten->e∈Fs.flatten:=λe he h=>by
 obtain⟨F,hF,hf⟩:=hCe.mp h;exact hCe.mpr ⟨F,hF,(D.cyc F hF).back inj (λu hu=>D.inE u (hCe.mpr ⟨F,hF,hu⟩)) he hf⟩
theorem Dn.more{f:α->α}{E:List α}{Fs:List (List α)}(D:Dn f E Fs){x:α}{l:List α}(w:Wk f E Fs.flatten x l x):Dn f E (Fs++[x :: l]):=by
 refine⟨λF hF=>?_,λe he=>?_,?_⟩
 ·rcases hAp.mp hF with h|h
  ·exact D.cyc F h
  ·rw[hAd.mp h];exact w.lk
 ·rw[hE7]at he;rcases hAp.mp he with h|h
  ·exact D.inE e h
  ·exact w.inE e (by simpa using h)
 ·rw[hE7,hB6];refine⟨D.nd,by simpa using w.nd,λa ha b hb q=>?_⟩;rw[q]at ha;exact w.out b (by simpa using hb) ha
theorem Dn.isF{R:List (List α)}{Fs:List (List Ps)}(D:Dn (onR R) (ends R) Fs)(all:∀e∈ends R,e∈Fs.flatten):IsF R Fs :=
 ⟨(hBm D.nd (qAy R)).mpr λe=>⟨D.inE e,all e⟩,D.cyc⟩
theorem qLe{p:α->Bool}{f:α->α}:∀ {Fs:List (List α)} {xs:List α},(∀F∈Fs,Cyc f F)->(∀e∈Fs.flatten,p (f e)=p e)->Fs.map List.head?=xs.map some->qDo p Fs=xs.countP p
 |[],xs,_,_,h=>by
  cases xs with
  |nil=>rfl
  |cons _ _=>cases h
 |F :: Fs,xs,hc,hp,h=>by
  cases xs with
  |nil=>cases h
  |cons x xs =>
   rw[hAn,hAn,hB4]at h;have ih:=qLe (p:=p) (xs:=xs) (λF hF=>hc F (hAe _ hF)) (λe he=>hp e (by rw[hBt];exact hAq _ he)) h.2;cases F with
   |nil=>exact absurd h.1 (by simp)
   |cons y l =>
    have e:y=x:=by simpa using h.1
    subst e;have c:=hc _ hAb;have cst:=c.all (S:=λe=>p e=p y) (λe he q=>by rw[hp e (by rw[hBt];exact hAx _ he),q]) hAb rfl;rw[qBu,hCu,ih];have a:(y :: l).any p=p y:=by
     rw[hBq,hC5];exact⟨λ⟨e,he,q⟩=>by rw[<-cst e he];exact q,λq=>⟨y,hAb,q⟩⟩
    rw[a];omega
end
theorem qEs{net:List Tr}{x a:Str}(h:a∈starF net x):∃u∈net,u.1=a/\(u.2.1=x\/u.2.2=x):=by
 unfold starF at h;obtain⟨l,hl,ha⟩:=hCe.mp h;obtain⟨u,hu,rfl⟩:=hAm.mp hl;unfold stT at ha;rcases hAp.mp ha with z|z
 ·split at z
  ·rename_i q;exact⟨u,hu,(hAd.mp z).symm,.inl q⟩
  ·cases z
 ·split at z
  ·rename_i q;exact⟨u,hu,(hAd.mp z).symm,.inr q⟩
  ·cases z
theorem qGq(u:Tr)(net:List Tr)(x:Str):starF (u :: net) x=stT u x++starF net x:=rfl
theorem qFk:∀ {net:List Tr},(net.map (·.1)).Nodup->∀ {t:Tr},t∈net->∀x,(starF net x).count t.1=(if t.2.1=x then 1 else 0)+if t.2.2=x then 1 else 0
 |[],_,t,h,_=>by cases h
 |u :: net,nd,t,h,x=>by
  rw[hAn,hB7]at nd;rw[qGq,hDy];rcases hAg.mp h with rfl|h
  ·have z:(starF net x).count t.1=0:=by
    rw[List.count_eq_zero];intro q;obtain⟨v,hv,e,_⟩:=qEs q;exact nd.1 (by rw[<-e];exact hAr hv)
   rw[z];unfold stT;rw[hDy,Nat.add_zero];congr 1
   ·split
    ·exact List.count_cons_self
    ·rfl
   ·split
    ·exact List.count_cons_self
    ·rfl
  ·have z:(stT u x).count t.1=0:=by
    rw[List.count_eq_zero];intro q;have:t.1=u.1:=by
     unfold stT at q;rcases hAp.mp q with w|w
     ·split at w
      ·exact hAd.mp w
      ·cases w
     ·split at w
      ·exact hAd.mp w
      ·cases w
    exact nd.1 (by rw[<-this];exact hAr h)
   rw[z,Nat.zero_add,qFk nd.2 h]
noncomputable def occ{α:Type}[DecidableEq α](R:List (List α))(a:α):List Ps:=(ends R).filter λe=>decide (atR R e=some a)
theorem qQj{α:Type}[DecidableEq α](l:List α)(a:α):∀n,n<=l.length->((List.range n).filter λj=>decide (l[j]?=some a)).length=(l.take n).count a
 |0,_=>by simp
 |n+1,h=>by
  rw[hBv,hBk,hAk,qQj l a n (by omega),List.take_add_one,hDy];congr 1;have e:l[n]?=some l[n]:=hA8 (show n<l.length by omega);by_cases z:l[n]=a
  ·simp[hCd,e,z]
  ·simp[hCd,e,z]
theorem qRk{α:Type}[DecidableEq α](R:List (List α))(a:α):(occ R a).map (·.1)=(List.range R.length).flatMap λi=>List.replicate ((qAx R i).count a) i:=by
 unfold occ ends;rw[List.filter_flatMap,List.map_flatMap];congr 1
 funext i
 rw[List.filter_map,hBi];have:=qQj (qAx R i) a (qAx R i).length (hAj _);rw[hBh]at this;rw[<-this];exact List.map_const'
theorem qFx{γ:Type}[DecidableEq γ](f:Nat->γ)(c:Nat->Nat)(x:γ):∀n,(((List.range n).flatMap λi=>List.replicate (c i) i).map f).count x=((List.range n).map λi=>if f i=x then c i else 0).sum
 |0=>rfl
 |n+1=>by
  rw[hBv,hCi,hAf,hDy,qFx f c x n,hAf,List.sum_append];congr 1;rw[hDb,List.flatMap_nil,hBr,List.map_replicate,List.count_replicate];by_cases z:f n=x
  ·simp[z]
  ·simp[z]
theorem qIj{γ:Type}:∀l:List γ,(l.map λ_=>(0:Nat)).sum=0
 |[]=>rfl
 |_ :: l=>by rw[hAn,List.sum_cons,qIj l]
structure Rnd(net:List Tr)(ps:List Str)(R:List (List Str)):Prop where
 nd:(net.map (·.1)).Nodup
 pts:qGa net ps
 len:R.length=ps.length
 row:∀i<R.length,(qAx R i).Perm (starF net (ps.getD i ""))
theorem qWh{γ:Type}[DecidableEq γ](ps:List γ)(d:γ)(nd:ps.Nodup)(x:γ)(v:γ->Nat)(hx:x∈ps):∀n,n=ps.length->((List.range n).map λi=>if ps.getD i d=x then v (ps.getD i d) else 0).sum=v x:=by
 intro n hn;subst hn;have e:((List.range ps.length).map λi=>if ps.getD i d=x then v (ps.getD i d) else 0)=ps.map λp=>if p=x then v p else 0:=by
  refine List.ext_getElem (by simp) λi h1 h2=>?_
  simp only[hEa,List.getElem_range];have h3:i<ps.length:=by simpa using h2
  rw[hAa,hA8 h3,hDe]
 rw[e];clear e
 induction ps with
 |nil=>cases hx
 |cons p ps ih =>
  rw[hB7]at nd;rw[hAn,List.sum_cons];by_cases z:p=x
  ·subst z;rw[hEs rfl];have:(ps.map λq=>if q=p then v q else 0).sum=0:=by
    have e2:(ps.map λq=>if q=p then v q else 0)=ps.map λ_=>0:=hC9 λq hq=>hEr λw=>nd.1 (by rw[<-w];exact hq)
    rw[e2,qIj]
   rw[this];omega
  ·rw[hEr z,ih nd.2 ((hAg.mp hx).resolve_left (Ne.symm z))];omega
theorem qI1{net:List Tr}{ps:List Str}{R:List (List Str)}(G:Rnd net ps R){t:Tr}(ht:t∈net):((occ R t.1).map λe=>ps.getD e.1 "").Perm [t.2.1,t.2.2]:=by
 refine hEn.mpr λx=>?_
 have e:((occ R t.1).map λe=>ps.getD e.1 "")=((occ R t.1).map (·.1)).map λi=>ps.getD i "":=by rw[hBi];rfl
 rw[e,qRk,qFx];have e2:((List.range R.length).map λi=>if ps.getD i ""=x then (qAx R i).count t.1 else 0)=(List.range R.length).map λi=>if ps.getD i ""=x then (λp=>(starF net p).count t.1) (ps.getD i "") else 0:=by
  refine hC9 λi hi=>?_
  split
  ·exact(G.row i (hAw.mp hi)).count_eq _
  ·rfl
 rw[e2];by_cases hx:x∈ps
 ·rw[qWh ps "" G.pts.1 x (λp=>(starF net p).count t.1) hx R.length G.len];rw[qFk G.nd ht x];simp only[hDz,List.count_nil,hG6];omega
 ·have z:∀i∈List.range R.length,(if ps.getD i ""=x then (λp=>(starF net p).count t.1) (ps.getD i "") else 0)=0:=λi hi=>by
   rw[hEr];intro w;have h3:i<ps.length:=by have:=hAw.mp hi;rw[G.len]at this;exact this
   rw[hAa,hA8 h3,hDe]at w;exact hx (by rw[<-w];exact hBy h3)
  rw[hC9 z,qIj];have n1:t.2.1≠x:=λw=>hx ((G.pts.2 x).mpr ⟨t,ht,.inl w.symm⟩)
  have n2:t.2.2≠x:=λw=>hx ((G.pts.2 x).mpr ⟨t,ht,.inr w.symm⟩)
  simp[hDz,n1,n2]
theorem qPm(net:List Tr):∀S:Str->Prop,(∀t∈net,S t.2.1↔S t.2.2)->∀x y,homF net x=homF net y->(S x↔S y):=by
 refine qCx (P:=λnet=>∀S:Str->Prop,(∀t∈net,S t.2.1↔S t.2.2)->∀x y,homF net x=homF net y->(S x↔S y)) (λS _ x y e=>?_) (λl t ih S hS x y e=>?_) net
 ·have:x=y:=e;rw[this]
 have ih':=ih S λu hu=>hS u (hAx _ hu)
 have hT:=hS t (by simp);rw[qC5]at e;have e':(if homF l x=homF l t.2.2 then homF l t.2.1 else homF l x)=(if homF l y=homF l t.2.2 then homF l t.2.1 else homF l y):=e;by_cases a:homF l x=homF l t.2.2
 ·by_cases b:homF l y=homF l t.2.2
  ·exact ih' x y (a.trans b.symm)
  ·rw[hEs a,hEr b]at e';exact(ih' x t.2.2 a).trans (hT.symm.trans (ih' t.2.1 y e'))
 ·by_cases b:homF l y=homF l t.2.2
  ·rw[hEr a,hEs b]at e';exact(ih' x t.2.1 e').trans (hT.trans (ih' t.2.2 y b.symm))
  ·rw[hEr a,hEr b]at e';exact ih' x y e'
noncomputable abbrev ptA(ps:List Str)(e:Ps):Str:=ps.getD e.1 ""
section
variable{net:List Tr}{ps:List Str}{R:List (List Str)}(G:Rnd net ps R)
include G
theorem qIv{e:Ps}(he:e∈ends R):∃t∈net,atR R e=some t.1:=by
 obtain⟨a,ha⟩:=qCw.mp he;have m:a∈qAx R e.1:=hAs ha;obtain⟨t,ht,q,_⟩:=qEs ((G.row e.1 (qAs he)).mem_iff.mp m);exact⟨t,ht,by rw[ha,q]⟩
theorem qL7{t:Tr}(ht:t∈net):∃e∈ends R,∃u∈ends R,e≠u/\atR R e=some t.1/\atR R u=some t.1/\(∀v∈ends R,atR R v=some t.1->v=e\/v=u)/\ptA ps e=t.2.1/\ptA ps u=t.2.2:=by
 have h:=qI1 G ht;have ln:=h.length_eq;rw[hA4]at ln;have nd:(occ R t.1).Nodup:=(qAy R).sublist hDm;have mm:∀v,v∈occ R t.1↔v∈ends R/\atR R v=some t.1:=λv=>by
  unfold occ;rw[hC0,hEv]
 match hm:occ R t.1,ln with
 |[a,b],_ =>
  rw[hm]at h nd mm;have n:a≠b:=by
   rw[hB7]at nd;exact λz=>nd.1 (by rw[z];exact hAb)
  obtain⟨ma,qa⟩:=(mm a).mp hAb;obtain⟨mb,qb⟩:=(mm b).mp (by simp);have al:∀v∈ends R,atR R v=some t.1->v=a\/v=b:=λv hv q=>by
   have:=(mm v).mpr ⟨hv,q⟩
   simpa using this
  have h':[ptA ps a,ptA ps b].Perm [t.2.1,t.2.2]:=h;have c:(ptA ps a=t.2.1/\ptA ps b=t.2.2)\/(ptA ps a=t.2.2/\ptA ps b=t.2.1):=by
   have m1:ptA ps a∈[t.2.1,t.2.2]:=h'.mem_iff.mp hAb;rcases hAg.mp m1 with w|w
   ·left
    rw[w]at h';have:=(List.perm_cons _).mp h';exact⟨w,List.singleton_perm_singleton.mp this⟩
   ·right
    have w:=hAd.mp w;rw[w]at h';have:=(List.perm_cons _).mp (h'.trans (List.Perm.swap _ _ _));exact⟨w,List.singleton_perm_singleton.mp this⟩
  rcases c with ⟨c1,c2⟩|⟨c1,c2⟩
  ·exact⟨a,ma,b,mb,n,qa,qb,al,c1,c2⟩
  ·exact⟨b,mb,a,ma,n.symm,qb,qa,λv hv q=>(al v hv q).symm,c2,c1⟩
theorem qC2:Tw R:=by
 intro e he;obtain⟨t,ht,q⟩:=qIv G he;obtain⟨a,ma,b,mb,n,qa,qb,al,_,_⟩:=qL7 G ht;rcases al e he q with rfl|rfl
 ·exact⟨b,mb,n.symm,by rw[qa,qb],λu hu w=>al u hu (by rw[<-q];exact w)⟩
 ·exact⟨a,ma,n,by rw[qa,qb],λu hu w=>(al u hu (by rw[<-q];exact w)).symm⟩
theorem qWt{e:Ps}(he:e∈ends R):∃t∈net,atR R e=some t.1/\((ptA ps e=t.2.1/\ptA ps (farR R e)=t.2.2)\/(ptA ps e=t.2.2/\ptA ps (farR R e)=t.2.1)):=by
 obtain⟨t,ht,q⟩:=qIv G he;obtain⟨a,ma,b,mb,n,qa,qb,al,p1,p2⟩:=qL7 G ht;refine⟨t,ht,q,?_⟩;rcases al e he q with rfl|rfl
 ·left
  rw[qBv (qC2 G) he mb n.symm (by rw[qa,qb])];exact⟨p1,p2⟩
 ·right
  rw[qBv (qC2 G) he ma n (by rw[qa,qb])];exact⟨p2,p1⟩
theorem qZa{t:Tr}(ht:t∈net):∃e∈ends R,ptA ps e=t.2.1/\ptA ps (farR R e)=t.2.2:=by
 obtain⟨a,ma,b,mb,n,qa,qb,al,p1,p2⟩:=qL7 G ht;exact⟨a,ma,p1,by rw[qBv (qC2 G) ma mb n.symm (by rw[qa,qb])];exact p2⟩
theorem qGw{i:Nat}(h:i<R.length):ps.getD i ""∈ps:=by
 have h3:i<ps.length:=by rw[<-G.len];exact h
 rw[hAa,hA8 h3,hDe];exact hBy h3
theorem qN4{i j:Nat}(hi:i<R.length)(hj:j<R.length)(q:ps.getD i ""=ps.getD j ""):i=j:=by
 have h3:i<ps.length:=by rw[<-G.len];exact hi
 have h4:j<ps.length:=by rw[<-G.len];exact hj
 rw[hAa,hA8 h3,hDe,hAa,hA8 h4,hDe]at q;have pw:=List.pairwise_iff_getElem.mp G.pts.1;rcases Nat.lt_trichotomy i j with l|l|l
 ·exact absurd q (pw i j h3 h4 l)
 ·exact l
 ·exact absurd q.symm (pw j i h4 h3 l)
theorem qWs{g:Str->Str}(gp:∀x∈ps,g x∈ps)(gt:∀t∈net,g t.2.1=g t.2.2)(gc:∀S:Str->Prop,(∀t∈net,S t.2.1↔S t.2.2)->∀x y,g x=g y->(S x↔S y)):Lab R λi=>ps.idxOf (g (ps.getD i "")):=by
 refine⟨λe he=>?_,λi j hi hj q S hS si=>?_⟩
 ·obtain⟨t,ht,_,h|h⟩:=qWt G he
  ·show ps.idxOf (g (ptA ps (farR R e)))=ps.idxOf (g (ptA ps e));rw[h.1,h.2,gt t ht]
  ·show ps.idxOf (g (ptA ps (farR R e)))=ps.idxOf (g (ptA ps e));rw[h.1,h.2,gt t ht]
 ·have q:ps.idxOf (g (ps.getD i ""))=ps.idxOf (g (ps.getD j "")):=q;have m1:=hDn (gp _ (qGw G hi));have m2:=hDn (gp _ (qGw G hj));have e:g (ps.getD i "")=g (ps.getD j ""):=by
   have a:=List.getElem_idxOf m1;have b:=List.getElem_idxOf m2;rw[<-a,<-b];congr 1
  have back:∀e∈ends R,S (farR R e).1->S e.1:=λe he s=>by
   have h1:=(qAw (qC2 G) he).1;have:=hS _ h1 s;rw[qEk (qC2 G) he]at this;exact this
  have:=(gc (λx=>∃k<R.length,ps.getD k ""=x/\S k) (λt ht=>by
   obtain⟨a,ma,p1,p2⟩:=qZa G ht;have mf:=(qAw (qC2 G) ma).1;constructor
   ·rintro⟨k,hk,e1,s⟩;have ek:k=a.1:=qN4 G hk (qAs ma) (e1.trans p1.symm);exact⟨(farR R a).1,qAs mf,p2,hS a ma (by rw[<-ek];exact s)⟩
   ·rintro⟨k,hk,e1,s⟩;have ek:k=(farR R a).1:=qN4 G hk (qAs mf) (e1.trans p2.symm);exact⟨a.1,qAs ma,p1,back a ma (by rw[<-ek];exact s)⟩) _ _ e).mp ⟨i,hi,rfl,si⟩
  obtain⟨k,hk,e1,s⟩:=this;rw[<-qN4 G hk hj e1];exact s
theorem qIw:Lab R λi=>ps.idxOf (homF net (ps.getD i "")) :=
 qWs G (λx hx=>(G.pts.2 _).mpr ((qR7 net).1 x ((G.pts.2 x).mp hx))) (qE6 net) (qPm net)
end
noncomputable abbrev qMq(h:Nat->Nat)(u:Nat×Nat):Nat->Nat:=λi=>if h i=max (h u.1) (h u.2) then min (h u.1) (h u.2) else h i
noncomputable def heapF(us:List (Nat×Nat)):Nat->Nat:=us.foldl qMq id
theorem qFv(us:List (Nat×Nat))(u:Nat×Nat):heapF (us++[u])=qMq (heapF us) u:=by unfold heapF;rw[List.foldl_append];rfl
theorem qUe(us:List (Nat×Nat)):∀u∈us,heapF us u.1=heapF us u.2:=by
 refine qCx (P:=λus=>∀u∈us,heapF us u.1=heapF us u.2) (λu h=>(by cases h)) (λl t ih=>?_) us;intro u hu;rw[qFv];show(if heapF l u.1=max (heapF l t.1) (heapF l t.2) then min (heapF l t.1) (heapF l t.2) else heapF l u.1)=if heapF l u.2=max (heapF l t.1) (heapF l t.2) then min (heapF l t.1) (heapF l t.2) else heapF l u.2
 rcases hAp.mp hu with z|z
 ·rw[ih u z]
 ·rw[hAd]at z;subst z;split <;> split <;> omega
theorem qMp(us:List (Nat×Nat)):∀S:Nat->Prop,(∀u∈us,S u.1↔S u.2)->∀x y,heapF us x=heapF us y->(S x↔S y):=by
 refine qCx (P:=λus=>∀S:Nat->Prop,(∀u∈us,S u.1↔S u.2)->∀x y,heapF us x=heapF us y->(S x↔S y)) (λS _ x y e=>?_) (λl t ih S hS x y e=>?_) us
 ·have:x=y:=e;rw[this]
 have ih':=ih S λu hu=>hS u (hAx _ hu)
 have hT:=hS t (by simp);have hit:∀z,heapF l z=max (heapF l t.1) (heapF l t.2)\/heapF l z=min (heapF l t.1) (heapF l t.2)->(S z↔S t.1):=λz q=>by
  have:heapF l z=heapF l t.1\/heapF l z=heapF l t.2:=by omega
  rcases this with q|q
  ·exact ih' z t.1 q
  ·exact(ih' z t.2 q).trans hT.symm
 rw[qFv]at e;have e':(if heapF l x=max (heapF l t.1) (heapF l t.2) then min (heapF l t.1) (heapF l t.2) else heapF l x)=if heapF l y=max (heapF l t.1) (heapF l t.2) then min (heapF l t.1) (heapF l t.2) else heapF l y:=e
 by_cases a:heapF l x=max (heapF l t.1) (heapF l t.2)
 ·by_cases b:heapF l y=max (heapF l t.1) (heapF l t.2)
  ·exact ih' x y (a.trans b.symm)
  ·rw[hEs a,hEr b]at e';exact(hit x (.inl a)).trans (hit y (.inr e'.symm)).symm
 ·by_cases b:heapF l y=max (heapF l t.1) (heapF l t.2)
  ·rw[hEr a,hEs b]at e';exact(hit x (.inr e')).trans (hit y (.inl b)).symm
  ·rw[hEr a,hEr b]at e';exact ih' x y e'
theorem qUf{α:Type}[DecidableEq α]{R:List (List α)}(tw:Tw R){us:List (Nat×Nat)}(h1:∀u∈us,∃e∈ends R,u=(e.1,(farR R e).1))(h2:∀e∈ends R,(e.1,(farR R e).1)∈us):Lab R (heapF us):=by
 refine⟨λe he=>(qUe us _ (h2 e he)).symm,λi j hi hj q S hS si=>(qMp us S (λu hu=>?_) i j q).mp si⟩;obtain⟨e,he,rfl⟩:=h1 u hu;refine⟨hS e he,λs=>?_⟩;have:=hS _ (qAw tw he).1 s;rw[qEk tw he]at this;exact this
section
variable{net:List Tr}{ps:List Str}{R:List (List Str)}(G:Rnd net ps R)
noncomputable abbrev hmI(net:List Tr)(ps:List Str):Nat->Nat:=λi=>ps.idxOf (homF net (ps.getD i ""))
include G
theorem qI3{a:Str}{e:Ps}:e∈occ R a↔e∈ends R/\atR R e=some a:=by
 unfold occ;rw[hC0,hEv]
theorem qOr:(ends R).Perm (net.flatMap λt=>occ R t.1):=by
 refine(hBm (qAy R) ?_).mpr λe=>?_
 ·refine List.pairwise_flatMap.mpr ⟨λt _=>(qAy R).sublist hDm,?_⟩;have:=G.nd;rw[List.Nodup,hC3]at this;refine this.imp λ{a b} n x hx y hy q=>?_
  rw[<-q]at hy;have h1:=((qI3 G).mp hx).2;have h2:=((qI3 G).mp hy).2;rw[h1]at h2;exact n (hAh h2)
 ·rw[List.mem_flatMap];constructor
  ·intro he;obtain⟨t,ht,q⟩:=qIv G he;exact⟨t,ht,(qI3 G).mpr ⟨he,q⟩⟩
  ·rintro⟨t,_,h⟩;exact((qI3 G).mp h).1
theorem qKv{x:Str}(hx:x∈ps):homF net x∈ps:=(G.pts.2 _).mpr ((qR7 net).1 x ((G.pts.2 x).mp hx))
theorem qR5{x y:Str}(hx:x∈ps)(hy:y∈ps):(ps.idxOf x == ps.idxOf y)=decide (x=y):=by
 rw[hBq,hG6,hEv];constructor
 ·intro q;have a:=List.getElem_idxOf (hDn hx);have b:=List.getElem_idxOf (hDn hy);rw[<-a,<-b];congr 1
 ·intro q;rw[q]
theorem qVp{v:Str}(hv:v∈ps){e:Ps}(he:e∈ends R):pF (hmI net ps) (ps.idxOf v) e=decide (homF net (ptA ps e)=v):=by
 unfold pF;exact qR5 G (qKv G (qGw G (qAs he))) hv
theorem qVk{v:Str}(hv:v∈ps):cE (hmI net ps) (ps.idxOf v) R=2*net.countP λt=>decide (homF net t.2.1=v):=by
 have e1:cE (hmI net ps) (ps.idxOf v) R=(ends R).countP λe=>decide (homF net (ptA ps e)=v):=by
  unfold cE;exact hCa λe he=>by rw[qVp G hv he]
 rw[e1,(qOr G).countP_eq];have go:∀l:List Tr,(∀t∈l,t∈net)->(l.flatMap λt=>occ R t.1).countP (λe=>decide (homF net (ptA ps e)=v))=2*l.countP λt=>decide (homF net t.2.1=v):=by
  intro l
  induction l with
  |nil=>intro _;rfl
  |cons t l ih =>
   intro hl;have ht:=hl t hAb;rw[hDb,List.countP_append,ih λu hu=>hl u (hAe _ hu),hCu];have two:=(qI1 G ht).countP_eq λx=>decide (homF net x=v)
   rw[hE0]at two;have e2:(occ R t.1).countP (λe=>decide (homF net (ptA ps e)=v))=2*if decide (homF net t.2.1=v) then 1 else 0:=by
    refine Eq.trans two ?_;rw[hCu,hCu,List.countP_nil,<-qE6 net t ht];omega
   rw[e2];omega
 exact go net λt ht=>ht
theorem qZb{v:Str}(hv:v∈ps):cP (hmI net ps) (ps.idxOf v) R.length=ps.countP λx=>decide (homF net x=v):=by
 unfold cP;have e1:(List.range R.length).countP (λi=>hmI net ps i == ps.idxOf v)=((List.range R.length).map λi=>ps.getD i "").countP λx=>decide (homF net x=v):=by
  rw[hE0];exact hCa λi hi=>by
   have hi:=hAw.mp hi;show(hmI net ps i == ps.idxOf v)=true↔decide (homF net (ps.getD i "")=v)=true;rw[qR5 G (qKv G (qGw G hi)) hv]
 rw[e1];congr 1;refine List.ext_getElem (by simp[G.len]) λi h1 h2=>?_
 simp only[hEa,List.getElem_range];rw[hAa,hA8 h2,hDe]
theorem qSq{Fs:List (List Ps)}{xs:List Ps}(hF:IsF R Fs)(hx:Fs.map List.head?=xs.map some) :
  qYl R (hmI net ps) Fs↔∀t∈net,xs.countP (λe=>decide (homF net (ptA ps e)=homF net t.2.1))+ps.countP (λx=>decide (homF net x=homF net t.2.1))=net.countP (λu=>decide (homF net u.2.1=homF net t.2.1))+2:=by
 have xE:∀e∈xs,e∈ends R:=λe he=>by
  have:some e∈Fs.map List.head?:=by rw[hx];exact hAr he
  obtain⟨F,hFm,q⟩:=hAm.mp this;exact qB7 hF hFm (List.mem_of_mem_head? q)
 have key:∀v∈ps,(2*qDo (pF (hmI net ps) (ps.idxOf v)) Fs+2*cP (hmI net ps) (ps.idxOf v) R.length=cE (hmI net ps) (ps.idxOf v) R+4↔xs.countP (λe=>decide (homF net (ptA ps e)=v))+ps.countP (λx=>decide (homF net x=v))=net.countP (λu=>decide (homF net u.2.1=v))+2):=λv hv=>by
  have e1:qDo (pF (hmI net ps) (ps.idxOf v)) Fs=xs.countP λe=>decide (homF net (ptA ps e)=v):=by
   rw[qLe hF.cyc (λe he=>qT1 (qC2 G) (qIw G) _ e (hF.all.mem_iff.mp he)) hx];exact hCa λe he=>by rw[qVp G hv (xE e he)]
  rw[e1,qVk G hv,qZb G hv];omega
 constructor
 ·intro C t ht;have hp:t.2.1∈ps:=(G.pts.2 _).mpr ⟨t,ht,.inl rfl⟩;obtain⟨i,hi,q⟩:=hCx hp;have ei:ps.getD i ""=t.2.1:=by rw[hAa,hA8 hi,hDe,q]
  have c:=C i (by rw[G.len];exact hi);have e2:hmI net ps i=ps.idxOf (homF net t.2.1):=by
   show ps.idxOf (homF net (ps.getD i ""))=_;rw[ei]
  rw[e2]at c;exact(key _ (qKv G hp)).mp c
 ·intro C i hi;have hp:=qGw G hi;obtain⟨t,ht,q⟩:=(G.pts.2 _).mp hp;have e2:hmI net ps i=ps.idxOf (homF net t.2.1):=by
   show ps.idxOf (homF net (ps.getD i ""))=_;rcases q with q|q
   ·rw[q]
   ·rw[q,qE6 net t ht]
  rw[e2];exact(key _ (qKv G ((G.pts.2 _).mpr ⟨t,ht,.inl rfl⟩))).mpr (C t ht)
end
theorem qVu:∀ {l:List Tr},(l.map (·.1)).Nodup->∀ {a b:Tr},a∈l->b∈l->a.1=b.1->a=b
 |[],_,a,b,h,_,_=>by cases h
 |t :: l,nd,a,b,ha,hb,q=>by
  rw[hAn,hB7]at nd;rcases hAg.mp ha with e1|h1
  ·rcases hAg.mp hb with e2|h2
   ·rw[e1,e2]
   ·exact absurd (by rw[<-e1,q];exact hAr h2) nd.1
  ·rcases hAg.mp hb with e2|h2
   ·exact absurd (by rw[<-e2,<-q];exact hAr h1) nd.1
   ·exact qVu nd.2 h1 h2 q
section
variable{net:List Tr}{ps:List Str}{R:List (List Str)}(G:Rnd net ps R)
include G
theorem qN7{p:Str×List Str}(hp:p∈PCK (lbF net) net){t:Tr}(ht:t∈net):t.1∈p.2↔homF net t.2.1=p.1:=by
 rw[qHm (lbF net) net p hp,hAm];constructor
 ·rintro⟨u,hu,q⟩;obtain⟨h1,h2⟩:=hC0.mp hu;have e:u=t:=qVu G.nd h1 ht q;rw[<-e];exact hEz h2
 ·intro q;exact⟨t,hC0.mpr ⟨ht,hEt q⟩,rfl⟩
theorem qKc{p:Str×List Str}(hp:p∈PCK (lbF net) net):p.2.length=net.countP λu=>decide (homF net u.2.1=p.1):=by
 rw[qHm (lbF net) net p hp,hA4,hDh]
theorem qQ1{p:Str×List Str}(hp:p∈PCK (lbF net) net){qs:List Str}(hq:qGa (net.filter λt=>decide (t.1∈p.2)) qs):(∀x,x∈qs↔x∈ps/\homF net x=p.1)/\qs.length=ps.countP λx=>decide (homF net x=p.1):=by
 have m:∀x,x∈qs↔x∈ps/\homF net x=p.1:=λx=>by
  rw[hq.2];constructor
  ·rintro⟨t,ht,q⟩;obtain⟨h1,h2⟩:=hC0.mp ht;have h3:=(qN7 G hp h1).mp (hEz h2);refine⟨(G.pts.2 x).mpr ⟨t,h1,q⟩,?_⟩;rcases q with q|q
   ·rw[q];exact h3
   ·rw[q,<-qE6 net t h1];exact h3
  ·rintro⟨h1,h2⟩;obtain⟨t,ht,q⟩:=(G.pts.2 x).mp h1;refine⟨t,hC0.mpr ⟨ht,hEt ((qN7 G hp ht).mpr ?_)⟩,q⟩;rcases q with q|q
   ·rw[<-q];exact h2
   ·rw[qE6 net t ht,<-q];exact h2
 refine⟨m,?_⟩;rw[hDh];have pm:qs.Perm (ps.filter λx=>decide (homF net x=p.1)):=(hBm hq.1 (G.pts.1.sublist hDm)).mpr λx=>by
  rw[m,hC0,hEv]
 exact pm.length_eq
def qF2(net:List Tr)(ps:List Str)(xs:List Ps)(p:Str×List Str):Prop:=xs.countP (λe=>decide (homF net (ptA ps e)=p.1))+ps.countP (λx=>decide (homF net x=p.1))=p.2.length+2
theorem qM5{Fs:List (List Ps)}{xs:List Ps}(hF:IsF R Fs)(hx:Fs.map List.head?=xs.map some):qYl R (hmI net ps) Fs↔∀p∈PCK (lbF net) net,qF2 net ps xs p:=by
 rw[qSq G hF hx];constructor
 ·intro h p hp;obtain⟨t,ht,q⟩:=((qFg (lbF net) net).2 p.1).mp (hAr hp);have:=h t ht;unfold qF2;rw[qKc G hp,<-q];exact this
 ·intro h t ht;obtain⟨p,hp,q⟩:=hAm.mp (((qFg (lbF net) net).2 (lbF net t)).mpr ⟨t,ht,rfl⟩);have:=h p hp;unfold qF2 at this;rw[qKc G hp,q]at this;exact this
end
structure Gw(R:List (List Nat))(n:Nat):Prop where
 tw:Tw R
 flat:qLv R
 full:∀i<R.length,0<lenR R i
 ties:∀t,(∃e∈ends R,atR R e=some t)↔t<n
theorem Gw.fresh{R:List (List Nat)}{n:Nat}(G:Gw R n):qEm R n:=λe he q=>hBu _ ((G.ties n).mp ⟨e,he,q⟩)
theorem zAc:Gw [] 0:=⟨λe he=>(by cases he),qUm,λi hi=>(by cases hi),λt=>⟨λ⟨e,he,_⟩=>(by cases he),λh=>(by cases h)⟩⟩
theorem qU2{R:List (List Nat)}{r:List Nat}(i:Nat):lenR (R++[r]) i=if i<R.length then lenR R i else if i=R.length then r.length else 0:=by
 unfold lenR;rw[qFl];split
 ·rfl
 ·split <;> rfl
theorem qJe{R:List (List Nat)}{c:Ps}{t:Nat}(hc:c∈ends R)(h:∀i<R.length,0<lenR R i):∀i<(qEn R c t).length,0<lenR (qEn R c t) i:=λi hi=>by
 rw[qA9]at hi;have:=h i hi;rw[qG5 hc];split <;> omega
theorem qJt{R:List (List Nat)}{t:Nat}(h:∀i<R.length,0<lenR R i):∀i<(R++[[t]]).length,0<lenR (R++[[t]]) i:=λi hi=>by
 rw[hAk,hBf]at hi;rw[qU2];by_cases z:i<R.length
 ·rw[hEs z];exact h i z
 ·rw[hEr z,hEs (by omega)];exact Nat.zero_lt_one
theorem zAb{R:List (List Nat)}{n:Nat}{c:Ps}(G:Gw R n)(hc:c∈ends R):Gw (qEg R c n) (n+1):=by
 refine⟨qGy hc G.fresh G.tw,qUl hc G.fresh G.tw G.flat,qJt (qJe hc G.full),λt=>⟨?_,λh=>?_⟩⟩
 ·rintro⟨e,he,q⟩;rcases(qA4 hc).mp he with rfl|rfl|⟨e0,h0,rfl⟩
  ·rw[qHp hc]at q;have:=hAh q;omega
  ·rw[qIx hc]at q;have:=hAh q;omega
  ·rw[qCg hc h0]at q;have:=(G.ties t).mp ⟨e0,h0,q⟩;omega
 ·by_cases z:t=n
  ·rw[z];exact⟨c,(qA4 hc).mpr (.inl rfl),qHp hc⟩
  ·obtain⟨e,he,q⟩:=(G.ties t).mpr (by omega);exact⟨rho c e,(qA4 hc).mpr (.inr (.inr ⟨e,he,rfl⟩)),by rw[qCg hc he];exact q⟩
theorem zBs{R:List (List Nat)}{n:Nat}{a b:Ps}(G:Gw R n)(ha:a∈ends R)(hb:b∈ends R)(le:LeP b a){F0:List Ps}(cF:Cyc (onR R) F0)(mF:∀e∈F0,e∈ends R)(haF:a∈F0)(hbF:b∈F0):Gw (chR R a b n) (n+1):=by
 refine⟨qM7 ha hb le G.fresh G.tw,qX5 ha hb le G.fresh G.tw G.flat cF mF haF hbF,qJe (qS8 ha hb le) (qJe ha G.full),λt=>⟨?_,λh=>?_⟩⟩
 ·rintro⟨e,he,q⟩;rcases(qB0 ha hb le).mp he with rfl|rfl|⟨e0,h0,rfl⟩
  ·rw[qEc ha hb le]at q;have:=hAh q;omega
  ·rw[qFb ha hb le]at q;have:=hAh q;omega
  ·rw[qD0 ha hb le]at q;have:=(G.ties t).mp ⟨e0,h0,q⟩;omega
 ·by_cases z:t=n
  ·rw[z];exact⟨b,(qB0 ha hb le).mpr (.inl rfl),qEc ha hb le⟩
  ·obtain⟨e,he,q⟩:=(G.ties t).mpr (by omega);exact⟨r2 a b e,(qB0 ha hb le).mpr (.inr (.inr ⟨e,he,rfl⟩)),by rw[qD0 ha hb le];exact q⟩
theorem zAd{R:List (List Nat)}{n:Nat}(G:Gw R n):Gw (qEi R n) (n+1):=by
 refine⟨qOe G.fresh G.tw,qUn G.fresh G.tw G.flat,qJt (qJt G.full),λt=>⟨?_,λh=>?_⟩⟩
 ·rintro⟨e,he,q⟩;rcases qBq.mp he with h0|rfl|rfl
  ·rw[qDk h0]at q;have:=(G.ties t).mp ⟨e,h0,q⟩;omega
  ·rw[qKn]at q;have:=hAh q;omega
  ·rw[qMf]at q;have:=hAh q;omega
 ·by_cases z:t=n
  ·rw[z];exact⟨_,qBq.mpr (.inr (.inl rfl)),qKn⟩
  ·obtain⟨e,he,q⟩:=(G.ties t).mpr (by omega);exact⟨e,qBq.mpr (.inl he),by rw[qDk he];exact q⟩
theorem qEr(c:Nat->Nat)(j:Nat):∀n,((List.range n).map λi=>if i=j then c i else 0).sum=if j<n then c j else 0
 |0=>rfl
 |n+1=>by
  rw[hBv,hAf,List.sum_append,qEr c j n];show _+((if n=j then c n else 0)+0)=_;by_cases z:n=j
  ·subst z;rw[hEr (hBu _),hEs rfl,hEs (by omega)];omega
  ·rw[hEr z];by_cases w:j<n
   ·rw[hEs w,hEs (by omega)];rfl
   ·rw[hEr w,hEr (by omega)]
theorem qRl{α:Type}[DecidableEq α](R:List (List α))(a:α){j:Nat}(hj:j<R.length):((occ R a).map (·.1)).count j=(qAx R j).count a:=by
 rw[qRk];have:=qFx (λi=>i) (λi=>(qAx R i).count a) j R.length;rw[List.map_id']at this;rw[this,qEr,hEs hj]
theorem qCo{α:Type}[DecidableEq α]{R:List (List α)}{a:α}{e:Ps}:e∈occ R a↔e∈ends R/\atR R e=some a:=by
 unfold occ;rw[hC0,hEv]
theorem qWr{α:Type}[DecidableEq α]{R:List (List α)}{a:α}{i:Nat}:a∈qAx R i↔∃e∈ends R,e.1=i/\atR R e=some a:=by
 constructor
 ·intro h;obtain⟨j,hj,q⟩:=hCx h;exact⟨(i,j),qAn.mpr hj,rfl,by unfold atR;dsimp only;rw[hA8 hj,q]⟩
 ·rintro⟨e,he,rfl,q⟩;exact hAs q
theorem qDn{α β:Type}[DecidableEq α][DecidableEq β]{f:α->β}{a:α}:∀ {l:List α},(∀x∈l,f x=f a->x=a)->(l.map f).count (f a)=l.count a
 |[],_=>rfl
 |x :: l,h=>by
  rw[hAn,hDz,hDz,qDn λy hy=>h y (hAe _ hy)];congr 1;by_cases z:x=a
  ·rw[z];simp
  ·have w:¬f x=f a:=λq=>z (h x hAb q)
   simp[z,w]
section
variable{R:List (List Nat)}{n:Nat}{spot nm:Nat->Str}{lo hi:Nat->Str}{ts:List Nat}{net:List Tr}
structure Told(R:List (List Nat))(n:Nat)(spot nm lo hi:Nat->Str)(ts:List Nat)(net:List Tr):Prop where
 gw:Gw R n
 si:∀i<R.length,∀j<R.length,spot i=spot j->i=j
 ni:∀i<n,∀j<n,nm i=nm j->i=j
 nd:ts.Nodup
 all:∀t,t∈ts↔t<n
 net:net.Perm (ts.map λt=>(nm t,lo t,hi t))
 two:∀t<n,[lo t,hi t].Perm ((occ R t).map λe=>spot e.1)
variable(T:Told R n spot nm lo hi ts net)
include T
theorem Told.names:(net.map (·.1)).Nodup:=by
 have p:=T.net.map (·.1);rw[hBi]at p;rw[p.nodup_iff,List.Nodup,hC3];exact hCh (λha hb h q=>h (T.ni _ ((T.all _).mp ha) _ ((T.all _).mp hb) q)) T.nd
theorem Told.mem{u:Tr}:u∈net↔∃t<n,u=(nm t,lo t,hi t):=by
 rw[T.net.mem_iff,hAm];exact⟨λ⟨t,ht,q⟩=>⟨t,(T.all t).mp ht,q.symm⟩,λ⟨t,ht,q⟩=>⟨t,(T.all t).mpr ht,q.symm⟩⟩
theorem Told.rowlt{i t:Nat}(h:t∈qAx R i):t<n:=by
 obtain⟨e,he,_,q⟩:=qWr.mp h;exact(T.gw.ties t).mp ⟨e,he,q⟩
theorem Told.star{j:Nat}(hj:j<R.length):((qAx R j).map nm).Perm (starF net (spot j)):=by
 refine hEn.mpr λa=>?_
 by_cases h:∃t<n,nm t=a
 ·obtain⟨t,ht,rfl⟩:=h;rw[qDn λx hx q=>T.ni x (T.rowlt hx) t ht q];have:=qFk T.names (T.mem.mpr ⟨t,ht,rfl⟩) (spot j);dsimp only at this;rw[this,<-qRl R t hj];have p:=(T.two t ht).count_eq (spot j);have e:((occ R t).map λe=>spot e.1)=((occ R t).map (·.1)).map spot:=by rw[hBi];rfl
  rw[e,qDn λx hx q=>T.si x (by
   obtain⟨e,he,rfl⟩:=hAm.mp hx;exact qAs (qCo.mp he).1) j hj q]at p
  rw[<-p];simp only[hDz,List.count_nil,hG6];omega
 ·have z1:((qAx R j).map nm).count a=0:=by
   rw[List.count_eq_zero];intro q;obtain⟨t,ht,q⟩:=hAm.mp q;exact h ⟨t,T.rowlt ht,q⟩
  have z2:(starF net (spot j)).count a=0:=by
   rw[List.count_eq_zero];intro q;obtain⟨u,hu,q,_⟩:=qEs q;obtain⟨t,ht,rfl⟩:=T.mem.mp hu;exact h ⟨t,ht,q⟩
  rw[z1,z2]
theorem Told.pt{x:Str}:qH9 net x↔∃i<R.length,spot i=x:=by
 constructor
 ·rintro⟨u,hu,q⟩;obtain⟨t,ht,rfl⟩:=T.mem.mp hu;have m:x∈[lo t,hi t]:=by
   rcases q with q|q
   ·rw[q];exact hAb
   ·rw[q];simp
  obtain⟨e,he,q⟩:=hAm.mp ((T.two t ht).mem_iff.mp m);exact⟨e.1,qAs (qCo.mp he).1,q⟩
 ·rintro⟨i,hi',rfl⟩;have f:=T.gw.full i hi';obtain⟨t,q⟩:=qCw.mp (qAn.mpr (show(i,0).2<lenR R (i,0).1 from f));have me:((i,0):Ps)∈ends R:=qAn.mpr f;have ht:=(T.gw.ties t).mp ⟨(i,0),me,q⟩;have m:spot i∈[lo t,hi t]:=(T.two t ht).mem_iff.mpr (hAm.mpr ⟨(i,0),qCo.mpr ⟨me,q⟩,rfl⟩);refine⟨_,T.mem.mpr ⟨t,ht,rfl⟩,?_⟩;rcases hAg.mp m with w|w
  ·exact .inl w
  ·exact .inr (hAd.mp w)
theorem Told.rnd{ps:List Str}{Q:List (List Str)}{k:Nat->Nat}(hps:ps.Nodup)(len:Q.length=ps.length)(np:ps.length=R.length)
  (row:∀i<ps.length,∃j<R.length,ps.getD i ""=spot j/\qAx Q i=((qAx R j).drop (k j)++(qAx R j).take (k j)).map nm):Rnd net ps Q:=by
 have sub:∀x∈ps,x∈(List.range R.length).map spot:=λx hx=>by
  obtain⟨i,hi,q⟩:=hCx hx;obtain⟨j,hj,e,_⟩:=row i hi;rw[hAa,hA8 hi,hDe,q]at e;exact hAm.mpr ⟨j,hAw.mpr hj,e.symm⟩
 have all:∀x,x∈ps↔x∈(List.range R.length).map spot:=λx=>by
  refine⟨sub x,λhx=>?_⟩;by_cases z:x∈ps
  ·exact z
  ·exfalso;have h1:(x :: ps).Nodup:=hB7.mpr ⟨z,hps⟩;have h2:=hBe h1 λy hy=>(by
    rcases hAg.mp hy with rfl|hy
    ·exact hx
    ·exact sub y hy:y∈(List.range R.length).map spot)
   rw[hBg,hA4,hB1]at h2;omega
 refine⟨T.names,⟨hps,λx=>?_⟩,len,λi hi=>?_⟩
 ·rw[all,T.pt,hAm];exact⟨λ⟨j,hj,q⟩=>⟨j,hAw.mp hj,q⟩,λ⟨j,hj,q⟩=>⟨j,hAw.mpr hj,q⟩⟩
 ·obtain⟨j,hj,e,w⟩:=row i (by rw[<-len];exact hi);rw[w,e];refine List.Perm.trans ?_ (T.star hj);refine List.Perm.map _ ?_;refine List.perm_append_comm.trans ?_;rw[hDr]
end
noncomputable def qCu(R:List (List Nat))(k:Nat->Nat)(j:Nat):List Nat:=(qAx R j).drop (k j)++(qAx R j).take (k j)
theorem qEb{γ:Type}(f:Nat->γ)(d:γ){n i:Nat}(h:i<n):((List.range n).map f).getD i d=f i:=by
 rw[hAa,hAc,hCb h];rfl
section
variable{R:List (List Nat)}{n:Nat}{spot nm:Nat->Str}{lo hi:Nat->Str}{ts:List Nat}{net:List Tr}
variable(T:Told R n spot nm lo hi ts net)
include T
theorem Told.flat{k:Nat->Nat}(hk:∀i<R.length,k i<=lenR R i){Q:List (List Str)}(p:Q.Perm ((List.range R.length).map λj=>(qCu R k j).map nm)):qLv Q:=by
 have l1:((List.range R.length).map (qCu R k)).length=R.length:=by simp
 have I1:=qXw (R:=R) (R':=(List.range R.length).map (qCu R k)) l1 hk λi hi=>by
  unfold qAx;rw[qEb _ _ hi];rfl
 have t1:=I1.tw T.gw.tw;have f1:=I1.flat T.gw.tw T.gw.flat;have lt:∀e∈ends ((List.range R.length).map (qCu R k)),∃t<n,atR ((List.range R.length).map (qCu R k)) e=some t:=λe he=>by
  obtain⟨t,q⟩:=qCw.mp he;refine⟨t,?_,q⟩;have hi:e.1<R.length:=by rw[<-l1];exact qAs he
  have m:t∈qAx ((List.range R.length).map (qCu R k)) e.1:=hAs q;unfold qAx at m;rw[qEb _ _ hi]at m;unfold qCu at m;refine T.rowlt (i:=e.1) ?_;rcases hAp.mp m with z|z
  ·exact hEl z
  ·exact hDf z
 have I2:=qRy (R:=(List.range R.length).map (qCu R k)) (f:=nm) λe he u hu q=>by
  obtain⟨a,ha,qa⟩:=lt e he;obtain⟨b,hb,qb⟩:=lt u hu;rw[qa,qb]at q ⊢;rw[T.ni a ha b hb (hAh q)]
 have t2:=I2.tw t1;have f2:=I2.flat t1 f1;obtain⟨φ,π,ψ,I3⟩:=qT9 (R:=((List.range R.length).map (qCu R k)).map (List.map nm)) (R':=Q) (by
  rw[hBi];exact p.symm)
 exact I3.flat t2 f2
theorem Told.told{k:Nat->Nat}(hk:∀i<R.length,k i<=lenR R i){L:List (Str×List Str)}(p:L.Perm ((List.range R.length).map λj=>(spot j,(qCu R k j).map nm))) :
  Rnd net (L.map (·.1)) (L.map (·.2))/\qLv (L.map (·.2)):=by
 have p1:=p.map (·.1);have p2:=p.map (·.2);rw[hBi]at p1 p2;refine⟨T.rnd (k:=k) ?_ (by simp) (by rw[hA4,p.length_eq];simp) λi hi=>?_,T.flat hk p2⟩
 ·rw[p1.nodup_iff,List.Nodup,hC3];exact hCh (λha hb h q=>h (T.si _ (hAw.mp ha) _ (hAw.mp hb) q)) hCt
 ·rw[hA4]at hi;have m:L[i]∈(List.range R.length).map λj=>(spot j,(qCu R k j).map nm):=p.mem_iff.mp (hBy hi)
  obtain⟨j,hj,q⟩:=hAm.mp m;refine⟨j,hAw.mp hj,?_,?_⟩
  ·rw[hAa,hAc,hA8 hi,<-q];rfl
  ·unfold qAx;rw[hAa,hAc,hA8 hi,<-q];rfl
end
section
variable{κ β:Type}[DecidableEq κ]
noncomputable def qG7(P:List (κ×List β))(u:κ×β):List (κ×List β):=if u.1∈P.map (·.1) then P.map (λp=>if p.1=u.1 then (p.1,p.2++[u.2]) else p) else P++[(u.1,[u.2])]
noncomputable def grp(l:List (κ×β)):List (κ×List β):=l.foldl qG7 []
theorem qE7(l:List (κ×β))(u:κ×β):grp (l++[u])=qG7 (grp l) u:=by unfold grp;rw[List.foldl_append];rfl
theorem qL8{γ:Type}{P:List γ->Prop}(h0:P [])(h1:∀l x,P l->P (l++[x]))(l:List γ):P l:=by
 have:∀n,∀l:List γ,l.length=n->P l:=λn=>by
  induction n with
  |zero=>intro l hl;rw[hD2.mp hl];exact h0
  |succ n ih =>
   intro l hl;have ne:l≠[]:=λz=>by rw[z]at hl;cases hl
   rw[<-List.dropLast_concat_getLast ne];exact h1 _ _ (ih _ (by rw[List.length_dropLast];omega))
 exact this l.length l rfl
theorem qPi(P:List (κ×List β))(u:κ×β):(qG7 P u).map (·.1)=if u.1∈P.map (·.1) then P.map (·.1) else P.map (·.1)++[u.1]:=by
 unfold qG7;split
 ·rw[hBi];refine hC9 λp _=>?_
  show(if p.1=u.1 then (p.1,p.2++[u.2]) else p).1=p.1;split <;> rfl
 ·rw[hAf];rfl
theorem qCi(l:List (κ×β)):((grp l).map (·.1)).Nodup/\∀x,x∈(grp l).map (·.1)↔∃u∈l,u.1=x:=by
 refine qL8 (P:=λl=>((grp l).map (·.1)).Nodup/\∀x,x∈(grp l).map (·.1)↔∃u∈l,u.1=x) ⟨hCf,λx=>by simp[grp]⟩ (λl u ih=>?_) l;obtain⟨h1,h2⟩:=ih;rw[qE7,qPi];have key:∀x,(∃v∈l++[u],v.1=x)↔(∃v∈l,v.1=x)\/u.1=x:=λx=>by
  constructor
  ·rintro⟨v,hv,q⟩;rcases hAp.mp hv with z|z
   ·exact .inl ⟨v,z,q⟩
   ·rw[hAd.mp z]at q;exact .inr q
  ·rintro(⟨v,hv,q⟩|q)
   ·exact⟨v,hAx _ hv,q⟩
   ·exact⟨u,by simp,q⟩
 split
 ·rename_i m;refine⟨h1,λx=>?_⟩;rw[key,h2];constructor
  ·exact .inl
  ·rintro(z|z)
   ·exact z
   ·rw[<-z];exact(h2 _).mp m
 ·rename_i m;refine⟨?_,λx=>?_⟩
  ·rw[hB6];refine⟨h1,by simp,λa ha b hb q=>?_⟩;rw[q,hAd.mp hb]at ha;exact m ha
  ·rw[key,hAp,h2,hAd];exact or_congr Iff.rfl eq_comm
theorem qFw(l:List (κ×β)):∀p∈grp l,p.2=(l.filter λu=>decide (u.1=p.1)).map (·.2):=by
 refine qL8 (P:=λl=>∀p∈grp l,p.2=(l.filter λu=>decide (u.1=p.1)).map (·.2)) (λp hp=>by cases hp) (λl u ih=>?_) l;intro p hp;rw[qE7]at hp;rw[hBk,hAf];unfold qG7 at hp;split at hp
 ·obtain⟨q,hq,e⟩:=hAm.mp hp;have v:=ih q hq;by_cases z:q.1=u.1
  ·rw[hEs z]at e;rw[<-e];dsimp only;rw[v,hCd,hEs (by rw[z];simp)];rfl
  ·rw[hEr z]at e;rw[<-e,v,hCd,hEr (by simpa using Ne.symm z)];simp
 ·rename_i m;rcases hAp.mp hp with h|h
  ·have v:=ih p h;have z:¬u.1=p.1:=λz=>m (by rw[z];exact hAr h)
   rw[v,hCd,hEr (by simpa using z)];simp
  ·rw[hAd.mp h];have e:(l.filter λv=>decide (v.1=u.1))=[]:=by
    rw[hEd];intro v hv q;exact m (((qCi l).2 _).mpr ⟨v,hv,hEz q⟩)
   dsimp only;rw[e,hCd,hEs (by simp)];rfl
end
noncomputable def scan(R:List (List Str)):List (Str×Ps):=(ends R).map λe=>((atR R e).getD "",e)
theorem qTk(R:List (List Str))(a:Str):((scan R).filter λu=>decide (u.1=a)).map (·.2)=occ R a:=by
 unfold scan occ;rw[List.filter_map,hBi];refine(hC9 (g:=id) λe _=>rfl).trans ?_;rw[List.map_id];refine hEk λe he=>?_
 obtain⟨t,q⟩:=qCw.mp he;show decide ((atR R e).getD ""=a)=_;rw[q];simp
theorem qNu{R:List (List Str)}:(∀p∈grp (scan R),p.2=occ R p.1)/\((grp (scan R)).map (·.1)).Nodup/\∀x,x∈(grp (scan R)).map (·.1)↔∃e∈ends R,atR R e=some x:=by
 refine⟨λp hp=>(qFw _ p hp).trans (qTk R p.1),(qCi _).1,λx=>?_⟩;rw[(qCi _).2];constructor
 ·rintro⟨u,hu,q⟩;obtain⟨e,he,rfl⟩:=hAm.mp hu;obtain⟨t,w⟩:=qCw.mp he;exact⟨e,he,by rw[w]at q ⊢;rw[<-q];rfl⟩
 ·rintro⟨e,he,q⟩;exact⟨_,hAr he,by dsimp only;rw[q];rfl⟩
theorem qMs{net:List Tr}{ps:List Str}{R:List (List Str)}(G:Rnd net ps R):∀p∈grp (scan R),∃e∈ends R,p.2=[e,farR R e]:=λp hp=>by
 obtain⟨h1,_,h3⟩:=qNu (R:=R);have v:=h1 p hp;obtain⟨e0,he0,q0⟩:=(h3 p.1).mp (hAr hp);obtain⟨t,ht,q⟩:=qIv G he0;have et:t.1=p.1:=hAh (q.symm.trans q0);have two:=(qI1 G ht).length_eq;rw[hA4,et]at two
 match hm:occ R p.1,two with
 |[a,b],_ =>
  have nd:(occ R p.1).Nodup:=(qAy R).sublist hDm;have ma:a∈occ R p.1:=by rw[hm];exact hAb
  have mb:b∈occ R p.1:=by rw[hm];simp
  rw[hm]at nd;have n:b≠a:=by
   rw[hB7]at nd;exact λz=>nd.1 (by rw[<-z];exact hAb)
  have a1:=qCo.mp ma;have b1:=qCo.mp mb;refine⟨a,a1.1,?_⟩;rw[v,hm,qBv (qC2 G) a1.1 b1.1 n (by rw[a1.2,b1.2])]
section
variable{net:List Tr}{ps:List Str}{R:List (List Str)}(G:Rnd net ps R)
noncomputable def onK(R:List (List Str)):List Ps:=(grp (scan R)).flatMap (·.2)
theorem qC0:(onK R).Perm (ends R):=by
 obtain⟨h1,h2,h3⟩:=qNu (R:=R);refine(hBm ?_ (qAy R)).mpr λe=>?_
 ·refine List.pairwise_flatMap.mpr ⟨λp hp=>by rw[h1 p hp];exact(qAy R).sublist hDm,?_⟩;rw[List.Nodup,hC3]at h2;refine hCh (λ{p q} hp hq n x hx y hy z=>?_) h2;rw[h1 p hp]at hx;rw[h1 q hq,<-z]at hy;have a:=(qCo.mp hx).2;rw[(qCo.mp hy).2]at a;exact n (hAh a).symm
 ·unfold onK;rw[List.mem_flatMap];constructor
  ·rintro⟨p,hp,he⟩;rw[h1 p hp]at he;exact(qCo.mp he).1
  ·intro he;obtain⟨t,q⟩:=qCw.mp he;obtain⟨p,hp,e⟩:=hAm.mp ((h3 t).mpr ⟨e,he,q⟩);exact⟨p,hp,by rw[h1 p hp,e];exact qCo.mpr ⟨he,q⟩⟩
noncomputable def onL(R:List (List Str)):List (Ps×Ps):=(onK R).map λe=>(e,onR R e)
include G
theorem qW9:onL R=(grp (scan R)).flatMap λp=>match p.2 with
  |[a,b]=>[(a,nxR R b),(b,nxR R a)]
  |_=>[]:=by
 have go:∀l:List (Str×List Ps),(∀p∈l,∃e∈ends R,p.2=[e,farR R e])->((l.flatMap (·.2)).map λe=>(e,onR R e))=l.flatMap λp=>match p.2 with
  |[a,b]=>[(a,nxR R b),(b,nxR R a)]
  |_=>[]:=by
  intro l
  induction l with
  |nil=>intro _;rfl
  |cons p l ih =>
   intro h;obtain⟨e,he,q⟩:=h p hAb;rw[hDb,hDb,hAf,ih λp hp=>h p (hAe _ hp),q];congr 1;show [(e,onR R e),(farR R e,onR R (farR R e))]=[(e,nxR R (farR R e)),(farR R e,nxR R e)];unfold onR;rw[qEk (qC2 G) he]
 exact go _ (qMs G)
structure StF(R:List (List Str))(xs:List Ps)(Fs:List (List Ps))(done:List Ps):Prop where
 dn:Dn (onR R) (ends R) Fs
 hd:Fs.map List.head?=xs.map some
 cov:∀e∈done,e∈Fs.flatten
theorem qYy:StF R [] [] []:=⟨⟨λF h=>(by cases h),λe h=>(by cases h),hCf⟩,rfl,λe h=>(by cases h)⟩
theorem qYx{xs:List Ps}{Fs:List (List Ps)}{done:List Ps}(S:StF R xs Fs done){x:Ps}(hx:x∈Fs.flatten):StF R xs Fs (done++[x]) :=
 ⟨S.dn,S.hd,λe he=>by
  rcases hAp.mp he with h|h
  ·exact S.cov e h
  ·rw[hAd.mp h];exact hx⟩
theorem qYz{xs:List Ps}{Fs:List (List Ps)}{done:List Ps}(S:StF R xs Fs done){x y:Ps}{l:List Ps}(w:Wk (onR R) (ends R) Fs.flatten x l y)(h:y∈Fs.flatten\/y∈x :: l):StF R (xs++[x]) (Fs++[x :: l]) (done++[x]):=by
 have tw:=qC2 G;have e:y=x:=w.close (λa ha b hb q=>qRe tw ha hb q) (S.dn.bk λa ha b hb q=>qRe tw ha hb q) h;subst e;refine⟨S.dn.more w,?_,λe he=>?_⟩
 ·rw[hAf,hAf,S.hd];rfl
 ·rw[hE7];rcases hAp.mp he with h|h
  ·exact hAx _ (S.cov e h)
  ·rw[hAd.mp h];exact hAq _ (by simp)
theorem qY0{xs:List Ps}{Fs:List (List Ps)}{done:List Ps}(S:StF R xs Fs done)(all:∀e∈ends R,e∈done):IsF R Fs:=S.dn.isF λe he=>S.cov e (all e he)
end
theorem Paired.snc{α β:Type}{F:α->β->Prop}{a:α}{b:β}:∀ {l:List α} {m:List β},Paired F l m->F a b->Paired F (l++[a]) (m++[b])
 |_,_,.nil,h=>.cons h .nil
 |_,_,.cons x t,h=>.cons x (Paired.snc t h)
def qF4(H:Hp)(p:Addr)(L:List (Str×List Str)):Prop:=∃as:List Addr,H p=some (.lst (as.map V.ref))/\Paired (λa l=>∃r,H a=some (.tup [.str l.1,.ref r])/\LsS H r l.2) as L
def qBn(ps:List Str)(H:Hp)(b:Addr)(e:Ps):Prop:=H b=some (.tup [.str (ptA ps e),.int (e.2:Nat)])
def PE(ps:List Str)(H0 H:Hp)(kvs:List (Key×V))(P:List (Str×List Ps)):Prop:=Paired (λkv p=>kv.1=Sum.inr p.1/\∃(a:Addr) (bs:List Addr),kv.2=V.ref a/\H a=some (.lst (bs.map V.ref))/\Paired (qBn ps H) bs p.2/\H0 a=Option.none) kvs P
theorem qBn.ext{ps:List Str}{H H':Hp}{b:Addr}{e:Ps}(h:qBn ps H b e)(x:Ext H H'):qBn ps H' b e:=x _ _ h
theorem PE.ext{ps:List Str}{H0 H H':Hp}{kvs:List (Key×V)}{P:List (Str×List Ps)}(h:PE ps H0 H kvs P)(e:Ext H H'):PE ps H0 H' kvs P:=Paired.mapP h λ_ _ ⟨h1,a,bs,h2,h3,h4,h5⟩=>⟨h1,a,bs,h2,e _ _ h3,Paired.mapP h4 λ_ _ z=>z.ext e,h5⟩
theorem PE.set{ps:List Str}{H0 H:Hp}{d:Addr}{kvs:List (Key×V)}{P:List (Str×List Ps)}(h:PE ps H0 H kvs P){kvs':List (Key×V)}(hd:H d=some (.dK kvs'))(o:HO):PE ps H0 (upd H d o) kvs P:=Paired.mapP h λ_ _ ⟨h1,a,bs,h2,h3,h4,h5⟩=>⟨h1,a,bs,h2,by
 have ne:a≠d:=λz=>by rw[z,hd]at h3;cases h3
 rw[qAb ne];exact h3,Paired.mapP h4 λb e z=>by
 have ne:b≠d:=λw=>by unfold qBn at z;rw[w,hd]at z;cases z
 unfold qBn;rw[qAb ne];exact z,h5⟩
theorem PE.none{ps:List Str}{H0 H:Hp}:∀ {kvs:List (Key×V)} {P:List (Str×List Ps)} {x:Str},PE ps H0 H kvs P->x∉P.map (·.1)->valV kvs (Sum.inr x)=Option.none
 |_,_,_,.nil,_=>rfl
 |_,_,_,.cons h t,nx=>by
  rw[hAn]at nx;have n1:=λz=>nx (hAg.mpr (.inl z))
  rw[qAz (λz=>n1 (Sum.inr.inj (h.1▸z)).symm)];exact PE.none t λz=>nx (hAe _ z)
theorem PE.some{ps:List Str}{H0 H:Hp}:∀ {kvs:List (Key×V)} {P:List (Str×List Ps)} {x:Str},PE ps H0 H kvs P->x∈P.map (·.1)->∃p∈P,p.1=x/\∃(a:Addr) (bs:List Addr),valV kvs (Sum.inr x)=Option.some (.ref a)/\H a=some (.lst (bs.map V.ref))/\Paired (qBn ps H) bs p.2
 |_,_,_,.nil,m=>by cases m
 |_,_,x,@Paired.cons _ _ _ kv p _ _ h t,m=>by
  obtain⟨h1,a,bs,h2,h3,h4,_⟩:=h;by_cases e:p.1=x
  ·exact⟨p,hAb,e,a,bs,by rw[qBc (by rw[h1,e]),h2],h3,h4⟩
  ·rw[hAn]at m;rcases hAg.mp m with z|z
   ·exact absurd z.symm e
   ·obtain⟨p',hp',e',a',bs',v,l⟩:=PE.some t z;exact⟨p',hAe _ hp',e',a',bs',by rw[qAz (λz=>e (Sum.inr.inj (h1▸z)))];exact v,l⟩
theorem PE.put{ps:List Str}{H0 H:Hp}{x:Str}{u:Ps}{a b:Addr}{bs:List Addr}{old:List Ps}(la:H a=Option.some (HO.lst ((bs++[b]).map V.ref)))(lp:Paired (qBn ps H) bs old)(lb:qBn ps H b u)(la0:H0 a=Option.none):∀ {kvs:List (Key×V)} {P:List (Str×List Ps)},PE ps H0 H kvs P->(P.map (·.1)).Nodup->(∀p∈P,p.1=x->p.2=old)->PE ps H0 H (kvs.map λkv=>if kv.1=Sum.inr x then (kv.1,V.ref a) else kv) (P.map λp=>if p.1=x then (p.1,p.2++[u]) else p)
 |_,_,.nil,_,_=>.nil
 |_,_,@Paired.cons _ _ _ kv p _ _ h t,nd,ho=>by
  rw[hAn,hAn];refine .cons ?_ (PE.put la lp lb la0 t (hB7.mp nd).2 λp hp=>ho p (hAe _ hp));obtain⟨h1,b',bs',h2,h3,h4,h5⟩:=h;by_cases e:p.1=x
  ·have e':kv.1=Sum.inr x:=by rw[h1,e]
   rw[hEs e,hEs e'];refine⟨h1,a,bs++[b],rfl,la,?_,la0⟩;dsimp only;rw[ho p hAb e];exact Paired.snc lp lb
  ·have e':kv.1≠Sum.inr x:=by rw[h1];exact λz=>e (Sum.inr.inj z)
   rw[hEr e,hEr e'];exact⟨h1,b',bs',h2,h3,h4,h5⟩
theorem qK0{n:Nat}{Ls:Hp->Prop}{xv:Nat->List V}{g:TG}{tb:TS}{D:Ends}{σ:St}{H:Hp}(Pv:Nat->St->Hp->Prop)(h0:Pv 0 σ H)(hl:∀i σ H,i<=n->Pv i σ H->Ls H)
  (hs:∀i σ H T,i<n->Pv i σ H->H T=none->g (.ref T) σ (upd H T (.tup (xv i))) λσ2 H2=>tb { D with nx:=Pv (i+1),ct:=Pv (i+1),bk:=D.nx } σ2 H2) (hd:∀σ H,Pv n σ H->D.nx σ H) :
  ∃W:Nat->Nat->St->Hp->Prop,(∃m,W 0 m σ H)/\∀i m σ H,W i m σ H ->
   ((Itp n Ls xv).stop i H/\D.nx σ H)\/((Itp n Ls xv).go i H/\∃N:St->Hp->Prop,(∀σ' H',N σ' H'->∃m',m'<m/\W (i+1) m' σ' H')/\∀x H',(Itp n Ls xv).yld i H x H'->g x σ H' λσ2 H2=>tb { D with nx:=N,ct:=N,bk:=D.nx } σ2 H2):=by
 refine⟨λi m σ H=>m=n-i/\i<=n/\Pv i σ H,⟨n,by simp,hAy _,h0⟩,?_⟩;rintro i m σ H ⟨rfl,hi,p⟩;have q:=hl i σ H hi p;by_cases hlt:i<n
 ·refine .inr ⟨⟨q,hlt⟩,Pv (i+1),λσ' H' p'=>⟨n-(i+1),by omega,rfl,hlt,p'⟩,λx H' y=>?_⟩;obtain⟨T,e1,e2,e3⟩:=y;subst e2 e3;exact hs i σ H T hlt p e1
 ·have e:i=n:=by omega
  subst e;exact .inl ⟨⟨q,rfl⟩,hd σ H p⟩
noncomputable def rowS(R:List (List Str))(i k:Nat):List (Str×Ps):=(List.range k).map λj=>((atR R (i,j)).getD "",(i,j))
noncomputable def scP(R:List (List Str))(n:Nat):List (Str×Ps):=(List.range n).flatMap λi=>rowS R i (lenR R i)
theorem qTl(R:List (List Str)):scan R=scP R R.length:=by
 unfold scan scP ends rowS;rw[List.map_flatMap];congr 1
 funext i
 rw[hBi];rfl
theorem qNv(R:List (List Str))(n:Nat):scP R (n+1)=scP R n++rowS R n (lenR R n):=by
 unfold scP;rw[hBv,hCi];simp
theorem qQk(R:List (List Str))(i k:Nat):rowS R i (k+1)=rowS R i k++[((atR R (i,k)).getD "",(i,k))]:=by
 unfold rowS;rw[hBv,hAf];rfl
theorem qNy(R:List (List Str))(i k:Nat):(rowS R i k).length=k:=by unfold rowS;simp
theorem qQf{R:List (List Str)}(h:∀i<R.length,lenR R i<=24):∀n,n<=R.length->(scP R n).length<=24*n
 |0,_=>hAj _
 |n+1,hn=>by
  have:=qQf h n (by omega);have:=h n (by omega);rw[qNv,hAk,qNy];omega
theorem qUi{κ β:Type}[DecidableEq κ](P:List (κ×List β))(u:κ×β):(qG7 P u).length<=P.length+1:=by
 unfold qG7;split
 ·rw[hA4];omega
 ·rw[hAk];exact hAj _
theorem qR9{κ β:Type}[DecidableEq κ](l:List (κ×β)):(grp l).length<=l.length:=by
 refine qL8 (P:=λl=>(grp l).length<=l.length) (hAj _) (λl u ih=>?_) l;have:=qUi (grp l) u;rw[qE7,hAk,hBf];omega
theorem qKx{κ β:Type}[DecidableEq κ](l:List (κ×β)):∀p∈grp l,p.2.length<=l.length:=λp hp=>by
 rw[qFw l p hp,hA4];exact hBj _ _
def qU8:Sp:=λvs H Q _=>∃(p:Addr) (L:List (Str×List Str)),vs=[.ref p]/\qF4 H p L/\L.length<=24/\(∀l∈L,l.2.length<=24)/\∀(r:Addr) (H':Hp) (kvs:List (Key×V)),Ext H H'->H r=none->H' r=some (.dK kvs)->PE (L.map (·.1)) H H' kvs (grp (scan (L.map (·.2))))->Q (.ref r) H'
section
variable{P:Program}{w:World}{K:PySem.W.Frag}{mg:Str->Option Value}{base:Heap}{f f1 f2 f3:Addr}{fd fd1 fd2 fd3:FuncData}
noncomputable abbrev teN:List Str:=["lists","told","point","ties","place","tie"]
theorem qHz:FnScope teN ["lists"] (qAc qWm):=fsk
theorem qXc(F:Fun K "tie_ends" "tie_ends" qWm f fd)(me:mg "enumerate"=none):FnOk P w K mg base CX0 1 f fd ["lists"] qU8:=by
 refine F.okA qHz λcdv A outer s H vs Q E hr h=>?_
 obtain⟨p,L,rfl,⟨as,hp,pr⟩,lt,lr,q⟩:=h;have las:=pr.length;refine⟨_,qAa (qAr (i:=1) qHz.nd rfl (Or.inl rfl) qEy)
  (qAa (qB3 PassesOwn.never rfl (qA1 (pv 0)) (qBt rfl (qAg (qAf (i:=2) qHz.nd rfl (Or.inl rfl)) (qAg (qAf (i:=3) qHz.nd rfl (Or.inl rfl)) qA3)))
   (qAi (qB3 PassesOwn.never rfl (qW2 rfl me (pa1 (pv 3))) (qBt rfl (qAg (qAf (i:=4) qHz.nd rfl (Or.inl rfl)) (qAg (qAf (i:=5) qHz.nd rfl (Or.inl rfl)) qA3)))
    (qAi (qDi (qCh hr) (pv 1) (pv 5) (qA5 qE1 (qGd (qCh hr) (pv 1) (pv 5) (qBo qC3) ⟨rfl,rfl,rfl,rfl⟩) (qBo (pa1 (qB4 (qAe (pv 2) (pa1 (pv 4))))))) rfl)))))
  (qAi (qA2 (pv 1)))),?_⟩
 intro d hd;have n0:=Ext.new hd (.dK []);refine⟨_,rfl,p,rfl,⟨_,SqL.of (n0 _ _ hp)⟩,?_⟩;have lA:as.length=L.length:=las;have lR:(L.map (·.2)).length=L.length:=hA4 _;have rw_:∀i (h:i<L.length),qAx (L.map (·.2)) i=(L[i]).2:=λi h=>by
  unfold qAx;rw[hAa,hAc,hA8 h];rfl
 have b24:∀i<(L.map (·.2)).length,lenR (L.map (·.2)) i<=24:=λi hi=>by
  rw[lR]at hi;unfold lenR;rw[rw_ i hi];exact lr _ (hBy hi)
 refine qC6 (xs:=as.map V.ref) (λi σ H3=>∃(x2 x3 x4 x5:Option V) (kvs:List (Key×V)),σ=[some (.ref p),some (.ref d),x2,x3,x4,x5]/\Ext H H3/\H3 d=some (.dK kvs)/\PE (L.map (·.1)) H H3 kvs (grp (scP (L.map (·.2)) i)))
  ⟨none,none,none,none,[],rfl,n0,upd_same,.nil⟩ ?_ ?_ ?_
 ·rintro i σ H3 _ ⟨x2,x3,x4,x5,kvs,_,e3,_⟩;exact SqL.of (e3 _ _ hp)
 ·rintro i x σ H3 hx ⟨x2,x3,x4,x5,kvs0,rfl,e3,hd3,pe⟩;have hi:i<L.length:=by
   have:=(hAz.mp hx).1;rw[hA4,lA]at this;exact this
  have hia:i<as.length:=by rw[lA];exact hi
  obtain⟨l,hl,r,ha,hr'⟩:=qAo pr (hA8 hia);have ex:x = .ref as[i]:=by
   rw[hAc,hA8 hia]at hx;exact(hAh hx).symm
  subst ex;have el:L[i]=l:=by rw[hA8 hi]at hl;exact hAh hl
  have rowl:qAx (L.map (·.2)) i=l.2:=by rw[rw_ i hi,el]
  have hl24:l.2.length<=24:=by rw[<-el];exact lr _ (hBy hi)
  have spl:=qQf b24 i (by rw[lR];omega);refine⟨_,_,rfl,SqT.of (e3 _ _ ha),rfl,_,_,rfl,_,_,rfl,rfl,?_⟩;refine⟨_,rfl,r,_,rfl,SqL.of (e3 _ _ hr'),?_⟩;rw[hA4];refine qK0 (λk σ H4=>∃(x4 x5:Option V) (kvs:List (Key×V)),σ=[some (.ref p),some (.ref d),some (.str l.1),some (.ref r),x4,x5]/\Ext H H4/\H4 d=some (.dK kvs)/\PE (L.map (·.1)) H H4 kvs (grp (scP (L.map (·.2)) i++rowS (L.map (·.2)) i k)))
   ⟨x4,x5,kvs0,rfl,e3,hd3,by rw[show rowS (L.map (·.2)) i 0=[] from rfl,hBr];exact pe⟩ (λk σ H4 _ z=>by obtain⟨_,_,_,_,e,_⟩:=z;exact SqL.of (e _ _ hr')) ?_ ?_
  ·rintro k σ H4 T hk ⟨x4,x5,kvs,rfl,e4,hd4,pe4⟩ hT;have gd:(l.2.map V.str).getD k .non = .str l.2[k]:=by rw[hAa,hAc,hA8 hk];rfl
   have nT:=Ext.new hT (.tup [V.int (k:Nat),(l.2.map V.str).getD k .non]);have atk:(atR (α:=Str) (L.map (·.2)) (i,k)).getD ("" : Str)=l.2[k]:=by
    unfold atR;dsimp only;rw[rowl,hA8 hk];rfl
   have lk:(grp (scP (L.map (·.2)) i++rowS (L.map (·.2)) i k)).length<=600/\∀pp∈grp (scP (L.map (·.2)) i++rowS (L.map (·.2)) i k),pp.2.length<=600:=by
    have h1:=qR9 (scP (L.map (·.2)) i++rowS (L.map (·.2)) i k);have h2:=qKx (scP (L.map (·.2)) i++rowS (L.map (·.2)) i k);rw[hAk,qNy]at h1 h2;exact⟨by omega,λpp hpp=>by have:=h2 pp hpp;omega⟩
   have lkv:kvs.length<=600:=by rw[pe4.length];exact lk.1
   have snoc:=qE7 (scP (L.map (·.2)) i++rowS (L.map (·.2)) i k) ((atR (α:=Str) (L.map (·.2)) (i,k)).getD ("" : Str),(i,k));rw[hCk,<-qQk,atk]at snoc;have ptk:ptA (L.map (·.1)) (i,k)=l.1:=by
    show List.getD (α:=Str) (L.map (·.1)) i ""=l.1;rw[hAa,hAc,hl];rfl
   refine⟨T,_,rfl,SqT.of upd_same,rfl,_,_,rfl,_,_,rfl,rfl,?_⟩;have e5:=e4.trans nT;have hd5:=nT _ _ hd4;have pe5:=pe4.ext nT;revert e5 hd5 pe5;generalize upd _ _ _=H5;intro e5 hd5 pe5;rw[gd];generalize hx:l.2[k]=x at snoc;refine⟨_,rfl,d,rfl,.inl ⟨kvs,.inl hd5⟩,_,rfl,hAy _,λl0 hl0=>?_⟩;have m0:=Ext.new hl0 (.lst []);refine⟨_,qD3.k (k:=Sum.inr x) (m0 _ _ hd5),?_⟩;refine⟨_,rfl,_,rfl,(by show 2<=sizeLine;decide),λb hb=>⟨(by show 1<=sizeLine;decide),λl1 hl1=>?_⟩⟩;have m1:=m0.trans (Ext.new hb (.tup [V.str l.1,V.int (k:Nat)]));have m2:=m1.trans (Ext.new hl1 (.lst [V.ref b]));have eb:qBn (L.map (·.1)) (upd (upd (upd H5 l0 (.lst [])) b (.tup [V.str l.1,V.int (k:Nat)])) l1 (.lst [V.ref b])) b (i,k):=by
    unfold qBn;rw[qAb (λz=>by rw[<-z,upd_same]at hl1;cases hl1),upd_same,ptk]
   by_cases m:x∈(grp (scP (L.map (·.2)) i++rowS (L.map (·.2)) i k)).map (·.1)
   ·obtain⟨pp,hpp,ep,lv,bs,ev,hlv,pbs⟩:=pe5.some m;have lz:=lk.2 pp hpp;have lb:=pbs.length;unfold qG7 at snoc;rw[hEs (show(x,_).1∈_ from m)]at snoc;refine⟨lv,l1,_,_,by rw[ev];rfl,rfl,m2 _ _ hlv,upd_same,?_,λl2 hl2=>?_⟩
    ·rw[hA4];show _+1<=sizeLine;exact hBz (qAd (by omega))
    have m3:=m2.trans (Ext.new hl2 (.lst (bs.map V.ref++[V.ref b])));have d2:=m3 _ _ hd5;have e6:=(e5.trans m3).over hd (.dK (qCz kvs (Sum.inr x) (.ref l2)));refine⟨_,rfl,_,rfl,d,_,rfl,qJx.k (k:=Sum.inr x) d2 (qAd (by omega)),?_⟩;refine⟨_,_,qCz kvs (Sum.inr x) (.ref l2),rfl,e6,upd_same,?_⟩;rw[snoc];have pk:qCz kvs (Sum.inr x) (.ref l2)=kvs.map λkv=>if kv.1=Sum.inr x then (kv.1,V.ref l2) else kv:=by
     unfold qCz;rw[qCl,ev,hEe,hEs rfl]
    rw[pk];refine PE.set (PE.put (bs:=bs) (b:=b) (old:=pp.2) (by rw[upd_same,hAf];rfl) (Paired.mapP pbs λ_ _ z=>z.ext m3) (eb.ext (Ext.new hl2 _)) ((e5.trans m2).none hl2) (pe5.ext m3) (qCi _).1 λp' hp' ep'=>?_) d2 _;rw[qFw _ p' hp',qFw _ pp hpp,ep',ep]
   ·have ev:=pe5.none m;unfold qG7 at snoc;rw[hEr (show ¬(x,_).1∈_ from m)]at snoc;refine⟨l0,l1,[],_,by rw[ev];rfl,rfl,((Ext.new hb _).trans (Ext.new hl1 _)) _ _ upd_same,upd_same,(by show 1<=sizeLine;decide),λl2 hl2=>?_⟩;have m3:=m2.trans (Ext.new hl2 (.lst ([]++[V.ref b])));have d2:=m3 _ _ hd5;have e6:=(e5.trans m3).over hd (.dK (qCz kvs (Sum.inr x) (.ref l2)));refine⟨_,rfl,_,rfl,d,_,rfl,qJx.k (k:=Sum.inr x) d2 (qAd (by omega)),?_⟩;refine⟨_,_,qCz kvs (Sum.inr x) (.ref l2),rfl,e6,upd_same,?_⟩;rw[snoc,qCn _ ev];exact PE.set (Paired.snc (pe5.ext m3) ⟨rfl,l2,[b],rfl,upd_same,.cons (eb.ext (Ext.new hl2 _)) .nil,(e5.trans m2).none hl2⟩) d2 _
  ·rintro σ H4 ⟨x4,x5,kvs,rfl,e4,hd4,pe4⟩;refine⟨_,_,_,_,kvs,rfl,e4,hd4,?_⟩;rw[qNv];have:lenR (L.map (·.2)) i=l.2.length:=by unfold lenR;rw[rowl]
   rw[this];exact pe4
 ·rintro σ H3 ⟨x2,x3,x4,x5,kvs,rfl,e3,hd3,pe⟩;rw[hA4,lA,<-lR,<-qTl]at pe;exact⟨_,rfl,q d H3 kvs e3 hd hd3 pe⟩
end
end My
namespace L2
open PySem PySem.Spec PyProof.Rows
def TrC(h base:Heap)(e:Addr)(cls a0 fl:Value):Prop:=∃(oe:Obj) (vs:Array Value) (T:Addr) (oT:Obj) (ts:Array Value),h.get? e=some oe/\(oe.cls=cls/\vs[0]?=some a0/\vs[2]?=some .none)/\oe.data = .fields vs/\vs[1]?=some (.ref T)/\base.get? T=none/\T≠e/\h.get? T=some oT/\oT.data = .fields ts/\ts[3]?=some fl
structure FlyC(base:Heap)(l:List Env)(e:Addr)(cls a0 fl:Value)(h:Heap):Prop where
 stays:base.StaysIn h
 nob:base.get? e=none
 fun_:h.FunFrames base l
 tr:TrC h base e cls a0 fl
section
variable{X:Cx}{aB:List (Addr×Obj)}{σ:St}{H:Hp}{s:Shared}{h':Heap}
structure New(X:Cx)(aB:List (Addr×Obj))(b:Addr):Prop where
 s0:X.s₀.heap.get? b=none
 loc:b≠X.env.locals
 cel:∀x c,X.env.cells.lookup x=some c->c≠b
 pin:∀p∈X.pn++aB,p.1≠b
end
noncomputable def Itw(kvs:List (Key×V))(d:Addr)(o:Obj):It :=
 ⟨λi H=>i<kvs.length/\H d=some (.frz o (.dK kvs)),λi H x H'=>H'=H/\∃p,kvs[i]?=some p/\x=p.2,λi H=>kvs.length<=i/\H d=some (.frz o (.dK kvs))⟩
theorem qO3{P:Program}{w:World}{K:PySem.W.Frag}{tg:Expr}(it d:Addr)(o:Obj)(kvs:List (Key×V))(vs:List (Key×Value))(es:Array DictEntry)(ep:Nat)
  (hne:d≠it) (kv:KV kvs vs) (hx:o.ExactDict) (hd:o.data = .dict es ep) (hk:KeysOf (qAu P w) es) (hp:Pairs (qAu P w) es.toList vs) (nd:(vs.map (·.1)).Nodup) :
  Turn P w K tg (Itw kvs d o) [it] it (λi h=>h.IsValIter it d i vs.length ep) where
 mem:=by simp
 obj:=λi h st b hb=>by
  obtain rfl:b=it:=by simpa using hb
  obtain⟨o,e,c,d⟩:=st;exact⟨o,e,λv z=>by rw[d]at z;cases z⟩
 keep:=λi h h' st k=>st.at λo e=>k it (by simp) o e
 item:=by
  intro X hP hw hK hc i aB s σ H E I hf st hg;subst hP hw hK;obtain⟨hi,hH⟩:=hg;have da:s.heap.DictAt (qAu X.prog X.w) d vs ep:=⟨o,es,(I.hok d _ hH).1,hx,hd,hk,hp,nd⟩;obtain⟨⟨k,xv⟩,hkx⟩:∃p,kvs[i]?=some p:=⟨kvs[i],by simp[hi]⟩;have hvl:i<vs.length:=by have:=kv.length;omega
  obtain⟨⟨k',uv⟩,hkv⟩:∃p,vs[i]?=some p:=⟨vs[i],by simp[hvl]⟩;obtain⟨rfl,rv⟩:=qZ0 kv hkx hkv;obtain⟨f0,f1,f2,f3,f4,f5⟩:=hf it (by simp);refine wpAny_pyNext_values_item st da hkv λh' hit' hs'=>?_
  have I1:Inv X aB σ H { s with heap:=h' }:=I.turned (t':=s.toks) (λb o hb e=>(hs'.2 b hb).trans e) f0 f1 f3 f4 f5;obtain⟨oo,e,c,dd⟩:=id hit';exact⟨uv,rfl,qPh (s:={ s with heap:=h' }) e c dd (by decide) ⟨xv,H,I1,rv,⟨rfl,(k,xv),hkx,rfl⟩,hit',λb hb=>(hf b hb).1⟩⟩
 done:=by
  intro X hP hw hK hc i aB s σ H E I hf st hg;subst hP hw hK;obtain⟨hi,hH⟩:=hg;have da:s.heap.DictAt (qAu X.prog X.w) d vs ep:=⟨o,es,(I.hok d _ hH).1,hx,hd,hk,hp,nd⟩;obtain⟨f0,f1,f2,f3,f4,f5⟩:=hf it (by simp);have hl:=kv.length;exact wpAny_pyNext_values_end (I.ok.hd hc) st da (by simp;omega) λh' eb=>⟨rfl,I.turned (t':=s.toks) (λb o hb e=>eb b o hb e) f0 f1 f3 f4 f5⟩
 self:=λ_ _ _ _ _ st h=>wpAny_pyIter_valiter st h
def zBl(td:TE):TI:=λσ H R=>td σ H λx H1=>∃d kvs,x = .ref d/\H1 d=some (.dK kvs)/\∀o,R (Itw kvs d o) (upd H1 d (.frz o (.dK kvs)))
theorem qQ4{X:Cx}{oe tg:Expr}{td:TE}{apos cpos:Pos}(he:PE X oe td)(hbase:attributeBase oe "values" X.env (eval oe X.env)=eval oe X.env:=by rfl)(hline:(apos.endLine == cpos.line)=true:=by rfl) :
  PI X tg (.Call (.Attribute oe "values" apos) [] [] cpos) (zBl td):=by
 intro aB s σ H R I h;refine hFp hbase hline (thn (he aB s σ H _ I h) λv s1 ⟨x,H1,I1,r1,q1⟩=>?_);obtain⟨d,kvs,e,hH,q⟩:=q1;subst e;cases r1;obtain⟨h1,h2⟩:=qJ3 I1 (x:=.ref d) (v:=.ref d) (T:="dict") rfl (.inr (.inr (.inl ⟨rfl,.inl ⟨kvs,hH⟩⟩)));obtain⟨hz,hsm,vs,kv,o,es,ep,ho,hx,hd,hk,hp,nd⟩:=qPk I1.hok hH;refine⟨"dict","dict.values",hDg,hDx,PySem.F.type_dict_values,h1,h2,Calls.callWith_builtin rfl (hEm ?_)⟩;refine hEx hDx h1 PySem.F.entry_dict_values ?_ (PySem.F.args_dict_values_1 _);refine hEp ?_;unfold Builtin.Dict.noArgs;refine hEp (hFh h1 (hEq ?_));show wpAny _ _ (Builtin.Dict.showsAll d >>= _) _ _ _;unfold Builtin.Dict.showsAll;rw[hEr (by rw[hsm];exact hAo)];refine hEp (hEq (hEp (hEw (hEq ⟨_,rfl,?_⟩))));have I2:Inv X aB σ (upd H1 d (.frz o (.dK kvs))) s1:=by
  refine I1.write (t':=s1.toks) (h':=s1.heap) (x:=d) (e:=d) (by rw[hH];trivial) (.inl rfl) (λ_ _ _ q=>q) ⟨o,ho⟩ ⟨ho,?_⟩;exact⟨hz,hsm,vs,kv,o,es,ep,ho,hx,hd,hk,hp,nd⟩
 generalize eh:s1.heap.push { cls:=.type "dict_values",data:=.fields #[.ref d] }=h3;have kp:∀b o,s1.heap.get? b=some o->h3.get? b=some o:=λb o e=>by rw[<-eh];exact Heap.get?_push_of_some _ e
 have vw:h3.IsValuesView s1.heap.objs.size d:=by rw[<-eh];exact⟨_,Heap.get?_push_size _ rfl,rfl,rfl⟩
 have I3:Inv X aB σ (upd H1 d (.frz o (.dK kvs))) { s1 with heap:=h3 }:=I2.kept (t':=s1.toks) kp;have da:h3.DictAt (qAu X.prog X.w) d vs ep:=⟨o,es,kp _ _ ho,hx,hd,hk,hp,nd⟩;refine wpAny_pyIter_values (s:={ s1 with heap:=h3 }) vw da ?_;have hd1:d<h3.objs.size:=Heap.lt_size (kp _ _ ho);have hne:d≠h3.objs.size:=hAt hd1;refine⟨_,[h3.objs.size],_,_,_,rfl,I3.kept (t':=s1.toks) λb o e=>Heap.get?_push_of_some _ e,qO3 _ d o kvs vs es ep hne kv hx hd hk hp nd,⟨_,Heap.get?_push_size _ rfl,rfl,rfl⟩,λb hb=>?_,q o⟩;obtain rfl:b=h3.objs.size:=by simpa using hb
 exact I3.fpOk (hAj _) (I3.hok.fresh (hAj _))
section
variable{P:Program}{w:World}{A:Around}{E:Value->Shared->Prop}{s:Shared}{it d:Addr}{i n ep:Nat}{od:Obj}{es:Array DictEntry}{Q:Option Value->Shared->Prop}
theorem qZv(hit:s.heap.IsKeyIter it d i n ep)(g:s.heap.get? d=some od)(gd:od.data = .dict es ep)(hz:es.size=n)(hi:i<n)
  (q:∀h',h'.IsKeyIter it d (i+1) n ep->Heap.SameBut it s.heap h'->Q (some (es[i]'(hz▸hi)).key) { s with heap:=h' }):wpAny (model P w) A (pyNext (.ref it)) Q E s:=by
 have T:=hit.typeIs;obtain⟨oi,ho,hc,hd⟩:=hit;unfold pyNext;refine hEp (hFr (wpAny_callSpecial?_slot (name:=Str.ofString "__next__") T F.slot_dict_keyiterator_next (hEx F.slot_dict_keyiterator_next T F.entry_dict_keyiterator_next ?_ (F.args_dict_keyiterator_next_1 _))));refine hEp (hEq (hEp (hEp ?_)));refine hEp (hFb T (hEq (hEp (hFj ho hd ?_))));simp only[show Builtin.Dict_items.ownsTuple "dict_keyiterator"=false by decide,hDs,hFg];show wpAny _ _ (ite ((Value.ref d == Value.none)=true) _ _) _ _ s;rw[hEr (by exact hAo)];refine hEp (hEq (hEp (hFo g gd ?_)));rw[hEr (by subst hz;simp)];refine hEp (hEq (hEp (hFx g gd ?_)));rw[hEr (by simp)];refine hEq ?_;have lt:i<es.size:=hz▸hi;have n0:¬((i:Int)<0):=by omega
 simp only[n0,hFg,hB8,hAv lt];refine hEp (hEp (hFb T (hEq (hEp (wpAny_isOneOf_keyiter T ?_)))));show wpAny _ _ (setField (.ref it) 1 (rawInt ((i:Int)+1)) >>= _) _ _ s;refine hEp (wpAny_setField ho hd (by simp) ?_);generalize eh:s.heap.update it (Obj.mapFields (·.setIfInBounds 1 (rawInt ((i:Int)+1))))=h';have it':h'.IsKeyIter it d (i+1) n ep:=by
  rw[<-eh];exact⟨_,Heap.get?_update_self _ ho (Obj.isFreed_of_fields (Obj.data_mapFields hd _)),(Obj.cls_mapFields ..).trans hc,by rw[Obj.data_mapFields hd];simp[rawInt]⟩
 have sb:Heap.SameBut it s.heap h':=by rw[<-eh];exact Heap.SameBut.update ..
 refine hEp (hEy (hEp (wpAny_isOneOf_keyiter (s:={ s with heap:=h' }) it'.typeIs ?_)));show wpAny _ _ (pure (es[i]'lt).key) _ _ _;exact hEq (hEq ⟨_,rfl,hEq (q h' it' sb)⟩)
theorem zCd(hh:A.handled=none)(hit:s.heap.IsKeyIter it d i n ep)(g:s.heap.get? d=some od)(gd:od.data = .dict es ep)(hz:es.size=n)(hi:n<=i)
  (q:∀h',Heap.ExtBut it s.heap h'->Q none { s with heap:=h' }):wpAny (model P w) A (pyNext (.ref it)) Q E s:=by
 have T:=hit.typeIs;obtain⟨oi,ho,hc,hd⟩:=hit;unfold pyNext;refine hEp (hFr (wpAny_callSpecial?_slot (name:=Str.ofString "__next__") T F.slot_dict_keyiterator_next (hEx F.slot_dict_keyiterator_next T F.entry_dict_keyiterator_next ?_ (F.args_dict_keyiterator_next_1 _))));refine hEp (hEq (hEp (hEp ?_)));refine hEp (hFb T (hEq (hEp (hFj ho hd ?_))));simp only[show Builtin.Dict_items.ownsTuple "dict_keyiterator"=false by decide,hDs,hFg];show wpAny _ _ (ite ((Value.ref d == Value.none)=true) _ _) _ _ s;rw[hEr (by exact hAo)];refine hEp (hEq (hEp (hFo g gd ?_)));rw[hEr (by subst hz;simp)];refine hEp (hEq (hEp (hFx g gd ?_)));rw[hEr (by simp)];refine hEq ?_;have n0:¬((i:Int)<0):=by omega
 simp only[n0,hFg,hB8,hCg (show es.size<=i by omega)];refine hEp (hEp (hFb T (hEq ?_)));show wpAny _ _ (setField (.ref it) 0 .none >>= _) _ _ s;refine hEp (wpAny_setField ho hd (by simp) ?_);show wpAny _ _ (newExc (.type "StopIteration") [] >>= _) _ _ _;refine hEp ?_;simp only[newExc,newTuple,raiseNew];refine hEp (hEw (hEp (m:=firstArgMember _ _) (wpAny_of_eq (a:=Value.none) (by first|rfl|(simp only[firstArgMember];rfl)) (hEw (hEp (wpAny_handled ?_)) (by size_fits)))) (by size_fits));rw[show A.in1.handled=none from hh];refine hEp (hEq (wpAny_throw ?_));refine hEp (hFt (b:=true) (T:="StopIteration") ⟨_,Heap.get?_push_size _ rfl,rfl⟩ hGc ?_);exact hEq (q _ (((Heap.SameBut.update ..).extBut.push _).push _))
theorem qZ6{R:Value->Shared->Prop}(hsm:(d == sysModules)=false)(g:s.heap.get? d=some od)(x:od.ExactDict)(gd:od.data = .dict es ep)(hz:es.size=n)
  (q:R (.ref s.heap.objs.size) { s with heap:=s.heap.push { cls:=.type "dict_keyiterator",data:=.fields #[.ref d,.int 0 0,.int n 0,.int ep 0] } }):wpAny (model P w) A (pyIter (.ref d)) R E s:=by
 have T:s.TypeIs (.ref d) "dict":=⟨od,g,x.1⟩;refine hF8 T F.slot_dict_iter (hEx F.slot_dict_iter T F.entry_dict_iter ?_ (F.args_dict_iter_1 _));unfold Builtin.«dict.__iter__»;refine hEp ?_;unfold Builtin.Dict.dictSlotNone;refine hEp (hFh T (hEq ?_));show wpAny _ _ (Builtin.Dict.showsAll d >>= _) _ _ s;unfold Builtin.Dict.showsAll;rw[hEr (by rw[hsm];exact hAo)];refine hEp (hEq (hEp (hFo g gd (hEp (hFx g gd ?_)))));refine hEp (hEw (hEq ⟨_,rfl,"dict_keyiterator",_,⟨_,Heap.get?_push_size _ rfl,rfl⟩,F.slot_dict_keyiterator_next.lookup,?_⟩));subst hz
 simpa [rawInt] using q
end
noncomputable def zAr(kvs:List (List Key×V))(d:Addr)(o:Obj):It :=
 ⟨λi H=>i<kvs.length/\H d=some (.frz o (.dT kvs)),λi H x H'=>H'=H/\∃p b,kvs[i]?=some p/\x = .ref b/\H b=some (.tup (p.1.map kV)),λi H=>kvs.length<=i/\H d=some (.frz o (.dT kvs))⟩
theorem qZ1{H:Hp}:∀ {a:List (List Key×V)} {b:List (List Key×Addr×Value)} {i:Nat} {p:List Key×V} {q:List Key×Addr×Value},KT H a b->a[i]?=some p->b[i]?=some q->p.1=q.1/\H q.2.1=some (.tup (p.1.map kV))/\qBx p.2 q.2.2:=by
 intro a b i p q r
 induction r generalizing i with
 |nil=>intro h;simp at h
 |cons h t ih =>
  cases i with
  |zero=>intro e1 e2;simp at e1 e2;subst e1 e2;exact h
  |succ i=>intro e1 e2;exact ih (by simpa using e1) (by simpa using e2)
theorem qPj{P:Program}{w:World}{H:Hp}{h:Heap}{d:Addr}{o:Obj}{kvs:List (List Key×V)}{es:Array DictEntry}{ep:Nat}(ok:HOk P w H h)(e:H d=some (.frz o (.dT kvs)))(gd:o.data = .dict es ep) :
  h.get? d=some o/\es.size=kvs.length/\∀i,(hi:i<kvs.length)->∃p b u,kvs[i]?=some p/\es[i]?=some u/\u.key = .ref b/\H b=some (.tup (p.1.map kV))/\qBx p.2 u.val:=by
 obtain⟨g,_,_,xs,kt,o2,es2,ep2,g2,x2,gd2,en,nd⟩:=ok d _ e;cases g.symm.trans g2;have z:=gd.symm.trans gd2;injection z with z1 z2
 subst z1 z2;have sz:es.size=xs.length:=by rw[<-hBb,en,hA4]
 have kl:=kt.length;refine⟨g,by omega,λi hi=>?_⟩;have h1:xs[i]?=some (xs[i]'(by omega)):=hA8 (by omega);have h2:kvs[i]?=some kvs[i]:=hA8 hi;obtain⟨_,k2,k3⟩:=qZ1 kt h2 h1;refine⟨kvs[i],(xs[i]'(by omega)).2.1,entryOfKey (tupleKind (qAu P w)) (xs[i]'(by omega)),h2,?_,rfl,k2,k3⟩;rw[<-hB0,en,hAc,h1];rfl
theorem qL1{P:Program}{w:World}{K:PySem.W.Frag}{tg:Expr}(it d:Addr)(o:Obj)(kvs:List (List Key×V))(es:Array DictEntry)(ep:Nat)(gd:o.data = .dict es ep)(hz:es.size=kvs.length) :
  Turn P w K tg (zAr kvs d o) [it] it (λi h=>h.IsKeyIter it d i kvs.length ep) where
 mem:=by simp
 obj:=λi h st b hb=>by
  obtain rfl:b=it:=by simpa using hb
  obtain⟨o,e,c,d⟩:=st;exact⟨o,e,λv z=>by rw[d]at z;cases z⟩
 keep:=λi h h' st k=>st.at λo e=>k it (by simp) o e
 item:=by
  intro X hP hw hK hc i aB s σ H E I hf st hg;subst hP hw hK;obtain⟨hi,hH⟩:=hg;obtain⟨g,_,at_⟩:=qPj I.hok hH gd;obtain⟨p,b,u,hp,hu,ku,hb,_⟩:=at_ i hi;obtain⟨f0,f1,f2,f3,f4,f5⟩:=hf it (by simp);refine qZv st g gd hz hi λh' hit' hs'=>?_
  have I1:Inv X aB σ H { s with heap:=h' }:=I.turned (t':=s.toks) (λb o hb e=>(hs'.2 b hb).trans e) f0 f1 f3 f4 f5;obtain⟨oo,e,c,dd⟩:=id hit';have eu:es[i]'(hz▸hi)=u:=by
   rw[hAv (hz▸hi)]at hu;exact hAh hu
  rw[eu,ku];exact⟨.ref b,rfl,qPh (s:={ s with heap:=h' }) e c dd (by decide) ⟨.ref b,H,I1,rfl,⟨rfl,p,b,hp,rfl,hb⟩,hit',λb hb=>(hf b hb).1⟩⟩
 done:=by
  intro X hP hw hK hc i aB s σ H E I hf st hg;subst hP hw hK;obtain⟨hi,hH⟩:=hg;obtain⟨g,_,_⟩:=qPj I.hok hH gd;obtain⟨f0,f1,f2,f3,f4,f5⟩:=hf it (by simp);exact zCd (I.ok.hd hc) st g gd hz hi λh' eb=>⟨rfl,I.turned (t':=s.toks) (λb o hb e=>eb b o hb e) f0 f1 f3 f4 f5⟩
 self:=λ_ _ _ _ _ st h=>wpAny_pyIter_keyiter st h
def qZ8(td:TE):TI:=λσ H R=>td σ H λx H1=>∃d kvs,x = .ref d/\H1 d=some (.dT kvs)/\∀o,R (zAr kvs d o) (upd H1 d (.frz o (.dT kvs)))
theorem qTt{X:Cx}{e tg:Expr}{td:TE}(he:PE X e td):PI X tg e (qZ8 td):=by
 intro aB s σ H R I h;refine thn (he aB s σ H _ I h) λv s1 ⟨x,H1,I1,r1,q1⟩=>?_
 obtain⟨d,kvs,e,hH,q⟩:=q1;subst e;cases r1;obtain⟨hz,hsm,xs,kt,o,es,ep,ho,hx,gd,en,nd⟩:=I1.hok d _ hH;have I2:Inv X aB σ (upd H1 d (.frz o (.dT kvs))) s1:=by
  refine I1.write (t':=s1.toks) (h':=s1.heap) (x:=d) (e:=d) (by rw[hH];trivial) (.inl rfl) (λ_ _ _ q=>q) ⟨o,ho⟩ ⟨ho,hz,hsm,xs,?_,o,es,ep,ho,hx,gd,en,nd⟩;exact KT.keeps kt λb ys q=>by rw[qAb (λz=>by rw[z,hH]at q;cases q)];exact q
 have sz:=(qPj I2.hok upd_same gd).2.1;refine qZ6 hsm ho hx gd sz ?_;have hne:d≠s1.heap.objs.size:=hAt (Heap.lt_size ho);refine⟨s1.heap.objs.size,[s1.heap.objs.size],_,_,_,rfl,I2.kept (t':=s1.toks) λb o e=>Heap.get?_push_of_some _ e,qL1 s1.heap.objs.size d o kvs es ep gd sz,⟨_,Heap.get?_push_size _ rfl,rfl,rfl⟩,λb hb=>?_,q o⟩;obtain rfl:b=s1.heap.objs.size:=by simpa using hb
 exact I2.fpOk (hAj _) (by rw[qAb (Ne.symm hne)];exact I1.hok.fresh (hAj _))
end L2
namespace L2
open PySem PySem.Spec PyProof.Rows Builtin Builtin.ObjectAttr Builtin.Getset_descriptor
section
variable{prog:Program}{w:World}{A:Around}{E:Value->Shared->Prop}{s:Shared}{K:PySem.W.Frag}{x D:Addr}
structure XCls(K:PySem.W.Frag)(D:Addr):Prop where
 c:(PySem.W.clsIn K D).isSome=true
 ga:PySem.W.findIn K (.ref D) "__getattribute__"=some (some (.builtin "BaseException.__getattribute__"))
 gt:PySem.W.findIn K (.ref D) "__getattr__"=some none
 cl:PySem.W.findIn K (.ref D) "__class__"=some (some (.builtin "object.__class__"))
 sp:PySem.W.specialIn K (.builtin "object.__class__") "__get__"=some (some (.builtin "getset_descriptor.__get__"))
 tk:PySem.W.takesIn K (.builtin "object.__class__")=some true
 ob:PySem.W.mroIn K D (.type "object")=some true
 be:PySem.W.mroIn K D (.type "BaseException")=some true
end
end L2
namespace L2
open PySem PySem.Spec PyProof.Rows
section
variable{X:Cx}
theorem qSx(hc:X.calm=true):qCa X (.builtin "min") (λxs H Q=>∃(p:Addr) (a b:Str),xs=[.ref p]/\SqL X.K H p [.str a,.str b]/\Q (.str (if b.cps.toList<a.cps.toList then b else a)) H):=by
 intro aB s σ H xs us Q I r h;obtain⟨l,a,b,rfl,hq,q⟩:=h;obtain⟨u,rfl,rx⟩:=qC8 r;cases rx;obtain⟨its,rv,pl,hz⟩:=I.list hq;obtain⟨u1,u2,rfl,⟨t1,rfl⟩,⟨t2,rfl⟩⟩:=qLz rv;have hlI:l≠s.heap.objs.size:=by
  obtain⟨o,n,e,_⟩:=pl;exact hAt (Heap.lt_size e)
 refine call_min_walk (hFc pl.isList ?_);refine⟨s.heap.objs.size,_,_,_,_,_,λi j=>decide ((([a,b]:List Str).getD i "").cps.toList<(([a,b]:List Str).getD j "").cps.toList),rfl,Walks.list (A:=X.A.in1) (I.ok.hd hc) _ l hlI [Value.str a t1,.str b t2].toArray,⟨⟨_,Heap.get?_push_size _ rfl,rfl,rfl⟩,pl.isList.at λo e=>Heap.get?_push_of_some _ e⟩,?_,(by show 0<2;decide),?_,λv h' tk hP hk=>?_⟩
 ·intro c hc';show c<(s.heap.push _).objs.size;rw[Heap.size_push];simp only[hAg,hC6,hFv]at hc';rcases hc' with rfl|rfl
  ·exact hBp _
  ·obtain⟨o,n,e,_⟩:=pl;exact hB5 (Heap.lt_size e)
 ·intro i j vi vj s' Q' E' hi hj hq';have pick:∀ {k:Nat} {v:Value},[Value.str a t1,.str b t2].toArray[k]?=some v->∃t,v = .str (([a,b]:List Str).getD k "") t:=λ{k v} e=>by
   match k,e with
   |0,e=>cases e;exact⟨t1,rfl⟩
   |1,e=>cases e;exact⟨t2,rfl⟩
   |k+2,e=>simp at e
  obtain⟨w1,rfl⟩:=pick hi;obtain⟨w2,rfl⟩:=pick hj;exact(show wpAny _ _ (compareOp .Lt _ _) _ _ _ from PySem.P.lt_str hq')
 ·have kp:∀b o,s.heap.get? b=some o->h'.get? b=some o:=λb o e=>hk b o (λhm=>by
   rw[hAd]at hm;exact absurd (hm▸Heap.lt_size e) (hBu _)) (Heap.get?_push_of_some _ e)
  refine⟨.str (if b.cps.toList<a.cps.toList then b else a),H,I.kept (t':=tk) kp,?_,q⟩;have hP':[Value.str a t1,.str b t2].toArray[if decide (b.cps.toList<a.cps.toList)=true then 1 else 0]?=some v:=hP;by_cases e:b.cps.toList<a.cps.toList
  ·rw[hEs e];rw[hEs (hEt e)]at hP';cases hP';exact⟨_,rfl⟩
  ·rw[hEr e];rw[hEr (by rw[hEu e];decide)]at hP';cases hP';exact⟨_,rfl⟩
theorem qSy(hc:X.calm=true):qCa X (.builtin "max") (λxs H Q=>∃(p:Addr) (a b:Str),xs=[.ref p]/\SqL X.K H p [.str a,.str b]/\Q (.str (if a.cps.toList<b.cps.toList then b else a)) H):=by
 intro aB s σ H xs us Q I r h;obtain⟨l,a,b,rfl,hq,q⟩:=h;obtain⟨u,rfl,rx⟩:=qC8 r;cases rx;obtain⟨its,rv,pl,hz⟩:=I.list hq;obtain⟨u1,u2,rfl,⟨t1,rfl⟩,⟨t2,rfl⟩⟩:=qLz rv;have hlI:l≠s.heap.objs.size:=by
  obtain⟨o,n,e,_⟩:=pl;exact hAt (Heap.lt_size e)
 refine call_max_walk (hFc pl.isList ?_);refine⟨s.heap.objs.size,_,_,_,_,_,λi j=>decide ((([a,b]:List Str).getD j "").cps.toList<(([a,b]:List Str).getD i "").cps.toList),rfl,Walks.list (A:=X.A.in1) (I.ok.hd hc) _ l hlI [Value.str a t1,.str b t2].toArray,⟨⟨_,Heap.get?_push_size _ rfl,rfl,rfl⟩,pl.isList.at λo e=>Heap.get?_push_of_some _ e⟩,?_,(by show 0<2;decide),?_,λv h' tk hP hk=>?_⟩
 ·intro c hc';show c<(s.heap.push _).objs.size;rw[Heap.size_push];simp only[hAg,hC6,hFv]at hc';rcases hc' with rfl|rfl
  ·exact hBp _
  ·obtain⟨o,n,e,_⟩:=pl;exact hB5 (Heap.lt_size e)
 ·intro i j vi vj s' Q' E' hi hj hq';have pick:∀ {k:Nat} {v:Value},[Value.str a t1,.str b t2].toArray[k]?=some v->∃t,v = .str (([a,b]:List Str).getD k "") t:=λ{k v} e=>by
   match k,e with
   |0,e=>cases e;exact⟨t1,rfl⟩
   |1,e=>cases e;exact⟨t2,rfl⟩
   |k+2,e=>simp at e
  obtain⟨w1,rfl⟩:=pick hi;obtain⟨w2,rfl⟩:=pick hj;exact(show wpAny _ _ (compareOp .Gt _ _) _ _ _ from PySem.P.gt_str hq')
 ·have kp:∀b o,s.heap.get? b=some o->h'.get? b=some o:=λb o e=>hk b o (λhm=>by
   rw[hAd]at hm;exact absurd (hm▸Heap.lt_size e) (hBu _)) (Heap.get?_push_of_some _ e)
  refine⟨.str (if a.cps.toList<b.cps.toList then b else a),H,I.kept (t':=tk) kp,?_,q⟩;have hP':[Value.str a t1,.str b t2].toArray[if decide (a.cps.toList<b.cps.toList)=true then 1 else 0]?=some v:=hP;by_cases e:a.cps.toList<b.cps.toList
  ·rw[hEs e];rw[hEs (hEt e)]at hP';cases hP';exact⟨_,rfl⟩
  ·rw[hEr e];rw[hEr (by rw[hEu e];decide)]at hP';cases hP';exact⟨_,rfl⟩
end
section
variable{prog:Program}{w:World}{A:Around}{E:Value->Shared->Prop}{s:Shared}
theorem qK5(hne:t≠it):∀(n i:Nat) (s:Shared) (Q:List Value->Shared->Prop),s.heap.IsListIter it t i->s.heap.IsList t items->i+n<=items.size ->
  (∀h',h'.IsListIter it t (i+n)->Heap.ExtBut it s.heap h'->Q ((items.toList.drop i).take n) { s with heap:=h' })->wpAny (model prog w) A (draw (.ref it) n) Q E s
 |0,i,s,Q,hit,_,_,hQ=>by
  show wpAny _ _ (pure []) Q E s;exact hEq (by simpa using hQ s.heap hit (λ_ _ _ e=>e))
 |n+1,i,s,Q,hit,ht,hle,hQ=>by
  have hlt:i<items.size:=by omega
  show wpAny _ _ (pyNext (.ref it) >>= _) Q E s;refine hEp (wpAny_pyNext_list_item hit ht (x:=items[i]) (by simp[hlt]) λh₁ hit₁ hs₁=>?_);refine hEp (hEy (qK5 hne n (i+1) _ _ hit₁ (ht.extBut hs₁.extBut hne) (by omega) λh₂ hit₂ hs₂=>hEq ?_));have hd:items.toList.drop i=items[i] :: items.toList.drop (i+1):=by simp[List.drop_eq_getElem_cons,hlt]
  have:=hQ h₂ (by rw[show i+(n+1)=i+1+n by omega];exact hit₂) (λb o hb e=>hs₂ b o hb (hs₁.extBut b o hb e));rw[hd,List.take_succ_cons]at this;exact this
theorem qF7(hh:A.handled=none)(ht:s.heap.IsList t items)
  (hQ:∀h',Heap.ExtBut s.heap.objs.size s.heap h'->Q items.toList { s with heap:=h' }):wpAny (model prog w) A (unpackItems (.ref t) items.size none) Q E s:=by
 have hlt:t≠s.heap.objs.size:=by obtain⟨o,ho,_⟩:=ht;exact hAt (Heap.lt_size ho)
 unfold unpackItems;refine hEp ?_
 ·unfold notIterableAtAll;refine hEp (hGa ht.typeIs PySem.F.slot_list_iter.lookup ?_);refine hEq ?_;simp only[hDs,hFg];refine hEp (hEy (hFc ht ?_));refine hEp (hEy (qK5 hlt items.size 0 _ _ ⟨_,Heap.get?_push_size _ rfl,rfl,rfl⟩ (ht.push _) (by omega) λh₁ hit₁ hs₁=>?_));have hall:List.take items.size (List.drop 0 items.toList)=items.toList:=by
   rw[List.drop_zero];exact hBw (by simp)
  rw[hall];rw[hEr (by simp)];have ht₁:h₁.IsList t items:=(ht.push _).extBut hs₁ hlt;refine hEp (hEy (wpAny_pyNext_list_end hh hit₁ ht₁ (by simp) λh₂ he₂=>?_));simp only[Option.isSome_none,hDs,hFg];refine hEq (hQ h₂ λb o hb e=>he₂ b o hb (hs₁ b o hb (Heap.get?_push_of_some _ e)))
end
def zC4(K:PySem.W.Frag)(n:Nat)(t:TGs):TG:=λv σ H Q=>∃a xs,v = .ref a/\SqL K H a xs/\xs.length=n/\t xs σ H Q
theorem qW3(hc:X.calm=true)(h:PGs X es t)
  (hn:(assignEach es X.env).length=n:=by rfl) (hst:(assignEach es X.env).findIdx? (·.1)=none:=by rfl):PG X (.Tuple es k pos) (zC4 X.K n t):=by
 intro aB s σ H v u Q I r hw;obtain⟨a,xs,e1,hq,hl,hw⟩:=hw;subst e1;cases r;obtain⟨its,rv,pl,hz⟩:=I.list hq;rw[assign_Tuple];refine hEp (hF9 ?_);unfold unpack;have hsz:(assignEach es X.env).length=its.toArray.size:=by simp[hn,<-hl,rv.length]
 rw[hsz,hst];refine hEp (hEy (qF7 (I.ok.hd hc) pl.isList λh' hx=>?_));have I1:Inv X aB σ H { s with heap:=h' }:=I.kept (t':=s.toks) λb o e=>hx b o (hAt (Heap.lt_size e)) e
 exact h aB _ σ H xs _ Q I1 (by simpa using rv) hw
end L2
namespace My
open PySem L2
theorem qUk{kvs:List (Key×V)}{d:Addr}{o:Obj}{g:TG}{tb:TS}{D:Ends}{σ:St}{H:Hp}(Pv:Nat->St->Hp->Prop)(h0:Pv 0 σ H)(hl:∀i σ H,i<=kvs.length->Pv i σ H->H d=some (.frz o (.dK kvs)))
  (hs:∀i p σ H,kvs[i]?=some p->Pv i σ H->g p.2 σ H λσ2 H2=>tb { D with nx:=Pv (i+1),ct:=Pv (i+1),bk:=D.nx } σ2 H2) (hd:∀σ H,Pv kvs.length σ H->D.nx σ H) :
  ∃W:Nat->Nat->St->Hp->Prop,(∃m,W 0 m σ H)/\∀i m σ H,W i m σ H ->
   ((Itw kvs d o).stop i H/\D.nx σ H)\/((Itw kvs d o).go i H/\∃N:St->Hp->Prop,(∀σ' H',N σ' H'->∃m',m'<m/\W (i+1) m' σ' H')/\∀x H',(Itw kvs d o).yld i H x H'->g x σ H' λσ2 H2=>tb { D with nx:=N,ct:=N,bk:=D.nx } σ2 H2):=by
 refine⟨λi m σ H=>m=kvs.length-i/\i<=kvs.length/\Pv i σ H,⟨kvs.length,by simp,hAy _,h0⟩,?_⟩;rintro i m σ H ⟨rfl,hi,p⟩;have q:=hl i σ H hi p;by_cases hlt:i<kvs.length
 ·refine .inr ⟨⟨hlt,q⟩,Pv (i+1),λσ' H' p'=>⟨kvs.length-(i+1),by omega,rfl,hlt,p'⟩,λx H' y=>?_⟩;obtain⟨e,pr,hp,rfl⟩:=y;subst e;exact hs i pr σ _ hp p
 ·have e:i=kvs.length:=by omega
  subst e;exact .inl ⟨⟨hAj _,q⟩,hd σ H p⟩
theorem qSc{kvs:List (List Key×V)}{d:Addr}{o:Obj}{g:TG}{tb:TS}{D:Ends}{σ:St}{H:Hp}(Pv:Nat->St->Hp->Prop)(h0:Pv 0 σ H)(hl:∀i σ H,i<=kvs.length->Pv i σ H->H d=some (.frz o (.dT kvs)))
  (hs:∀i p b σ H,kvs[i]?=some p->H b=some (.tup (p.1.map kV))->Pv i σ H->g (.ref b) σ H λσ2 H2=>tb { D with nx:=Pv (i+1),ct:=Pv (i+1),bk:=D.nx } σ2 H2) (hd:∀σ H,Pv kvs.length σ H->D.nx σ H) :
  ∃W:Nat->Nat->St->Hp->Prop,(∃m,W 0 m σ H)/\∀i m σ H,W i m σ H ->
   ((zAr kvs d o).stop i H/\D.nx σ H)\/((zAr kvs d o).go i H/\∃N:St->Hp->Prop,(∀σ' H',N σ' H'->∃m',m'<m/\W (i+1) m' σ' H')/\∀x H',(zAr kvs d o).yld i H x H'->g x σ H' λσ2 H2=>tb { D with nx:=N,ct:=N,bk:=D.nx } σ2 H2):=by
 refine⟨λi m σ H=>m=kvs.length-i/\i<=kvs.length/\Pv i σ H,⟨kvs.length,by simp,hAy _,h0⟩,?_⟩;rintro i m σ H ⟨rfl,hi,p⟩;have q:=hl i σ H hi p;by_cases hlt:i<kvs.length
 ·refine .inr ⟨⟨hlt,q⟩,Pv (i+1),λσ' H' p'=>⟨kvs.length-(i+1),by omega,rfl,hlt,p'⟩,λx H' y=>?_⟩;obtain⟨e,pr,b,hp,rfl,hb⟩:=y;subst e;exact hs i pr b σ _ hp hb p
 ·have e:i=kvs.length:=by omega
  subst e;exact .inl ⟨⟨hAj _,q⟩,hd σ H p⟩
noncomputable def mD(L:List (Str×List Str)):List (Key×V):=L.map λl=>(Sum.inr l.1,V.int (l.2.length:Nat))
theorem qRr{x:Str}:∀ {L:List (Str×List Str)},x∉L.map (·.1)->valV (mD L) (Sum.inr x)=none
 |[],_=>rfl
 |l :: L,h=>by
  rw[hAn]at h;have h1:=λz=>h (hAg.mpr (.inl z))
  unfold mD;rw[hAn,qAz (λz=>h1 (Sum.inr.inj z).symm)];exact qRr λz=>h (hAe _ z)
theorem qVw:∀ {L:List (Str×List Str)} {i:Nat} {l:Str×List Str},(L.map (·.1)).Nodup->L[i]?=some l->valV (mD L) (Sum.inr l.1)=some (.int (l.2.length:Nat))
 |[],_,_,_,h=>by simp at h
 |k :: L,0,l,nd,h=>by
  simp at h;subst h;exact qBc rfl
 |k :: L,i+1,l,nd,h=>by
  have h':L[i]?=some l:=by simpa using h
  rw[hAn,hB7]at nd;unfold mD;rw[hAn,qAz (λz=>nd.1 (by rw[Sum.inr.inj z];exact hAr (hAs h')))];exact qVw nd.2 h'
def qDs(ps:List Str)(e:Ps):List Key:=[Sum.inr (ptA ps e),Sum.inl (e.2:Nat)]
def qGk(ps:List Str)(H:Hp)(kvs:List (List Key×V))(L:List (Ps×Ps)):Prop:=Paired (λkv p=>kv.1=qDs ps p.1/\∃b,kv.2 = .ref b/\qBn ps H b p.2) kvs L
theorem qGk.ext{ps:List Str}{H H':Hp}{kvs:List (List Key×V)}{L:List (Ps×Ps)}(h:qGk ps H kvs L)(e:Ext H H'):qGk ps H' kvs L:=Paired.mapP h λ_ _ ⟨h1,b,h2,h3⟩=>⟨h1,b,h2,h3.ext e⟩
theorem qGk.set{ps:List Str}{H:Hp}{kvs:List (List Key×V)}{L:List (Ps×Ps)}(h:qGk ps H kvs L){d:Addr}(nt:∀ys,H d≠some (.tup ys))(o:HO):qGk ps (upd H d o) kvs L:=Paired.mapP h λ_ _ ⟨h1,b,h2,h3⟩=>⟨h1,b,h2,by
 unfold qBn at h3 ⊢;rw[qAb (λz=>nt _ (z▸h3))];exact h3⟩
def qNh(R:List (List Str)):List Ps->List (Ps×Ps)
 |[a,b]=>[(a,nxR R b),(b,nxR R a)]
 |_=>[]
theorem qMl{net:List Tr}{ps:List Str}{R:List (List Str)}(G:Rnd net ps R){e u:Ps}(he:e∈ends R)(hu:u∈ends R)(q:qDs ps e=qDs ps u):e=u:=by
 unfold qDs at q;have q1:ptA ps e=ptA ps u:=by
  have:=congrArg (·.head?) q;exact Sum.inr.inj (hAh this)
 have q2:(e.2:Int)=u.2:=by
  have:=congrArg (·.getLast?) q;exact Sum.inl.inj (hAh this)
 have i1:=qAs he;have i2:=qAs hu;exact Prod.ext (qN4 G i1 i2 q1) (by omega)
theorem qGk.none{net:List Tr}{ps:List Str}{R:List (List Str)}(G:Rnd net ps R){H:Hp}{e:Ps}(he:e∈ends R):∀ {kvs:List (List Key×V)} {L:List (Ps×Ps)},qGk ps H kvs L->(∀p∈L,p.1∈ends R)->e∉L.map (·.1)->valV kvs (qDs ps e)=Option.none
 |_,_,.nil,_,_=>rfl
 |_,_,@Paired.cons _ _ _ kv p _ _ h t,m,n=>by
  rw[hAn]at n;have n1:=λz=>n (hAg.mpr (.inl z))
  rw[qAz (λz=>n1 (qMl G (m _ hAb) he (h.1▸z)).symm)];exact qGk.none G he t (λp hp=>m p (hAe _ hp)) λz=>n (hAe _ z)
theorem qGk.some{net:List Tr}{ps:List Str}{R:List (List Str)}(G:Rnd net ps R){H:Hp}{e u:Ps}(he:e∈ends R):∀ {kvs:List (List Key×V)} {L:List (Ps×Ps)},qGk ps H kvs L->(∀p∈L,p.1∈ends R)->(L.map (·.1)).Nodup->(e,u)∈L->∃b,valV kvs (qDs ps e)=Option.some (.ref b)/\qBn ps H b u
 |_,_,.nil,_,_,m=>by cases m
 |_,_,@Paired.cons _ _ _ kv p _ _ h t,m,nd,i=>by
  rw[hAn,hB7]at nd;obtain⟨h1,b,h2,h3⟩:=h;rcases hAg.mp i with z|z
  ·subst z;exact⟨b,by rw[qBc h1,h2],h3⟩
  ·have ne:p.1≠e:=λq=>nd.1 (by rw[q];exact hAr (f:=Prod.fst) z)
   obtain⟨b',v,x⟩:=qGk.some G he t (λp hp=>m p (hAe _ hp)) nd.2 z;exact⟨b',by rw[qAz (λq=>ne (qMl G (m _ hAb) he (h1▸q)))];exact v,x⟩
theorem qT3{net:List Tr}{ps:List Str}{R:List (List Str)}(G:Rnd net ps R):onL R=(grp (scan R)).flatMap λp=>qNh R p.2:=by
 rw[qW9 G];refine congrArg (λf=>List.flatMap f (grp (scan R))) (funext λp=>?_);obtain⟨x,l⟩:=p
 match l with
 |[]=>rfl
 |[a]=>rfl
 |[a,b]=>rfl
 |a :: b :: c :: r=>rfl
def qU6:Sp:=λvs H Q _=>∃(p:Addr) (net:List Tr) (L:List (Str×List Str)),vs=[.ref p]/\qF4 H p L/\L.length<=24/\(∀l∈L,l.2.length<=24)/\Rnd net (L.map (·.1)) (L.map (·.2))/\∀(r:Addr) (H':Hp) (kvs:List (List Key×V)),Ext H H'->H r=none->H' r=some (.dT kvs)->qGk (L.map (·.1)) H' kvs (onL (L.map (·.2)))->Q (.ref r) H'
section
variable{P:Program}{w:World}{K:PySem.W.Frag}{mg:Str->Option Value}{base:Heap}{f f1 f2 f3:Addr}{fd fd1 fd2 fd3:FuncData}
noncomputable abbrev wyN:List Str:=["lists","many","told","one","other","end","point","place"]
theorem qF5:FnScope wyN ["lists"] (qAc qTn):=fsk
def qZe(K:PySem.W.Frag):List V->Hp->VK->Prop:=λxs H Q=>∃p ys,xs=[.ref p]/\(SqL K H p ys\/SqT K H p ys)/\Q (.int ys.length) H
theorem qTe{net:List Tr}{ps:List Str}{R:List (List Str)}(G:Rnd net ps R){i:Nat}{p:Str×List Ps}(h:(grp (scan R))[i]?=some p):∃a b,p.2=[a,b]/\a∈ends R/\b∈ends R/\a∉((grp (scan R)).take i).flatMap (·.2)/\b∉((grp (scan R)).take i).flatMap (·.2)/\b≠a:=by
 obtain⟨e,he,q⟩:=qMs G p (hAs h);have hf:=qAw (qC2 G) he;have nd:(onK R).Nodup:=(qC0 (R:=R)).nodup_iff.mpr (qAy R);have sp:onK R=((grp (scan R)).take i).flatMap (·.2)++(p.2++((grp (scan R)).drop (i+1)).flatMap (·.2)):=by
  unfold onK
  conv=>lhs;rw[<-hDr i (grp (scan R)),hCi]
  rw[List.drop_eq_getElem_cons (qBj h),hDb,(hAz.mp h).2]
 rw[sp,q]at nd;have n3:=(hB6.mp nd).2.2;refine⟨e,farR R e,q,he,hf.1,λz=>n3 _ z _ (by simp) rfl,λz=>n3 _ z _ (by simp) rfl,hf.2.1⟩
theorem qEq{net:List Tr}{ps:List Str}{R:List (List Str)}(G:Rnd net ps R)(i:Nat):(((grp (scan R)).take i).flatMap λp=>qNh R p.2).map (·.1)=((grp (scan R)).take i).flatMap (·.2):=by
 have go:∀l:List (Str×List Ps),(∀p∈l,∃a b,p.2=[a,b])->(l.flatMap λp=>qNh R p.2).map (·.1)=l.flatMap (·.2):=by
  intro l
  induction l with
  |nil=>intro _;rfl
  |cons p l ih =>
   intro h;obtain⟨a,b,q⟩:=h p hAb;rw[hDb,hDb,hAf,ih λp hp=>h p (hAe _ hp),q];rfl
 refine go _ λp hp=>?_
 obtain⟨e,_,q⟩:=qMs G p (hDf hp);exact⟨_,_,q⟩
theorem PE.setT{ps:List Str}{H0 H:Hp}{d:Addr}{kvs:List (Key×V)}{P:List (Str×List Ps)}(h:PE ps H0 H kvs P){kvs':List (List Key×V)}(hd:H d=Option.some (HO.dT kvs'))(o:HO):PE ps H0 (upd H d o) kvs P:=Paired.mapP h λ_ _ ⟨h1,a,bs,h2,h3,h4,h5⟩=>⟨h1,a,bs,h2,by
 have ne:a≠d:=λz=>by rw[z,hd]at h3;cases h3
 rw[qAb ne];exact h3,Paired.mapP h4 λb e z=>by
 have ne:b≠d:=λw=>by unfold qBn at z;rw[w,hd]at z;cases z
 unfold qBn;rw[qAb ne];exact z,h5⟩
theorem zBc{ps:List Str}{H:Hp}{bs:List Addr}{e u:Ps}(h:Paired (qBn ps H) bs [e,u]):∃b1 b2,bs=[b1,b2]/\qBn ps H b1 e/\qBn ps H b2 u:=by
 cases h with
 |cons h1 t =>
  cases t with
  |cons h2 t=>cases t;exact⟨_,_,rfl,h1,h2⟩
theorem qId{L:List (Str×List Str)}(lt:L.length<=24)(lr:∀l∈L,l.2.length<=24):(ends (L.map (·.2))).length<=576:=by
 have h:∀n,n<=L.length->((List.range n).flatMap λi=>(List.range (lenR (L.map (·.2)) i)).map λj=>(i,j)).length<=24*n:=λn=>by
  induction n with
  |zero=>intro _;exact hAj _
  |succ n ih =>
   intro hn;rw[hBv,hCi,hAk,List.flatMap_singleton,hA4,hB1];have:=ih (by omega);have h2:lenR (L.map (·.2)) n<=24:=by
    unfold lenR qAx;rw[hAa,hAc,hA8 (show n<L.length by omega)];exact lr _ (hBy _)
   omega
 have:=h L.length (hAj _);unfold ends;rw[hA4];omega
theorem zBi{net:List Tr}{L:List (Str×List Str)}(RN:Rnd net (L.map (·.1)) (L.map (·.2))){e:Ps}(he:e∈ends (L.map (·.2))):valV (mD L) (Sum.inr (ptA (L.map (·.1)) e))=some (.int (lenR (L.map (·.2)) e.1:Nat))/\0<lenR (L.map (·.2)) e.1:=by
 have h1:=qAs he;rw[hA4]at h1;have h2:=qAn.mp he;have h3:=qVw RN.pts.1 (hA8 h1);have h4:ptA (L.map (·.1)) e=(L[e.1]).1:=by
  show List.getD (α:=Str) (L.map (·.1)) e.1 ""=_;rw[hAa,hAc,hA8 h1];rfl
 have h5:lenR (L.map (·.2)) e.1=(L[e.1]).2.length:=by
  unfold lenR qAx;rw[hAa,hAc,hA8 h1];rfl
 rw[h4,h5];exact⟨h3,by rw[<-h5];omega⟩
theorem qXa(F:Fun K "ways_on" "ways_on" qTn f fd)(G:Cl P w K mg base CX0 1 f1 fd1 ["lists"] qU8 "tie_ends")(ml:mg "len"=none):FnOk P w K mg base CX0 2 f fd ["lists"] qU6:=by
 refine F.okA qF5 λcdv A outer s H vs Q E hr h=>?_
 obtain⟨p,net,L,rfl,la,lt,lr,RN,q⟩:=h;obtain⟨as,hp,pr⟩:=id la;have las:=pr.length;refine⟨_,qAa (zBa (i:=1) qMu (λ_=>rfl) (N:=wyN) (sc:=qAc qTn) (N':=["point","ties"]) (sub:=[none,none]) rfl rfl (CmpOk.of (by decide +kernel)) rfl (qA1 (pv 0))
   (λC s H fp=>⟨(show PG _ _ (qPt K 2 _) from qBt rfl (qAg (qAf (i:=0) (by show(["point","ties"]:List Str).Nodup;decide) rfl (Or.inl rfl)) (qAg (qAf (i:=1) (by show(["point","ties"]:List Str).Nodup;decide) rfl (Or.inl rfl)) qA3))),qBk,
    λacc=>qIz rfl (pv 0) (qAh (show qCa _ _ (qZe K) from qAj) rfl ml boot_len (pa1 (pv 1)))⟩) qF5.nd rfl (Or.inl rfl))
  (qAa (qAr (i:=2) qF5.nd rfl (Or.inl rfl) qIy)
  (qAa (qB3 PassesOwn.never rfl (qQ4 (qBf G hr rfl .nil qBg (pa1 (pv 0)))) (qW3 rfl (qAg (qAf (i:=3) qF5.nd rfl (Or.inl rfl)) (qAg (qAf (i:=4) qF5.nd rfl (Or.inl rfl)) qA3)))
   (qAi (qB3 PassesOwn.never rfl (qQ5 (qB4 (qAe (qB4 (qAe (pv 3) (pa1 (pv 4)))) (pa1 (qB4 (qAe (pv 4) (pa1 (pv 3)))))))) (qBt rfl (qAg (qAf (i:=5) qF5.nd rfl (Or.inl rfl)) (qAg (qBt rfl (qAg (qAf (i:=6) qF5.nd rfl (Or.inl rfl)) (qAg (qAf (i:=7) qF5.nd rfl (Or.inl rfl)) qA3))) qA3)))
    (qAi (qDi (qCh hr) (pv 2) (pv 5) (qB4 (qAe (pv 6) (pa1 (qA5 qEa (qA5 qCq (pv 7) qAk) (qCv (qCh hr) (pv 1) (pv 6) (λ_ _=>rfl)))))) rfl)))))
  (qAi (qA2 (pv 2))))),?_⟩
 refine⟨_,rfl,p,rfl,⟨_,SqL.of hp⟩,?_⟩;have nd:=RN.pts.1;have lA:as.length=L.length:=las;refine qOo (xs:=as.map V.ref) (λi kvs σ H2=>H2=H/\(∃x y:Option V,σ=[x,y])/\kvs=mD (L.take i)) ⟨rfl,⟨none,none,rfl⟩,rfl⟩ (λi kvs σ H2 _ h=>by rw[h.1];exact SqL.of hp) ?_ ?_
 ·rintro i x kvs σ H2 hx ⟨rfl,⟨x0,x1,rfl⟩,rfl⟩;have hi:i<as.length:=by
   have:=(hAz.mp hx).1
   rwa [hA4]at this
  obtain⟨l,hl,r,ha,hr'⟩:=qAo pr (hA8 hi);have ex:x = .ref as[i]:=by
   rw[hAc,hA8 hi]at hx;exact(hAh hx).symm
  subst ex;refine⟨_,_,rfl,SqT.of ha,rfl,_,_,rfl,_,_,rfl,rfl,iteT (B:=False) ?_⟩;refine⟨_,rfl,_,rfl,_,_,rfl,.inl (SqL.of hr'),Sum.inr l.1,rfl,?_,nxg (qBj hx) ⟨rfl,⟨_,_,rfl⟩,?_⟩⟩
  ·unfold mD;rw[hA4,hB2];exact qAd (by omega)
  ·rw[qAl hl];have nv:valV (mD (L.take i)) (Sum.inr l.1)=none:=qRr λz=>by
    have n2:=nd;rw[<-hDr i L,hAf,hB6]at n2;refine n2.2.2 _ z _ ?_ rfl;rw[List.drop_eq_getElem_cons (qBj hl),(hAz.mp hl).2];simp
   rw[qCn _ nv];unfold mD;rw[hAf,hA4];rfl
 rintro kvs σ H2 ⟨rfl,_,rfl⟩ d hd;rw[hA4,lA,hBh];have m0:=Ext.new hd (.dK (mD L));intro t ht;have m1:=m0.trans (Ext.new ht (.dT []));have hd0:H2 d=none:=hd;have ht0:H2 t=none:=m0.none ht;have ne:t≠d:=λz=>by rw[z,upd_same]at ht;cases ht
 refine⟨_,rfl,p,L,rfl,⟨as,m1 _ _ hp,Paired.mapP pr λa l ⟨r,ha,hr'⟩=>⟨r,m1 _ _ ha,m1 _ _ hr'⟩⟩,lt,lr,λdd H3 kvs e3 hdd hkv pe=>?_⟩;have e4:=m1.trans e3;have hdd0:H2 dd=none:=m1.none hdd;have ntd:∀ {o},upd (upd H2 d (.dK (mD L))) t (.dT []) dd=some o->False:=λz=>by rw[hdd]at z;cases z
 have net_:t≠dd:=λz=>ntd (by rw[<-z];exact upd_same)
 have ned:d≠dd:=λz=>ntd (by rw[<-z,qAb (Ne.symm ne)];exact upd_same)
 have ht3:H3 t=some (.dT []):=e3 _ _ upd_same;have hd3:H3 d=some (.dK (mD L)):=e3 _ _ (by rw[qAb (Ne.symm ne)];exact upd_same);have pl:=pe.length;refine⟨dd,kvs,rfl,hkv,λo=>?_⟩;have pe':PE (L.map (·.1)) (upd (upd H2 d (.dK (mD L))) t (.dT [])) (upd H3 dd (.frz o (.dK kvs))) kvs (grp (scan (L.map (·.2)))):=PE.set pe hkv _;refine qUk (λi σ H5=>∃(x3 x4 x5 x6 x7:Option V) (ws:List (List Key×V)),σ=[some (.ref p),some (.ref d),some (.ref t),x3,x4,x5,x6,x7]/\Ext H2 H5/\H5 d=some (.dK (mD L))/\H5 dd=some (.frz o (.dK kvs))/\H5 t=some (.dT ws)/\PE (L.map (·.1)) (upd (upd H2 d (.dK (mD L))) t (.dT [])) H5 kvs (grp (scan (L.map (·.2))))/\qGk (L.map (·.1)) H5 ws (((grp (scan (L.map (·.2)))).take i).flatMap λp=>qNh (L.map (·.2)) p.2))
  ⟨_,_,_,_,_,[],rfl,e4.over hdd0 _,by rw[qAb ned];exact hd3,upd_same,by rw[qAb net_];exact ht3,pe',.nil⟩ ?_ ?_ ?_
 ·rintro i σ H5 _ ⟨_,_,_,_,_,_,_,_,_,h,_⟩;exact h
 ·rintro i kv σ H5 hkvi ⟨x3,x4,x5,x6,x7,ws,rfl,e5,hd5,hdd5,ht5,pe5,wy5⟩;obtain⟨pp,hpp,k1,a,bs,ev,ha,hbs,_⟩:=qAo pe5 hkvi;obtain⟨e,u,eq,he,hu,ne1,nu1,nue⟩:=qTe RN hpp;rw[eq]at hbs;obtain⟨b1,b2,rfl,hb1,hb2⟩:=zBc hbs;refine⟨a,_,ev,SqL.of ha,rfl,_,_,rfl,_,_,rfl,rfl,?_⟩;refine⟨_,rfl,_,rfl,(by show 2<=sizeLine;decide),λT1 hT1=>⟨_,rfl,_,rfl,(by show 2<=sizeLine;decide),λT2 hT2=>⟨(by show 2<=sizeLine;decide),λT3 hT3=>?_⟩⟩⟩;have x1:=Ext.new hT1 (.tup [V.ref b1,V.ref b2]);have x2:=Ext.new hT2 (.tup [V.ref b2,V.ref b1]);have x3':=Ext.new hT3 (.tup [V.ref T1,V.ref T2]);have x13:=(x1.trans x2).trans x3';refine⟨T3,rfl,⟨_,SqT.of upd_same⟩,?_⟩;have wl:ws.length<=600:=by
   have h1:=wy5.length;have h2:=congrArg List.length (qEq RN i);rw[hA4]at h2;have h3:=(qC0 (R:=L.map (·.2))).length_eq;have h4:(((grp (scan (L.map (·.2)))).take i).flatMap (·.2)).length<=(onK (L.map (·.2))).length:=by
    unfold onK
    conv=>rhs;rw[<-hDr i (grp (scan (L.map (·.2)))),hCi,hAk]
    omega
   have h5:=qId lt lr;omega
  have inL:∀y∈((grp (scan (L.map (·.2)))).take i).flatMap (λp=>qNh (L.map (·.2)) p.2),y.1∈ends (L.map (·.2)):=λy hy=>by
   have h1:=hAr (f:=Prod.fst) hy;rw[qEq RN i]at h1;refine(qC0 (R:=L.map (·.2))).mem_iff.mp ?_;unfold onK;rw[<-hDr i (grp (scan (L.map (·.2)))),hCi];exact hAx _ h1
  refine qX4 (xs:=[.ref T1,.ref T2]) (λj σ H6=>∃(x5 x6 x7:Option V) (ws':List (List Key×V)),σ=[some (.ref p),some (.ref d),some (.ref t),some (.ref b1),some (.ref b2),x5,x6,x7]/\Ext H2 H6/\H6 d=some (.dK (mD L))/\H6 dd=some (.frz o (.dK kvs))/\H6 t=some (.dT ws')/\PE (L.map (·.1)) (upd (upd H2 d (.dK (mD L))) t (.dT [])) H6 kvs (grp (scan (L.map (·.2))))/\H6 T1=some (.tup [V.ref b1,V.ref b2])/\H6 T2=some (.tup [V.ref b2,V.ref b1])/\H6 T3=some (.tup [V.ref T1,V.ref T2])/\qBn (L.map (·.1)) H6 b1 e/\qBn (L.map (·.1)) H6 b2 u/\ws'.length<=600+j/\qGk (L.map (·.1)) H6 ws' ((((grp (scan (L.map (·.2)))).take i).flatMap λp=>qNh (L.map (·.2)) p.2)++(qNh (L.map (·.2)) [e,u]).take j))
   ⟨_,_,_,ws,rfl,e5.trans x13,x13 _ _ hd5,x13 _ _ hdd5,x13 _ _ ht5,pe5.ext x13,(x2.trans x3') _ _ upd_same,x3' _ _ upd_same,upd_same,hb1.ext x13,hb2.ext x13,wl,by rw[List.take_zero,hBr];exact wy5.ext x13⟩ ?_ ?_ ?_
  ·rintro j σ H6 _ ⟨_,_,_,_,_,_,_,_,_,_,_,_,h,_⟩;exact SqT.of h
  ·rintro j x σ H6 hx ⟨x5,x6,x7,ws',rfl,e6,hd6,hdd6,ht6,pe6,hT16,hT26,hT36,hb16,hb26,wl6,wy6⟩;have key:∃T ba bb ea eb,x = .ref T/\H6 T=some (.tup [V.ref ba,V.ref bb])/\qBn (L.map (·.1)) H6 ba ea/\qBn (L.map (·.1)) H6 bb eb/\ea∈ends (L.map (·.2))/\eb∈ends (L.map (·.2))/\(qNh (L.map (·.2)) [e,u])[j]?=some (ea,nxR (L.map (·.2)) eb)/\ea∉((((grp (scan (L.map (·.2)))).take i).flatMap λp=>qNh (L.map (·.2)) p.2)++(qNh (L.map (·.2)) [e,u]).take j).map (·.1):=by
    match j,hx with
    |0,hx =>
     refine⟨T1,b1,b2,e,u,(hAh hx).symm,hT16,hb16,hb26,he,hu,rfl,?_⟩;rw[List.take_zero,hBr,qEq RN i];exact ne1
    |1,hx =>
     refine⟨T2,b2,b1,u,e,(hAh hx).symm,hT26,hb26,hb16,hu,he,rfl,?_⟩;rw[hAf,qEq RN i];intro z;rcases hAp.mp z with z|z
     ·exact nu1 z
     ·exact nue (by simpa [qNh] using z)
    |j+2,hx=>simp at hx
   obtain⟨T,ba,bb,ea,eb,rfl,hT,ha',hb',iea,ieb,at_,nin⟩:=key;have hj:j<2:=qBj hx;obtain⟨mv,mp⟩:=zBi RN ieb;refine⟨T,_,rfl,SqT.of hT,rfl,_,_,rfl,_,_,rfl,⟨bb,_,rfl,SqT.of hb',rfl,_,_,rfl,_,_,rfl,rfl,rfl,?_⟩⟩;have dg:qD3 H6 d (.str (ptA (L.map (·.1)) eb)) (some (.int (lenR (L.map (·.2)) eb.1:Nat))):=by
    have:=qD3.k (k:=Sum.inr (ptA (L.map (·.1)) eb)) hd6
    rwa [mv]at this
   refine⟨_,rfl,_,rfl,_,_,rfl,rfl,_,rfl,_,rfl,d,_,rfl,dg,_,_,rfl,rfl,(by omega),(by show 2<=sizeLine;decide),λT4 hT4=>?_⟩;have ev2:(((eb.2:Nat):Int)+1) % ((lenR (L.map (·.2)) eb.1:Nat):Int)=((nxR (L.map (·.2)) eb).2:Nat):=by
    show _=(((eb.2+1) % lenR (L.map (·.2)) eb.1:Nat):Int);rw[Int.natCast_emod];rfl
   dsimp only;rw[ev2];have x4:=Ext.new hT4 (.tup [V.str (ptA (L.map (·.1)) eb),V.int ((nxR (L.map (·.2)) eb).2:Nat)]);have nwe:qBn (L.map (·.1)) (upd H6 T4 (.tup [V.str (ptA (L.map (·.1)) eb),V.int ((nxR (L.map (·.2)) eb).2:Nat)])) T4 (nxR (L.map (·.2)) eb):=upd_same;revert x4 nwe;generalize upd _ _ _=H7;intro x4 nwe;have ht7:=x4 _ _ ht6;have wy7:=wy6.ext x4;have inL':∀y∈((((grp (scan (L.map (·.2)))).take i).flatMap λp=>qNh (L.map (·.2)) p.2)++(qNh (L.map (·.2)) [e,u]).take j),y.1∈ends (L.map (·.2)):=λy hy=>by
    rcases hAp.mp hy with z|z
    ·exact inL y z
    ·have:=hDf z;simp only[qNh,hAg,hC6,hFv]at this;rcases this with z|z <;> subst z <;> assumption
   have nv:=qGk.none RN iea wy7 inL' nin;have e7:=e6.trans x4;refine⟨_,rfl,_,rfl,t,_,rfl,qJx.t (k:=qDs (L.map (·.1)) ea) ht7 (show H7 ba=some (.tup ((qDs (L.map (·.1)) ea).map kV)) from x4 _ _ ha') (qAd (by omega)),?_⟩;have ntT:∀ys,H7 t≠some (.tup ys):=λys z=>by rw[ht7]at z;cases z
   have keep:∀ {b:Addr} {ob:HO},H7 b=some ob->(ob≠.dT ws')->upd H7 t (.dT (qCz ws' (qDs (L.map (·.1)) ea) (.ref T4))) b=some ob:=λ{b ob} h n=>by
    have nb:b≠t:=λz=>n (by rw[z,ht7]at h;exact(hAh h).symm)
    rw[qAb nb];exact h
   have pl':(qCz ws' (qDs (L.map (·.1)) ea) (.ref T4)).length<=600+(j+1):=by
    have:=qC4 ws' (qDs (L.map (·.1)) ea) (.ref T4);omega
   refine⟨_,_,_,qCz ws' (qDs (L.map (·.1)) ea) (.ref T4),rfl,e7.over ht0 _,keep (x4 _ _ hd6) (by simp),keep (x4 _ _ hdd6) (by simp),upd_same,PE.setT (pe6.ext x4) ht7 _,keep (x4 _ _ hT16) (by simp),keep (x4 _ _ hT26) (by simp),keep (x4 _ _ hT36) (by simp),keep (hb16.ext x4) (by simp),keep (hb26.ext x4) (by simp),pl',?_⟩;rw[qAl at_,<-hCk];have ew:qBn (L.map (·.1)) (upd H7 t (.dT (qCz ws' (qDs (L.map (·.1)) ea) (.ref T4)))) T4 ((ea,nxR (L.map (·.2)) eb):Ps×Ps).2:=by
    unfold qBn at nwe ⊢;exact keep nwe (by simp)
   have z:qGk (L.map (·.1)) (upd H7 t (.dT (qCz ws' (qDs (L.map (·.1)) ea) (.ref T4)))) (ws'++[(qDs (L.map (·.1)) ea,V.ref T4)]) _:=Paired.snc (qGk.set wy7 ntT _) ⟨rfl,T4,rfl,ew⟩;rw[<-qCn _ nv]at z;exact z
  ·rintro σ H6 ⟨x5,x6,x7,ws',rfl,e6,hd6,hdd6,ht6,pe6,hT16,hT26,hT36,hb16,hb26,wl6,wy6⟩;refine⟨_,_,_,_,_,ws',rfl,e6,hd6,hdd6,ht6,pe6,?_⟩;rw[qAl hpp,hCi,List.flatMap_singleton,eq];exact wy6
 ·rintro σ H5 ⟨x3,x4,x5,x6,x7,ws,rfl,e5,hd5,hdd5,ht5,pe5,wy5⟩;rw[pl,hBh,<-qT3 RN]at wy5;exact⟨_,rfl,q t H5 ws e5 ht0 ht5 wy5⟩
end
theorem qBn.set{ps:List Str}{H:Hp}{b a:Addr}{e:Ps}(h:qBn ps H b e)(nt:∀ys,H a≠some (.tup ys))(o:HO):qBn ps (upd H a o) b e:=by
 unfold qBn at h ⊢;rw[qAb (λz=>nt _ (z▸h))];exact h
theorem qOq{ps:List Str}{H:Hp}{a:Addr}{bs:List Addr}{xs:List Ps}(h:Paired (qBn ps H) bs xs)(nt:∀ys,H a≠some (.tup ys))(o:HO):Paired (qBn ps (upd H a o)) bs xs:=Paired.mapP h λ_ _ z=>z.set nt o
theorem qNt{net:List Tr}{ps:List Str}{R:List (List Str)}(G:Rnd net ps R){kvs:List (List Key×V)}{S:List Ps}(h:kvs.map (·.1)=S.map (qDs ps))(hS:∀e∈S,e∈ends R){e:Ps}(he:e∈ends R):(valV kvs (qDs ps e)).isSome=decide (e∈S):=by
 rw[hBq,hEv];constructor
 ·intro q;obtain⟨v,hv⟩:=hCy.mp q;have m:=qWc hv;rw[h]at m;obtain⟨u,hu,q⟩:=hAm.mp m;rw[<-qMl G (hS u hu) he q];exact hu
 ·intro m;cases hv:valV kvs (qDs ps e) with
  |some v=>rfl
  |none =>
   exact absurd (by rw[h];exact hAr m) (qTc hv)
def qNl:Sp:=λvs H Q _=>∃(p:Addr) (net:List Tr) (L:List (Str×List Str)),vs=[.ref p]/\qF4 H p L/\L.length<=24/\(∀l∈L,l.2.length<=24)/\Rnd net (L.map (·.1)) (L.map (·.2))/\∀(r:Addr) (H':Hp) (bs:List Addr) (xs:List Ps) (Fs:List (List Ps)),Ext H H'->H r=none->H' r=some (.lst (bs.map V.ref))->Paired (qBn (L.map (·.1)) H') bs xs->xs.length<=576->Fs.map List.head?=xs.map some->IsF (L.map (·.2)) Fs->Q (.ref r) H'
section
variable{P:Program}{w:World}{K:PySem.W.Frag}{mg:Str->Option Value}{base:Heap}{f f1 f2 f3:Addr}{fd fd1 fd2 fd3:FuncData}
noncomputable abbrev fsN:List Str:=["lists","on","told","seen","start","end"]
theorem qD4:FnScope fsN ["lists"] (qAc qL5):=fsk
theorem qRf(F:Fun K "face_starts" "face_starts" qL5 f fd)(G:Cl P w K mg base CX0 2 f1 fd1 ["lists"] qU6 "ways_on"):FnOk P w K mg base CX0 3 f fd ["lists"] qNl:=by
 refine F.okA qD4 λcdv A outer s H vs Q E hr h=>?_
 obtain⟨p,net,L,rfl,la,lt,lr,RN,q⟩:=h;refine⟨_,qAa (qAr (i:=1) qD4.nd rfl (Or.inl rfl) (qBf G hr rfl .nil qBg (pa1 (pv 0))))
  (qAa (qZi (i:=2) (j:=3) rfl qD4.nd rfl rfl (by decide) rfl rfl (qAe (qBo qC3) (pa1 qIy)) rfl)
  (qAa (qB3 PassesOwn.never rfl (qTt (pv 1)) (qAf (i:=4) qD4.nd rfl (Or.inl rfl))
   (qAa (qC9 (qQv (qKj (qCh hr) (pv 4) (pv 3))) (qAi (qDa (qF8 hBo hE1 hE2 qE3 (pv 2) (pa1 (pv 4))))) qBy)
   (qAa (qAr (i:=5) qD4.nd rfl (Or.inl rfl) (pv 4))
   (qAi (qN5 PassesOwn.never (qQv (qKj (qCh hr) (pv 5) (pv 3)))
    (qAa (qDi (qCh hr) (pv 3) (pv 5) qDf rfl)
    (qAi (qAr (i:=5) qD4.nd rfl (Or.inl rfl) (qCv (qCh hr) (pv 1) (pv 5) (λ_ _=>rfl))))))))))
  (qAi (qA2 (pv 2))))),?_⟩
 refine⟨_,rfl,p,net,L,rfl,la,lt,lr,RN,λon H1 kvs e1 hon0 hon wy=>?_⟩;refine⟨(by show 0<=sizeLine;exact hAy _),λtd htd=>?_⟩;intro sn hsn;have tw:=qC2 RN;have m1:=Ext.new htd (.lst []);have m2:=m1.trans (Ext.new hsn (.dT []));have htd0:H td=none:=e1.none htd;have hsn0:H sn=none:=(e1.trans m1).none hsn;have nts:sn≠td:=λz=>by rw[z,upd_same]at hsn;cases hsn
 have nto:td≠on:=λz=>by rw[z,hon]at htd;cases htd
 have nso:sn≠on:=λz=>by rw[z,m1 _ _ hon]at hsn;cases hsn
 have lK:kvs.length=(onK (L.map (·.2))).length:=by
  have:=wy.length;rw[this];unfold onL;rw[hA4]
 have lE:(onK (L.map (·.2))).length=(ends (L.map (·.2))).length:=(qC0 (R:=L.map (·.2))).length_eq;have l576:=qId lt lr;have hon2:=m2 _ _ hon;refine⟨_,_,rfl,_,rfl,on,kvs,rfl,hon2,λo=>?_⟩;have wy2:=wy.ext m2;have ntO:∀ys,(upd (upd H1 td (.lst [])) sn (.dT [])) on≠some (.tup ys):=λys z=>by rw[hon2]at z;cases z
 refine qSc (λi σ H3=>∃(x4 x5:Option V) (sk:List (List Key×V)) (bs:List Addr) (xs:List Ps) (Fs:List (List Ps)),σ=[some (.ref p),some (.ref on),some (.ref td),some (.ref sn),x4,x5]/\Ext H H3/\H3 on=some (.frz o (.dT kvs))/\qGk (L.map (·.1)) H3 kvs (onL (L.map (·.2)))/\H3 td=some (.lst (bs.map V.ref))/\Paired (qBn (L.map (·.1)) H3) bs xs/\xs.length<=i/\H3 sn=some (.dT sk)/\sk.map (·.1)=Fs.flatten.map (qDs (L.map (·.1)))/\StF (L.map (·.2)) xs Fs ((onK (L.map (·.2))).take i))
  ⟨_,_,[],[],[],[],rfl,(e1.trans m2).over hon0 _,upd_same,qGk.set wy2 ntO _,by rw[qAb nto,qAb (Ne.symm nts)];exact upd_same,.nil,hAj _,by rw[qAb nso];exact upd_same,rfl,qYy RN⟩ ?_ ?_ ?_
 ·rintro i σ H3 _ ⟨_,_,_,_,_,_,_,_,h,_⟩;exact h
 ·rintro i kv b σ H3 hkv hb ⟨x4,x5,sk,bs,xs,Fs,rfl,e3,hon3,wy3,htd3,pb3,lx,hsn3,hsk,S⟩;obtain⟨ee,hee,hk,_⟩:=qAo wy3 hkv;obtain⟨x,hx,rfl⟩:∃x,(onK (L.map (·.2)))[i]?=some x/\(x,onR (L.map (·.2)) x)=ee:=by
   unfold onL at hee;rw[hAc]at hee;cases e:(onK (L.map (·.2)))[i]? with
   |none=>rw[e]at hee;cases hee
   |some x=>rw[e]at hee;exact⟨x,rfl,hAh hee⟩
  have hxE:x∈ends (L.map (·.2)):=(qC0 (R:=L.map (·.2))).mem_iff.mp (hAs hx);have hbx:qBn (L.map (·.1)) H3 b x:=by unfold qBn;rw[hb,hk];rfl
  have inS:∀e∈Fs.flatten,e∈ends (L.map (·.2)):=S.dn.inE;have sv:=qNt RN hsk inS hxE;have hi576:i<576:=by have:=qBj hkv;omega
  have dg3:∀ {H4:Hp} {b':Addr} {u:Ps} {sk':List (List Key×V)},H4 sn=some (.dT sk')->qBn (L.map (·.1)) H4 b' u->qD3 H4 sn (.ref b') (valV sk' (qDs (L.map (·.1)) u)):=λh1 h2=>qD3.t h1 h2
  refine⟨_,rfl,_,rfl,sn,_,rfl,dg3 hsn3 hbx,_,rfl,?_⟩;rw[sv];by_cases m:x∈Fs.flatten
  ·rw[hEt m];refine qFs (show qYr _ _ _ from ?_);refine⟨_,rfl,?_⟩;refine⟨λm' σ H4=>m'=0/\σ=[some (.ref p),some (.ref on),some (.ref td),some (.ref sn),some (.ref b),some (.ref b)]/\H4=H3,⟨0,rfl,rfl,rfl⟩,?_⟩;rintro m' σ H4 ⟨rfl,rfl,rfl⟩;refine⟨_,rfl,_,rfl,sn,_,rfl,dg3 hsn3 hbx,_,rfl,?_⟩;rw[sv,hEt m];refine qFs ?_;refine⟨_,_,sk,bs,xs,Fs,rfl,e3,hon3,wy3,htd3,pb3,by omega,hsn3,hsk,?_⟩;rw[qAl hx];exact qYx RN S m
  ·rw[hEu m];refine iteT ?_;refine⟨_,rfl,.inl ⟨rfl,_,SqL.of htd3⟩,_,rfl,td,_,_,rfl,rfl,htd3,?_,?_⟩
   ·rw[hA4,pb3.length];exact qAd (by omega)
   have e4:Ext H (upd H3 td (.lst (bs.map V.ref++[V.ref b]))):=e3.over htd0 _;have ntT:∀ys,H3 td≠some (.tup ys):=λys z=>by rw[htd3]at z;cases z
   have hon4:upd H3 td (.lst (bs.map V.ref++[V.ref b])) on=some (.frz o (.dT kvs)):=by rw[qAb (Ne.symm nto)];exact hon3
   have wy4:=qGk.set wy3 ntT (.lst (bs.map V.ref++[V.ref b]));have htd4:upd H3 td (.lst (bs.map V.ref++[V.ref b])) td=some (.lst ((bs++[b]).map V.ref)):=by rw[upd_same,hAf];rfl
   have hbx4:=hbx.set ntT (.lst (bs.map V.ref++[V.ref b]));have pb4:Paired (qBn (L.map (·.1)) (upd H3 td (.lst (bs.map V.ref++[V.ref b])))) (bs++[b]) (xs++[x]):=Paired.snc (qOq pb3 ntT _) hbx4;have hsn4:upd H3 td (.lst (bs.map V.ref++[V.ref b])) sn=some (.dT sk):=by rw[qAb nts];exact hsn3
   revert e4 hon4 wy4 htd4 hbx4 pb4 hsn4;generalize upd _ _ _=H4;intro e4 hon4 wy4 htd4 hbx4 pb4 hsn4;refine⟨_,rfl,?_⟩;refine⟨λm' σ H5=>∃(b':Addr) (y:Ps) (sk':List (List Key×V)) (U:List Ps),σ=[some (.ref p),some (.ref on),some (.ref td),some (.ref sn),some (.ref b),some (.ref b')]/\Ext H H5/\H5 on=some (.frz o (.dT kvs))/\qGk (L.map (·.1)) H5 kvs (onL (L.map (·.2)))/\H5 td=some (.lst ((bs++[b]).map V.ref))/\Paired (qBn (L.map (·.1)) H5) (bs++[b]) (xs++[x])/\H5 sn=some (.dT sk')/\qBn (L.map (·.1)) H5 b' y/\sk'.map (·.1)=(Fs.flatten++U).map (qDs (L.map (·.1)))/\m'+(Fs.flatten++U).length=(ends (L.map (·.2))).length/\((U=[]/\y=x)\/∃l,U=x :: l/\Wk (onR (L.map (·.2))) (ends (L.map (·.2))) Fs.flatten x l y),
    ⟨(ends (L.map (·.2))).length-Fs.flatten.length,b,x,sk,[],rfl,e4,hon4,wy4,htd4,pb4,hsn4,hbx4,by rw[hBr];exact hsk,?_,.inl ⟨rfl,rfl⟩⟩,?_⟩
   ·rw[hBr];have:=hBe S.dn.nd λe he=>inS e he
    omega
   rintro m' σ H5 ⟨b',y,sk',U,rfl,e5,hon5,wy5,htd5,pb5,hsn5,hby,hsk',hm,hU⟩;have hyE:y∈ends (L.map (·.2)):=by
    rcases hU with ⟨_,rfl⟩|⟨l,_,wk⟩
    ·exact hxE
    ·exact wk.yE λe he=>qOc tw he
   have hUE:∀e∈Fs.flatten++U,e∈ends (L.map (·.2)):=λe he=>by
    rcases hAp.mp he with z|z
    ·exact inS e z
    ·rcases hU with ⟨rfl,_⟩|⟨l,rfl,wk⟩
     ·cases z
     ·exact wk.inE e z
   have sv5:=qNt RN hsk' hUE hyE;refine⟨_,rfl,_,rfl,sn,_,rfl,dg3 hsn5 hby,_,rfl,?_⟩;rw[sv5];by_cases my:y∈Fs.flatten++U
   ·rw[hEt my];refine qFs ?_;refine⟨_,_,sk',bs++[b],xs++[x],Fs++[U],rfl,e5,hon5,wy5,htd5,pb5,by rw[hAk];exact hDw lx 1,hsn5,?_,?_⟩
    ·rw[hE7,hsk'];simp
    ·rcases hU with ⟨rfl,rfl⟩|⟨l,rfl,wk⟩
     ·rw[hBr]at my;exact absurd my m
     ·rw[qAl hx];exact qYz RN S wk (hAp.mp my)
   ·rw[hEu my];refine iteT ?_;have my':=λz=>my (hAp.mpr z)
    have hU':∃l,U++[y]=x :: l/\Wk (onR (L.map (·.2))) (ends (L.map (·.2))) Fs.flatten x l (onR (L.map (·.2)) y):=by
     rcases hU with ⟨rfl,rfl⟩|⟨l,rfl,wk⟩
     ·exact⟨[],rfl,Wk.one hyE m⟩
     ·exact⟨l++[y],by simp,wk.more (λe he=>qOc tw he) (λz=>my' (.inl z)) λz=>my' (.inr z)⟩
    have lt':(Fs.flatten++(U++[y])).length<=(ends (L.map (·.2))).length:=by
     obtain⟨l,el,wk⟩:=hU';rw[el];refine hBe (hB6.mpr ⟨S.dn.nd,wk.nd,λa ha c hc q=>wk.out c hc (q▸ha)⟩) λe he=>?_
     rcases hAp.mp he with z|z
     ·exact inS e z
     ·exact wk.inE e z
    have lsk:sk'.length=(Fs.flatten++U).length:=by
     have:=congrArg List.length hsk'
     rwa [hA4,hA4]at this
    rw[hAk,hAk,hBf]at lt';rw[hAk]at hm lsk;refine⟨_,λσ' H' h=>h,?_⟩;refine⟨_,rfl,_,rfl,sn,_,rfl,qJx.t (k:=qDs (L.map (·.1)) y) hsn5 (show H5 b'=some (.tup ((qDs (L.map (·.1)) y).map kV)) from hby) (qAd (by omega)),?_⟩;have ntS:∀ys,H5 sn≠some (.tup ys):=λys z=>by rw[hsn5]at z;cases z
    have nv:valV sk' (qDs (L.map (·.1)) y)=none:=by
     cases hv:valV sk' (qDs (L.map (·.1)) y) with
     |none=>rfl
     |some v=>rw[hv,hEu my]at sv5;cases sv5
    have eo:=Ext.over e5 hsn0 (.dT (qCz sk' (qDs (L.map (·.1)) y) (V.bl true)));have hon6:upd H5 sn (.dT (qCz sk' (qDs (L.map (·.1)) y) (V.bl true))) on=some (.frz o (.dT kvs)):=by rw[qAb (Ne.symm nso)];exact hon5
    have wy6:=qGk.set wy5 ntS (.dT (qCz sk' (qDs (L.map (·.1)) y) (V.bl true)));have hby6:=hby.set ntS (.dT (qCz sk' (qDs (L.map (·.1)) y) (V.bl true)));have pb6:=qOq pb5 ntS (.dT (qCz sk' (qDs (L.map (·.1)) y) (V.bl true)));have htd6:upd H5 sn (.dT (qCz sk' (qDs (L.map (·.1)) y) (V.bl true))) td=some (.lst ((bs++[b]).map V.ref)):=by rw[qAb (Ne.symm nts)];exact htd5
    have hsn6:upd H5 sn (.dT (qCz sk' (qDs (L.map (·.1)) y) (V.bl true))) sn=some (.dT (qCz sk' (qDs (L.map (·.1)) y) (V.bl true))):=upd_same;revert eo hon6 wy6 hby6 pb6 htd6 hsn6;generalize upd _ _ _=H6;intro eo hon6 wy6 hby6 pb6 htd6 hsn6;have inLk:(y,onR (L.map (·.2)) y)∈onL (L.map (·.2)):=hAm.mpr ⟨y,(qC0 (R:=L.map (·.2))).mem_iff.mpr hyE,rfl⟩;have keysL:(onL (L.map (·.2))).map (·.1)=onK (L.map (·.2)):=by unfold onL;rw[hBi];exact List.map_id' _
    obtain⟨b2,hv2,hb2⟩:=qGk.some RN hyE wy6 (λpp hpp=>by
     have:=hAr (f:=Prod.fst) hpp;rw[keysL]at this;exact(qC0 (R:=L.map (·.2))).mem_iff.mp this) (by rw[keysL];exact(qC0 (R:=L.map (·.2))).nodup_iff.mpr (qAy _)) inLk
    have dg6:qD3 H6 on (.ref b') (some (.ref b2)):=by
     rw[<-hv2];exact .inr ⟨kvs,qDs (L.map (·.1)) y,b',.inr ⟨o,hon6⟩,rfl,(show H6 b'=some (.tup ((qDs (L.map (·.1)) y).map kV)) from hby6),rfl⟩
    refine⟨_,rfl,_,rfl,on,_,rfl,dg6,?_⟩;obtain⟨l,el,wk⟩:=hU';refine⟨m'-1,by omega,b2,onR (L.map (·.2)) y,qCz sk' (qDs (L.map (·.1)) y) (V.bl true),U++[y],rfl,eo,hon6,wy6,htd6,pb6,hsn6,hb2,?_,?_,.inr ⟨l,el,wk⟩⟩
    ·rw[qCn _ nv,hAf,hsk',<-hCk,hAf (l₂:=[y])];rfl
    ·rw[hAk,hAk,hBf];omega
 ·rintro σ H3 ⟨x4,x5,sk,bs,xs,Fs,rfl,e3,hon3,wy3,htd3,pb3,lx,hsn3,hsk,S⟩;rw[lK,hBh]at S;exact⟨_,rfl,q td H3 bs xs Fs e3 htd0 htd3 pb3 (by omega) S.hd (qY0 RN S λe he=>(qC0 (R:=L.map (·.2))).mem_iff.mpr he)⟩
end
end My
namespace L2
open PySem PySem.Spec PyProof.Rows
theorem fmc:∀ {l:List α},(∀i∈l,f i=g i)->l.filterMap f=l.filterMap g
 |[],_=>rfl
 |a :: l,h=>by rw[hCv,hCv,h a hAb,fmc λi hi=>h i (hAe _ hi)]
theorem qIn(its:List Value):slicePick its.toArray none none (some (-1))=its.reverse.toArray:=by
 unfold slicePick;have h1:sliceBounds none none (some (-1)) its.toArray.size=((its.length:Int)-1,-1,-1):=by
  unfold sliceBounds;simp
 rw[h1];have h2:sliceRange ((its.length:Int)-1) (-1) (-1)=(List.range its.length).map λk=>its.length-1-k:=by
  unfold sliceRange;have hc:(if (-1:Int) > 0 then (if (its.length:Int)-1 < -1 then (-1-((its.length:Int)-1) + -1-1) / -1 else 0) else (if (its.length:Int)-1 > -1 then ((its.length:Int)-1 - -1 - -1-1) / (- -1) else 0)).toNat=its.length:=by
   rw[hEr (by decide)];by_cases h:(its.length:Int)-1 > -1
   ·rw[hEs h];have:((its.length:Int)-1 - -1 - -1-1) / (- -1)=its.length:=by
     rw[show(- -1:Int)=1 by decide,Int.ediv_one];omega
    rw[this];exact hB8 _
   ·rw[hEr h];omega
  show List.map _ (List.range _)=_;rw[hc];refine hC9 λk hk=>?_
  have:=hAw.mp hk;omega
 show(List.filterMap _ (sliceRange ((its.length:Int)-1) (-1) (-1))).toArray=_;rw[h2,List.filterMap_map];congr 1;refine hDk λi=>?_
 have e:(List.range its.length).filterMap ((λx=>its.toArray[x]?)∘λk=>its.length-1-k)=(List.range its.length).filterMap λk=>its.reverse[k]?:=by
  refine fmc λk hk=>?_
  have hk':=hAw.mp hk;show its.toArray[its.length-1-k]?=its.reverse[k]?;rw[List.getElem?_toArray,List.getElem?_reverse hk']
 rw[e];have:(List.range its.length).filterMap (λk=>its.reverse[k]?)=its.reverse:=by
  have g:∀l:List Value,(List.range l.length).filterMap (λk=>l[k]?)=l:=by
   intro l
   induction l with
   |nil=>rfl
   |cons a l ih =>
    rw[hBg,List.range_succ_eq_map,hCv,List.filterMap_map];show a :: _=_;congr 1
  have:=g its.reverse;rw[hEo]at this;exact this
 rw[this]
section
variable{X:Cx}{e st:Expr}{te ts:TE}{p2 pos:Pos}
def zCg(K:PySem.W.Frag)(te ts:TE):TE:=λσ H Q=>te σ H λx H1=>ts σ H1 λy H2=>∃a xs,x = .ref a/\y = .int (-1)/\SqL K H2 a xs/\∀p,H2 p=none->Q (.ref p) (upd H2 p (.lst xs.reverse))
theorem qNf:∀ {xs:List V} {us:List Value},qBd xs us->qBd xs.reverse us.reverse
 |_,_,.nil=>.nil
 |_,_,.cons h t=>by
  rw[hEj,hEj];exact(qNf t).append (.cons h .nil)
theorem qZl(he:PE X e te)(hs:PE X st ts):PE X (.Subscript e (.Slice none none (some st) p2) pos) (zCg X.K te ts):=by
 intro aB s σ H Q I h;refine Subscript_ (thn (he aB s σ H _ I h) λv s1 ⟨x,H1,I1,r1,q1⟩=>?_);refine wpAny_Slice ?_;rw[evalPart_none];refine hEq (hEq ?_);show wpAny _ _ (eval st X.env) _ _ _;refine thn (hs aB s1 σ H1 _ I1 q1) λw s2 ⟨y,H2,I2,r2,q2⟩=>?_
 obtain⟨a,xs,rfl,rfl,hx,q⟩:=q2;cases r1;obtain⟨t,rfl⟩:=r2;have I4:Inv X aB σ H2 { s2 with heap:=s2.heap.push { cls:=.type "slice",data:=.fields #[.none,.none,.int (-1) t] } }:=I2.kept (t':=s2.toks) λb ob q=>Heap.get?_push_of_some _ q
 obtain⟨its,r,ht,hz⟩:=I4.list hx;have hlen:=r.length;have hg:wpAny (model X.prog X.w) X.A (getItem (.ref a) (.ref s2.heap.objs.size)) (EP X aB σ Q) X.xe { s2 with heap:=s2.heap.push { cls:=.type "slice",data:=.fields #[.none,.none,.int (-1) t] } }:=by
  refine wpAny_getItem_list_slice ht.isList (Heap.IsSliceOf.new ..) .none .none (.int (-1) t) (by decide) ?_ (by rw[hAu] <;> omega);rw[qIn];refine⟨.ref _,_,I4.laid (t':=s2.toks) (o:=.lst xs.reverse) (λb ob q=>Heap.get?_push_of_some _ q) (hAj _) ?_,rfl,q _ (I4.hok.fresh (hAj _))⟩;exact⟨by rw[hEo];exact hz,_,0,qNf r,Heap.get?_push_size _ rfl⟩
 show wpAny (model X.prog X.w) X.A (subscriptTail e (.Slice none none (some st) p2) (.ref a) (.ref s2.heap.objs.size)) (EP X aB σ Q) X.xe { s2 with heap:=s2.heap.push { cls:=.type "slice",data:=.fields #[.none,.none,.int (-1) t] } };exact tail_any (ops:=[.ref a,.ref s2.heap.objs.size]) ht.isList.typeIs slot_list_getitem.lookup hg (by with_unfolding_all rfl)
end
end L2
namespace L2
open PySem PySem.Spec PyProof.Rows PySem.SeqAt
end L2
namespace My
open PySem L2
mutual
inductive Dh (H:Hp):V->PyData->Prop
 |non:Dh H .non .none
 |bl (b:Bool):Dh H (.bl b) (.bool b)
 |int (i:Int):Dh H (.int i) (.int i)
 |str (x:Str):Dh H (.str x) (.str x)
 |lst {a:Addr} {xs:List V} {ds:List PyData}:H a=some (.lst xs)->Dhs H xs ds->Dh H (.ref a) (.list ds)
 |tup {a:Addr} {xs:List V} {ds:List PyData}:H a=some (.tup xs)->Dhs H xs ds->Dh H (.ref a) (.tuple ds)
inductive Dhs (H:Hp):List V->List PyData->Prop
 |nil:Dhs H [] []
 |cons {v:V} {d:PyData} {vs:List V} {ds:List PyData}:Dh H v d->Dhs H vs ds->Dhs H (v :: vs) (d :: ds)
end
mutual
theorem Dh.ext{H H':Hp}(e:Ext H H'):∀ {v:V} {D:PyData},Dh H v D->Dh H' v D
 |_,_,.non=>.non
 |_,_,.bl b=>.bl b
 |_,_,.int i=>.int i
 |_,_,.str x=>.str x
 |_,_,.lst hq hd=>.lst (e _ _ hq) (Dhs.ext e hd)
 |_,_,.tup hq hd=>.tup (e _ _ hq) (Dhs.ext e hd)
theorem Dhs.ext{H H':Hp}(e:Ext H H'):∀ {vs:List V} {Ds:List PyData},Dhs H vs Ds->Dhs H' vs Ds
 |_,_,.nil=>.nil
 |_,_,.cons h t=>.cons (Dh.ext e h) (Dhs.ext e t)
end
mutual
theorem Dh.dr{K:PySem.W.Frag}{H:Hp}:∀ {v:V} {D:PyData},Dh H v D->DR K H v D
 |_,_,.non=>.non
 |_,_,.bl b=>.bl b
 |_,_,.int i=>.int i
 |_,_,.str x=>.str x
 |_,_,.lst hq hd=>.lst (SqL.of hq) (Dhs.dr hd)
 |_,_,.tup hq hd=>.tup (SqT.of hq) (Dhs.dr hd)
theorem Dhs.dr{K:PySem.W.Frag}{H:Hp}:∀ {vs:List V} {Ds:List PyData},Dhs H vs Ds->DRs K H vs Ds
 |_,_,.nil=>.nil
 |_,_,.cons h t=>.cons (Dh.dr h) (Dhs.dr t)
end
theorem Dhs.app{H:Hp}:∀ {vs vs':List V} {Ds Ds':List PyData},Dhs H vs Ds->Dhs H vs' Ds'->Dhs H (vs++vs') (Ds++Ds')
 |_,_,_,_,.nil,h=>h
 |_,_,_,_,.cons a b,h=>.cons a (Dhs.app b h)
theorem Dhs.rev{H:Hp}:∀ {vs:List V} {Ds:List PyData},Dhs H vs Ds->Dhs H vs.reverse Ds.reverse
 |_,_,.nil=>.nil
 |_,_,.cons a b=>by
  rw[hEj,hEj];exact(Dhs.rev b).app (.cons a .nil)
theorem Dhs.len{H:Hp}:∀ {vs:List V} {Ds:List PyData},Dhs H vs Ds->vs.length=Ds.length
 |_,_,.nil=>rfl
 |_,_,.cons a b=>congrArg (· + 1) (Dhs.len b)
theorem Dhs.get{H:Hp}:∀ {vs:List V} {Ds:List PyData} (i:Nat) {v:V},Dhs H vs Ds->vs[i]?=some v->∃D,Ds[i]?=some D/\Dh H v D
 |_,_,_,_,.nil,h=>by cases h
 |_,_,0,_,.cons a b,h=>by cases hAh h;exact⟨_,rfl,a⟩
 |_,_,i+1,_,.cons a b,h=>Dhs.get i b h
theorem qC7{H:Hp}:∀ss:List Str,Dhs H (ss.map V.str) (ss.map PyData.str)
 |[]=>.nil
 |s :: ss=>.cons (.str s) (qC7 ss)
theorem Dhs.strs{H:Hp}:∀ {ss:List Str} {vs:List V},Dhs H vs (ss.map PyData.str)->vs=ss.map V.str
 |[],_,h=>by cases h;rfl
 |s :: ss,_,h=>by
  cases h with
  |cons a b =>
   cases a;rw[Dhs.strs b];rfl
theorem qYb{H:Hp}{a:Addr}{ss:List Str}(h:LsS H a ss):Dh H (.ref a) (.list (ss.map PyData.str)):=.lst h (qC7 ss)
noncomputable abbrev zC1:PyData->Bool:=λD=>match D with | .list _=>true|_=>false
noncomputable abbrev zC0:PyData->Bool:=λD=>match D with | .tuple _=>true|_=>false
noncomputable abbrev isSB:PyData->Bool:=λD=>match D with | .str _=>true|_=>false
theorem Dh.isL{K:PySem.W.Frag}{H:Hp}{v:V}{D:PyData}(h:Dh H v D):∃t,TyOf K H v t/\PySem.W.kitOne K t (.type "list")=some (zC1 D):=by
 cases h with
 |non=>exact⟨_,.non,by kernel_rfl⟩
 |bl b=>exact⟨_,.bl b,by kernel_rfl⟩
 |int i=>exact⟨_,.int i,by kernel_rfl⟩
 |str x=>exact⟨_,.str x,by kernel_rfl⟩
 |lst hq hd=>exact⟨_,.lst hq,qGh _ _⟩
 |tup hq hd=>exact⟨_,.tup hq,by kernel_rfl⟩
theorem Dh.isT{K:PySem.W.Frag}{H:Hp}{v:V}{D:PyData}(h:Dh H v D):∃t,TyOf K H v t/\PySem.W.kitOne K t (.type "tuple")=some (zC0 D):=by
 cases h with
 |non=>exact⟨_,.non,by kernel_rfl⟩
 |bl b=>exact⟨_,.bl b,by kernel_rfl⟩
 |int i=>exact⟨_,.int i,by kernel_rfl⟩
 |str x=>exact⟨_,.str x,by kernel_rfl⟩
 |lst hq hd=>exact⟨_,.lst hq,by kernel_rfl⟩
 |tup hq hd=>exact⟨_,.tup hq,qGh _ _⟩
theorem Dh.isS{K:PySem.W.Frag}{H:Hp}{v:V}{D:PyData}(h:Dh H v D):∃t,TyOf K H v t/\PySem.W.kitOne K t (.type "str")=some (isSB D):=by
 cases h with
 |non=>exact⟨_,.non,by kernel_rfl⟩
 |bl b=>exact⟨_,.bl b,by kernel_rfl⟩
 |int i=>exact⟨_,.int i,by kernel_rfl⟩
 |str x=>exact⟨_,.str x,qGh _ _⟩
 |lst hq hd=>exact⟨_,.lst hq,by kernel_rfl⟩
 |tup hq hd=>exact⟨_,.tup hq,by kernel_rfl⟩
def Lay(D:PyData):Prop:=D.canLay0=true/\D.depth<=8
theorem Lay.shaped{D:PyData}(h:Lay D):SeqAt.shaped D=true:=by
 show(PyData.canLay0 D && decide (D.depth<=64))=true;rw[h.1,hEt (hBa h.2 (by decide))];rfl
theorem qMk:∀ {ds:List PyData},PyData.canLayAll0 ds=true->∀d∈ds,d.canLay0=true/\d.depth<=PyData.depthAll ds
 |[],_,d,h=>by cases h
 |c :: ds,q,d,h=>by
  have q':(PyData.canLay0 c && PyData.canLayAll0 ds)=true:=q;rw[hC4]at q';show _/\d.depth<=max c.depth (PyData.depthAll ds);rcases hAg.mp h with z|z
  ·subst z;exact⟨q'.1,by omega⟩
  ·have:=qMk q'.2 d z;exact⟨this.1,by omega⟩
theorem qF1{n:Nat}:∀ {ds:List PyData},(∀d∈ds,d.canLay0=true/\d.depth<=n)->PyData.canLayAll0 ds=true/\PyData.depthAll ds<=n
 |[],_=>⟨rfl,hAy _⟩
 |c :: ds,h=>by
  have h1:=h c hAb;have h2:=qF1 (ds:=ds) λd hd=>h d (hAe _ hd)
  refine⟨?_,?_⟩
  ·show(PyData.canLay0 c && PyData.canLayAll0 ds)=true;rw[h1.1,h2.1];rfl
  ·show max c.depth (PyData.depthAll ds)<=n;omega
theorem Lay.item{ds:List PyData}(h:Lay (.list ds)):∀d∈ds,Lay d:=λd hd=>by
 have h1:PyData.canLayAll0 ds=true:=h.1;have h2:PyData.depthAll ds+1<=8:=h.2;have:=qMk h1 d hd;exact⟨this.1,by omega⟩
theorem Lay.itemT{ds:List PyData}(h:Lay (.tuple ds)):∀d∈ds,Lay d:=λd hd=>by
 have h1:PyData.canLayAll0 ds=true:=h.1;have h2:PyData.depthAll ds+1<=8:=h.2;have:=qMk h1 d hd;exact⟨this.1,by omega⟩
theorem qB6{ds:List PyData}(h:∀d∈ds,Lay d):SeqAt.shaped (.list ds)=true:=by
 have:=qF1 (n:=8) h;show(PyData.canLayAll0 ds && decide (PyData.depthAll ds+1<=64))=true;rw[this.1,hEt (by omega)];rfl
theorem qMw(ds:List PyData):PyData.eqv (.list ds) (.list [])=ds.isEmpty:=by
 cases ds with
 |nil=>rfl
 |cons d ds=>rfl
theorem qOp(s p:Str):PyData.eqv (.str s) (.str p)=decide (s=p):=by
 have:=qJh [s] [p];have e:PyData.eqvAll ([s].map .str) ([p].map .str)=(PyData.eqv (.str s) (.str p) && true):=rfl;rw[e,Bool.and_true]at this;rw[this,hBq];simp
theorem qK2:∀(xs:List PyData) (ps:List Str),(∀x∈xs,(∃s,x = .str s)\/∃is,x = .list is)->(PyData.eqvAll xs (ps.map .str)=true↔xs=ps.map .str)
 |[],[],_=>⟨λ_=>rfl,λ_=>rfl⟩
 |[],_ :: _,_=>⟨λh=>(by cases h),λh=>(by cases h)⟩
 |_ :: _,[],_=>⟨λh=>(by cases h),λh=>(by cases h)⟩
 |x :: xs,p :: ps,h=>by
  have ih:=qK2 xs ps λy hy=>h y (hAe _ hy)
  show(PyData.eqv x (.str p) && PyData.eqvAll xs (ps.map .str))=true↔_;rw[hC4,ih];rcases h x hAb with ⟨s,rfl⟩|⟨is,rfl⟩
  ·rw[qOp];simp
  ·have:PyData.eqv (.list is) (.str p)=false:=rfl;rw[this];simp
noncomputable def dtE(l:Str×List Str):PyData:=.tuple [.str l.1,.list (l.2.map .str)]
noncomputable def dtL(L:List (Str×List Str)):PyData:=.list (L.map dtE)
structure DOk(D:PyData):Prop where
 lay:Lay D
 few:∀ds,D = .list ds->ds.length<=24
 two:∀ds,D = .list ds->∀e∈ds,∀x y,e = .tuple [x,y]->((∃s,x = .str s)\/∃is,x = .list is)/\∀is,y = .list is->is.length<=30
structure NetOk(net:List Tr):Prop where
 rise:qIh (net.map (·.1))
 le:net.length<=12
 ok:∀t∈net,PyData.strOk t.1=true/\PyData.strOk t.2.1=true/\PyData.strOk t.2.2=true
def qU4(net:List Tr)(D:PyData):Prop:=∃L:List (Str×List Str),D=dtL L/\qIh (L.map (·.1))/\Rnd net (L.map (·.1)) (L.map (·.2))
def qNd(net:List Tr)(D:PyData):Prop:=∃L:List (Str×List Str),D=dtL L/\qIh (L.map (·.1))/\Rnd net (L.map (·.1)) (L.map (·.2))/\qLv (L.map (·.2))
theorem qFr{H:Hp}:∀ {L:List (Str×List Str)} {xs:List V},Dhs H xs (L.map dtE)->∃as:List Addr,xs=as.map V.ref/\Paired (λa l=>∃r,H a=some (.tup [.str l.1,.ref r])/\LsS H r l.2) as L
 |[],_,h=>by cases h;exact⟨[],rfl,.nil⟩
 |l :: L,_,h=>by
  cases h with
  |cons a b =>
   obtain⟨as,rfl,p⟩:=qFr b;cases a with
   |tup hq hd =>
    cases hd with
    |cons h1 t =>
     cases h1;cases t with
     |cons h2 t2 =>
      cases t2;cases h2 with
      |lst hr hs =>
       rw[Dhs.strs hs]at hr;exact⟨_ :: as,rfl,.cons ⟨_,hq,hr⟩ p⟩
abbrev Wk1(l:List Str):Prop:=l.Pairwise λa b=>qHn b a=false
theorem qPv:∀(l:List Str) (p:Str),PyProof.Rows.risingS p l=true->Wk1 (p :: l)
 |[],p,_=>List.pairwise_singleton _ _
 |x :: r,p,h=>by
  have h':(!PySem.Spec.ltCps x.cps.toList p.cps.toList && PyProof.Rows.risingS x r)=true:=h;rw[hC4]at h';have ih:=qPv r x h'.2;have px:qHn x p=false:=by
   have z:=h'.1;rw[PyProof.Rows.ltCps_eq]at z;unfold qHn
   simpa using z
  refine hD4.mpr ⟨λy hy=>?_,ih⟩;rcases hAg.mp hy with e|hy
  ·rw[e];exact px
  ·have q:=(hD4.mp ih).1 y hy;cases z:qHn y p with
   |false=>rfl
   |true =>
    rcases qD6 x p with t|t|t
    ·rw[px]at t;cases t
    ·rw[t,z]at q;cases q
    ·have:=qCb z t;rw[q]at this;cases this
theorem qLy{l:List Str}(h:PyProof.Rows.sortedS l=true):Wk1 l:=by
 cases l with
 |nil=>exact List.Pairwise.nil
 |cons x r=>exact qPv r x h
theorem qJz{a b:List Str}(ha:Wk1 a)(hb:Wk1 b)(p:a.Perm b):a=b:=by
 refine List.Perm.eq_of_pairwise (le:=λx y=>qHn y x=false) (λx y _ _ h1 h2=>?_) ha hb p;rcases qD6 x y with t|t|t
 ·rw[h2]at t;cases t
 ·exact t
 ·rw[h1]at t;cases t
theorem qP3{net:List Tr}(h:qIh (net.map (·.1)))(x:Str):Wk1 (starF net x):=by
 induction net with
 |nil=>exact List.Pairwise.nil
 |cons t net ih =>
  rw[hAn]at h;obtain⟨h1,h2⟩:=hD4.mp h;rw[qGq];refine List.pairwise_append.mpr ⟨?_,ih h2,λa ha b hb=>?_⟩
  ·have:∀a∈stT t x,a=t.1:=λa ha=>by
    unfold stT at ha;rcases hAp.mp ha with z|z
    ·split at z
     ·exact hAd.mp z
     ·cases z
    ·split at z
     ·exact hAd.mp z
     ·cases z
   exact List.pairwise_of_forall_mem_list λa ha b hb=>by rw[this a ha,this b hb];exact qCm _
  ·have ea:a=t.1:=by
    unfold stT at ha;rcases hAp.mp ha with z|z
    ·split at z
     ·exact hAd.mp z
     ·cases z
    ·split at z
     ·exact hAd.mp z
     ·cases z
   obtain⟨u,hu,e,_⟩:=qEs hb;subst ea;rw[<-e];have q:=h1 u.1 (hAr hu);cases z:qHn u.1 t.1 with
   |false=>rfl
   |true =>
    have:=qCb q z;rw[qCm]at this;cases this
theorem qL2{net:List Tr}(h:NetOk net)(x:Str):SOk (starF net x):=λy hy=>by
 obtain⟨u,hu,e,_⟩:=qEs hy;rw[<-e];exact(h.ok u hu).1
noncomputable def qIm:List PyData->Option (List Str)
 |[]=>some []
 |.str x :: r=>(qIm r).map (x :: ·)
 |_ :: _=>none
theorem qBh:∀ {is:List PyData} {ss:List Str},qIm is=some ss↔is=ss.map .str
 |[],ss=>by
  cases ss with
  |nil=>exact⟨λ_=>rfl,λ_=>rfl⟩
  |cons _ _=>exact⟨λh=>(by cases h),λh=>(by cases h)⟩
 |i :: is,ss=>by
  cases i with
  |str x =>
   show(qIm is).map (x :: ·)=some ss↔_;cases e:qIm is with
   |none =>
    refine⟨λh=>(by cases h),λh=>?_⟩;cases ss with
    |nil=>cases h
    |cons s ss =>
     rw[hAn,hB4]at h;rw[qBh.mpr h.2]at e;cases e
   |some r =>
    have:=qBh.mp e;subst this;constructor
    ·intro h;cases hAh h;rfl
    ·intro h;cases ss with
     |nil=>cases h
     |cons s ss =>
      rw[hAn,hB4]at h;have e2:=qBh.mpr h.2;rw[e]at e2;cases hAh e2;cases h.1;rfl
  |_ =>
   refine⟨λh=>(by cases h),λh=>?_⟩;cases ss with
   |nil=>cases h
   |cons s ss=>rw[hAn,hB4]at h;cases h.1
theorem qGo:∀is:List PyData,(is.map isSB).all id=(qIm is).isSome
 |[]=>rfl
 |i :: is=>by
  rw[hAn,List.all_cons];cases i with
  |str x =>
   show(true && _)=((qIm is).map (x :: ·)).isSome;rw[Bool.true_and,qGo is,Option.isSome_map]
  |_=>rfl
noncomputable def qXx(n:Int)(D:PyData):Bool:=match D with | .tuple ds=>decide ((ds.length:Int)=n)|_=>false
def qTf(net:List Tr)(x:Str)(D:PyData):Bool:=match D with
 |.list is=>(match qIm is with|some ss=>decide (ss.Perm (starF net x))|none=>false)
 |_=>false
def qZg(K:PySem.W.Frag):List V->Hp->VK->Prop:=λxs H Q=>∃x t c b,xs=[x,.ty c]/\TyOf K H x t/\PySem.W.kitOne K t (.type c)=some b/\Q (.bl b) H
def qVc:Sp:=λvs H Q _=>∃(v:V) (n:Int) (D:PyData),vs=[v,.int n]/\Dh H v D/\Q (.bl (qXx n D)) H
def qVg:Sp:=λvs H Q _=>∃(p:Addr) (net:List Tr) (x:Str) (v:V) (D:PyData),vs=[.ref p,.str x,v]/\qEl H p net/\NetOk net/\Dh H v D/\Lay D/\(∀is,D = .list is->is.length<=30)/\∀H',Ext H H'->Q (.bl (qTf net x D)) H'
section
variable{P:Program}{w:World}{K:PySem.W.Frag}{mg:Str->Option Value}{base:Heap}{f f1 f2 f3:Addr}{fd fd1 fd2 fd3:FuncData}
theorem qY5:FnScope ["thing","many"] ["thing","many"] (qAc qQi):=fsk
theorem qXh(F:Fun K "is_tuple" "is_tuple" qQi f fd)(mi:mg "isinstance"=none)(mt:mg "tuple"=none)(ml:mg "len"=none):FnOk P w K mg base CX0 1 f fd ["thing","many"] qVc:=by
 refine F.okA qY5 λcdv A outer s H vs Q E hr h=>?_
 obtain⟨v,n,D,rfl,hD,q⟩:=h;refine⟨_,qAi (qA2 (qVo (qAh qBr rfl mi qBs (qAe (pv 0) (pa1 (qDj (v:=.ty "tuple") rfl mt qDr rfl)))) (qVn (qGz qE0 (qAh qAj rfl ml hBd (pa1 (pv 0))) (pv 1) (qA6 _))))),?_⟩;obtain⟨t,ty,k⟩:=hD.isT (K:=K);refine⟨_,rfl,_,_,_,_,rfl,ty,k,_,rfl,?_⟩;cases hD with
 |@tup a xs ds hq hd =>
  refine iteT (B:=Q (.bl false) H) ?_;refine⟨_,rfl,a,_,rfl,.inr (SqT.of hq),_,rfl,rfl,?_⟩;have e:decide (V.int ((xs.length:Nat):Int)=V.int n)=qXx n (.tuple ds):=by
   show _=decide ((ds.length:Int)=n);rw[hd.len];exact decide_eq_decide.mpr ⟨λz=>V.int.inj z,λz=>by rw[z]⟩
  rw[e];exact q
 |_=>exact qFs q
theorem qY8:FnScope ["net","point","thing"] ["net","point","thing"] (qAc qTp):=fsk
theorem qXl(F:Fun K "are_ties_round" "are_ties_round" qTp f fd)(G:Cl P w K mg base CX0 1 f1 fd1 ["net","point"] qU9 "star")
  (mi:mg "isinstance"=none) (mL:mg "list"=none) (mS:mg "str"=none) (ma:mg "all"=none) (mso:mg "sorted"=none):FnOk P w K mg base CX0 2 f fd ["net","point","thing"] qVg:=by
 refine F.okA qY8 λcdv A outer s H vs Q E hr h=>?_
 obtain⟨p,net,x,v,D,rfl,hN,ok,hD,lay,few,q⟩:=h;refine⟨_,qAa (qC9 (PW.pt (qHo (qDe (qDd (qAh qBr rfl mi qBs (qAe (pv 2) (pa1 (qDj (v:=.ty "list") rfl mL qBa rfl)))))) (qEw (qDe (qDd (qAh (qHg rfl) rfl ma qHj (pa1 (qFq (N:=["net","point","thing"]) (sc:=qAc qTp) (N':=["tie"]) (sub:=[none]) rfl rfl (CmpOk.of (by decide +kernel)) rfl (qA1 (pv 2)) (λC s H fp=>⟨qAf (i:=0) (by show(["tie"]:List Str).Nodup;decide) rfl (Or.inl rfl),qBk,(qAh (show qCa _ _ (qZg K) from qBr) rfl mi qBs (qAe (pv 0) (pa1 (qDj (v:=.ty "str") rfl mS qLl rfl))))⟩))))))))) (qAi (qA2 qDf)) qBy)
  (qAi (qA2 (qGz (qVt (qF6 hr)) (qAh qD1 rfl mso qBi (pa1 (pv 2))) (qBf G hr rfl .nil qBg (qAe (pv 0) (pa1 (pv 1)))) (qA6 _)))),?_⟩
 obtain⟨t,ty,k⟩:=hD.isL (K:=K);refine⟨_,rfl,_,_,_,_,rfl,ty,k,_,rfl,?_⟩;cases hD with
 |@lst a xs is hq hd =>
  refine qFs ?_;have ln:=hd.len;have l24:=few is rfl;refine⟨_,rfl,a,rfl,⟨_,SqL.of hq⟩,?_⟩;refine qA0 (xs:=xs) (λj ys H2=>H=H2/\ys=((is.take j).map isSB).map V.bl) ⟨rfl,rfl⟩ (λj ys H2 _ h=>by rw[<-h.1];exact SqL.of hq) ?_ ?_
  ·rintro j u ys H2 hu ⟨rfl,rfl⟩;obtain⟨Dj,hDj,hu'⟩:=Dhs.get j hd hu;obtain⟨t',ty',k'⟩:=hu'.isS (K:=K);refine⟨sls,iteT (B:=False) ⟨_,rfl,_,_,_,_,rfl,ty',k',?_,nxt (qBj hu) ⟨rfl,?_⟩⟩⟩
   ·rw[hA4,hA4,hB2];exact qAd (by omega)
   ·rw[qAl hDj,hAf,hAf];rfl
  rintro ys H2 ⟨rfl,rfl⟩ r hr1;rw[ln,hBh];have e3:=Ext.new hr1 (.lst ((is.map isSB).map V.bl));refine⟨r,is.map isSB,rfl,SqL.of upd_same,_,rfl,?_⟩;rw[qGo];have hq3:=e3 _ _ hq;have hN3:=hN.ext e3;revert e3 hq3 hN3;generalize upd _ _ _=H3;intro e3 hq3 hN3;cases sd:qIm is with
  |none =>
   refine iteT ?_;have:=q H3 e3;unfold qTf at this;dsimp only at this;rw[sd]at this;exact this
  |some ss =>
   refine qFs ?_;have es:=qBh.mp sd;subst es;rw[Dhs.strs hd]at hq3;have lss:ss.length<=30:=by rw[hA4]at l24;exact l24
   refine⟨_,rfl,a,ss,rfl,SqL.of hq3,by omega,λr2 ss' hr2 pm so=>?_⟩;have e4:=Ext.new hr2 (.lst (ss'.map V.str));refine⟨_,rfl,_,rfl,p,net,x,rfl,hN3.ext e4,ok.le,λr3 H5 e5 hr3 hs=>?_⟩;have sok:SOk ss:=λy hy=>(lay.item _ (hAr (f:=PyData.str) hy)).1
   have sok':SOk ss':=λy hy=>sok y (pm.mem_iff.mp hy)
   refine⟨_,_,qK6 (e5 _ _ upd_same),qK6 hs,qDc sok',qDc (qL2 ok x),?_⟩;have hq5:=q H5 (e3.trans (e4.trans e5));unfold qTf at hq5;dsimp only at hq5;rw[sd]at hq5;dsimp only at hq5;rw[hEr hAo,qSf];have:decide (ss'=starF net x)=decide (ss.Perm (starF net x)):=by
    rw[hBq,hEv,hEv];exact⟨λz=>by rw[<-z];exact pm.symm,λz=>qJz (qLy so) (qP3 ok.rise x) (pm.trans z)⟩
   rw[this];exact hq5
 |_=>exact iteT (q H (Ext.refl _))
end
theorem qK3:∀ {ds:List PyData},(ds.map (qXx 2)).all id=true->∃zs:List (PyData×PyData),ds=zs.map λz=>.tuple [z.1,z.2]
 |[],_=>⟨[],rfl⟩
 |d :: ds,h=>by
  rw[hAn,List.all_cons,hC4]at h;obtain⟨zs,rfl⟩:=qK3 h.2;have h1:=h.1;cases d with
  |tuple es =>
   have l:es.length=2:=by
    have:decide ((es.length:Int)=2)=true:=h1;have:=hEz this;omega
   match es,l with
   |[x,y],_=>exact⟨(x,y) :: zs,rfl⟩
  |_=>cases h1
theorem qNe:∀ {zs:List (PyData×PyData)} {ps:List Str},zs.map (·.1)=ps.map PyData.str->∃qs:List (Str×PyData),zs=qs.map (λq=>(.str q.1,q.2))/\ps=qs.map (·.1)
 |[],[],_=>⟨[],rfl,rfl⟩
 |[],_ :: _,h=>by cases h
 |_ :: _,[],h=>by cases h
 |(x,y) :: zs,p :: ps,h=>by
  rw[hAn,hAn,hB4]at h;obtain⟨qs,rfl,rfl⟩:=qNe h.2;obtain⟨h1,_⟩:=h;dsimp only at h1;subst h1;exact⟨(p,y) :: qs,rfl,rfl⟩
theorem qJ5{net:List Tr}{x:Str}{D:PyData}:qTf net x D=true↔∃ss:List Str,D = .list (ss.map .str)/\ss.Perm (starF net x):=by
 unfold qTf;cases D with
 |list is =>
  dsimp only;cases e:qIm is with
  |none =>
   refine⟨λh=>(by cases h),λ⟨ss,h,_⟩=>?_⟩;rw[qBh.mpr (PyData.list.inj h)]at e;cases e
  |some ss =>
   dsimp only;rw[hEv];have es:=qBh.mp e;constructor
   ·intro h;exact⟨ss,by rw[es],h⟩
   ·rintro⟨ss',h,p⟩;rw[qBh.mpr (PyData.list.inj h)]at e;cases hAh e;exact p
 |_=>exact⟨λh=>(by cases h),λ⟨ss,h,_⟩=>(by cases h)⟩
theorem qQr{net:List Tr}:∀ {qs:List (Str×PyData)},(∀q∈qs,qTf net q.1 q.2=true)->∃L:List (Str×List Str),qs=L.map (λl=>(l.1,.list (l.2.map .str)))/\∀l∈L,l.2.Perm (starF net l.1)
 |[],_=>⟨[],rfl,λl h=>(by cases h)⟩
 |(x,y) :: qs,h=>by
  obtain⟨L,rfl,hL⟩:=qQr λq hq=>h q (hAe _ hq)
  obtain⟨ss,e,p⟩:=qJ5.mp (h _ hAb);dsimp only at e p;subst e;exact⟨(x,ss) :: L,rfl,λl hl=>by
   rcases hAg.mp hl with rfl|z
   ·exact p
   ·exact hL l z⟩
theorem qX9{l l':Str×List Str}(h:dtE l=dtE l'):l=l':=by
 unfold dtE at h;have h:=PyData.tuple.inj h;rw[hB4,hB4]at h;have h1:=PyData.str.inj h.1;have h2:=PyData.list.inj h.2.1;have h3:=qBh.mpr h2;rw[qBh.mpr rfl]at h3;exact Prod.ext h1 (hAh h3)
theorem qSh:∀ {L L':List (Str×List Str)},L.map dtE=L'.map dtE->L=L'
 |[],[],_=>rfl
 |[],_ :: _,h=>by cases h
 |_ :: _,[],h=>by cases h
 |l :: L,l' :: L',h=>by
  rw[hAn,hAn,hB4]at h;rw[qX9 h.1,qSh h.2]
theorem qWu{l:List Str}(h:qIh l):l.Nodup:=h.imp λ{a b} q e=>by
 rw[e,qCm]at q;cases q
theorem qN3{net:List Tr}{ps ps':List Str}(h:qGa net ps)(h':qGa net ps')(r:qIh ps)(r':qIh ps'):ps=ps':=qN0 r r' λx=>(h.2 x).trans (h'.2 x).symm
theorem qGu{net:List Tr}{L:List (Str×List Str)}(G:Rnd net (L.map (·.1)) (L.map (·.2))):∀l∈L,l.2.Perm (starF net l.1):=λl hl=>by
 obtain⟨i,hi,e⟩:=hCx hl;have:=G.row i (by rw[hA4];exact hi);unfold qAx at this;rw[hAa,hAc,hA8 hi,hAa,hAc,hA8 hi,e]at this;exact this
theorem qVj{net:List Tr}(ok:NetOk net){L:List (Str×List Str)}(pt:qGa net (L.map (·.1)))(h:∀l∈L,l.2.Perm (starF net l.1)):Rnd net (L.map (·.1)) (L.map (·.2)) :=
 ⟨qWu ok.rise,pt,by rw[hA4,hA4],λi hi=>by
  rw[hA4]at hi;unfold qAx;rw[hAa,hAc,hA8 hi,hAa,hAc,hA8 hi];exact h _ (hBy hi)⟩
theorem qZh{net:List Tr}(ok:NetOk net){qs:List (Str×PyData)}(pt:qGa net (qs.map (·.1)))(r:qIh (qs.map (·.1))):(qs.map λq=>qTf net q.1 q.2).all id=true↔qU4 net (.list ((qs.map λq=>((.str q.1,q.2):PyData×PyData)).map λz=>.tuple [z.1,z.2])):=by
 rw[hE9];constructor
 ·intro h;obtain⟨L,rfl,hL⟩:=qQr λq hq=>h _ (hAr hq)
  rw[hBi]at pt r;exact⟨L,by rw[hBi,hBi];rfl,r,qVj ok pt hL⟩
 ·rintro⟨L,e,rL,G⟩ b hb;obtain⟨q,hq,rfl⟩:=hAm.mp hb;have e:=PyData.list.inj e;rw[hBi]at e;have m:PyData.tuple [.str q.1,q.2]∈L.map dtE:=by rw[<-e];exact hAr (f:=(λz:PyData×PyData=>PyData.tuple [z.1,z.2])∘λq=>(PyData.str q.1,q.2)) hq
  obtain⟨l,hl,el⟩:=hAm.mp m;unfold dtE at el;have el:=PyData.tuple.inj el;rw[hB4,hB4]at el;have h1:=PyData.str.inj el.1;show qTf net q.1 q.2=true;rw[<-h1,<-el.2.1];exact qJ5.mpr ⟨l.2,rfl,qGu G l hl⟩
theorem qQu{net:List Tr}(ok:NetOk net){ps:List Str}(h:qGa net ps):SOk ps:=λx hx=>by
 obtain⟨t,ht,z⟩:=(h.2 x).mp hx;rcases z with z|z
 ·rw[z];exact(ok.ok t ht).2.1
 ·rw[z];exact(ok.ok t ht).2.2
def qVd:Sp:=λvs H Q _=>∃(p:Addr) (net:List Tr) (v:V) (D:PyData),vs=[.ref p,v]/\qEl H p net/\NetOk net/\Dh H v D/\DOk D/\∀(b:Bool) H',(b=true↔qU4 net D)->Ext H H'->Q (.bl b) H'
section
variable{P:Program}{w:World}{K:PySem.W.Frag}{mg:Str->Option Value}{base:Heap}{f f1 f2 f3:Addr}{fd fd1 fd2 fd3:FuncData}
theorem qY6:FnScope ["net","lists"] ["net","lists"] (qAc qO9):=fsk
theorem qXi(F:Fun K "goes_round_points" "goes_round_points" qO9 f fd)(G1:Cl P w K mg base CX0 1 f1 fd1 ["thing","many"] qVc "is_tuple")
  (G2:Cl P w K mg base CX0 1 f2 fd2 ["net"] qGc "points")
  (G3:Cl P w K mg base CX0 2 f3 fd3 ["net","point","thing"] qVg "are_ties_round")
  (mi:mg "isinstance"=none) (mL:mg "list"=none) (ma:mg "all"=none):FnOk P w K mg base CX0 3 f fd ["net","lists"] qVd:=by
 refine F.okA qY6 λcdv A outer s H vs Q E hr h=>?_
 obtain⟨p,net,v,D,rfl,hN,ok,hD,dok,q⟩:=h;have hr1:=hr.mono (j:=1) (by decide);refine⟨_,qAa (qC9 (PW.pt (qHo (qDe (qDd (qAh qBr rfl mi qBs (qAe (pv 1) (pa1 (qDj (v:=.ty "list") rfl mL qBa rfl)))))) (qEw (qDe (qDd (qAh (qHg rfl) rfl ma qHj (pa1 (qFq (N:=["net","lists"]) (sc:=qAc qO9) (N':=["one"]) (sub:=[none]) rfl rfl (CmpOk.of (by decide +kernel)) rfl (qA1 (pv 1)) (λC s H fp=>⟨qAf (i:=0) (by show(["one"]:List Str).Nodup;decide) rfl (Or.inl rfl),qBk,(qBf G1 hr1 rfl .nil qBg (qAe (pv 0) (pa1 qAk)))⟩))))))))) (qAi (qA2 qDf)) qBy)
  (qAa (qC9 (qAv (qH3 (qF6 hr)) (qFq (N:=["net","lists"]) (sc:=qAc qO9) (N':=["one"]) (sub:=[none]) rfl rfl (CmpOk.of (by decide +kernel)) rfl (qA1 (pv 1)) (λC s H fp=>⟨qAf (i:=0) (by show(["one"]:List Str).Nodup;decide) rfl (Or.inl rfl),qBk,(qAt (show IxR _ (qZf K) from qCk) (pv 0) qAk (λ_ _=>rfl))⟩)) (qBf G2 hr1 rfl .nil qBg (pa1 (pv 0))) (qA6 _)) (qAi (qA2 qDf)) qBy)
  (qAi (qA2 (qAh (qHg rfl) rfl ma qHj (pa1 (qFq (N:=["net","lists"]) (sc:=qAc qO9) (N':=["point","ties","net"]) (sub:=[none,none,some 0]) rfl rfl (CmpOk.of (by decide +kernel)) rfl (qA1 (pv 1)) (λC s H fp=>⟨(show PG _ _ (qPt K 2 _) from qBt rfl (qAg (qAf (i:=0) (by show(["point","ties","net"]:List Str).Nodup;decide) rfl (Or.inl rfl)) (qAg (qAf (i:=1) (by show(["point","ties","net"]:List Str).Nodup;decide) rfl (Or.inl rfl)) qA3))),qBk,(qBf G3 hr rfl .nil qBg (qAe (pv 2) (qAe (pv 0) (pa1 (pv 1)))))⟩))))))),?_⟩
 obtain⟨t,ty,k⟩:=hD.isL (K:=K);refine⟨_,rfl,_,_,_,_,rfl,ty,k,_,rfl,?_⟩;cases hD with
 |@lst a xs ds hq hd =>
  refine qFs ?_;have ln:=hd.len;have l24:=dok.few ds rfl;refine⟨_,rfl,a,rfl,⟨_,SqL.of hq⟩,?_⟩;refine qA0 (xs:=xs) (λj ys H2=>H=H2/\ys=((ds.take j).map (qXx 2)).map V.bl) ⟨rfl,rfl⟩ (λj ys H2 _ h=>by rw[<-h.1];exact SqL.of hq) ?_ ?_
  ·rintro j u ys H2 hu ⟨rfl,rfl⟩;obtain⟨Dj,hDj,hu'⟩:=Dhs.get j hd hu;refine⟨sls,iteT (B:=False) ⟨_,rfl,u,2,Dj,rfl,hu',?_,nxt (qBj hu) ⟨rfl,?_⟩⟩⟩
   ·rw[hA4,hA4,hB2];exact qAd (by omega)
   ·rw[qAl hDj,hAf,hAf];rfl
  rintro ys H2 ⟨rfl,rfl⟩ r hr1';rw[ln,hBh];have e3:=Ext.new hr1' (.lst ((ds.map (qXx 2)).map V.bl));refine⟨r,ds.map (qXx 2),rfl,SqL.of upd_same,_,rfl,?_⟩;have hq3:=e3 _ _ hq;have hd3:=hd.ext e3;have hN3:=hN.ext e3;revert e3 hq3 hd3 hN3;generalize upd _ _ _=H3;intro e3 hq3 hd3 hN3;cases al:(ds.map (qXx 2)).all id with
  |false =>
   refine iteT (q false H3 ⟨λz=>(by cases z),λ⟨L,e,_⟩=>?_⟩ e3);have e:=PyData.list.inj e;subst e;rw[<-al,hE9];intro b hb;rw[hBi]at hb;obtain⟨l,hl,rfl⟩:=hAm.mp hb;rfl
  |true =>
   refine qFs ?_;obtain⟨zs,rfl⟩:=qK3 al;have ht:∀z∈zs,((∃s,z.1=PyData.str s)\/∃is,z.1 = .list is)/\∀is,z.2 = .list is->is.length<=30:=λz hz=>dok.two _ rfl _ (hAr hz) z.1 z.2 rfl
   rw[hA4]at ln l24;have hget:∀(H':Hp) (j:Nat) (u:V),Ext H3 H'->xs[j]?=some u->∃(z:PyData×PyData) (c:Addr) (v1 v2:V),zs[j]?=some z/\u = .ref c/\H' c=some (.tup [v1,v2])/\Dh H' v1 z.1/\Dh H' v2 z.2:=λH' j u e' hu=>by
    obtain⟨Dj,hDj,hu'⟩:=Dhs.get j (hd3.ext e') hu;rw[hAc]at hDj;cases hz:zs[j]? with
    |none=>rw[hz]at hDj;cases hDj
    |some z =>
     rw[hz]at hDj;cases hAh hDj;cases hu' with
     |tup hc hs =>
      cases hs with
      |cons a1 t1 =>
       cases t1 with
       |cons a2 t2 =>
        cases t2;exact⟨z,_,_,_,rfl,rfl,hc,a1,a2⟩
   refine⟨_,rfl,a,rfl,⟨_,SqL.of hq3⟩,?_⟩;refine qA0 (xs:=xs) (λj ys H4=>H3=H4/\Dhs H3 ys ((zs.take j).map (·.1))) ⟨rfl,.nil⟩ (λj ys H4 _ h=>by rw[<-h.1];exact SqL.of hq3) ?_ ?_
   ·rintro j u ys H4 hu ⟨rfl,hy⟩;obtain⟨z,c,v1,v2,hz,rfl,hc,d1,d2⟩:=hget _ j u (Ext.refl _) hu;refine⟨sls,iteT (B:=False) ⟨_,rfl,c,_,0,v1,rfl,rfl,SqT.of hc,(by exact qAq (j:=0) rfl),?_,nxt (qBj hu) ⟨rfl,?_⟩⟩⟩
    ·rw[hy.len,hA4,hB2];exact qAd (by omega)
    ·rw[qAl hz,hAf];exact hy.app (.cons d1 .nil)
   rintro ys H4 ⟨rfl,hy⟩ r4 hr4;rw[ln,hBh]at hy;have e4:=Ext.new hr4 (.lst ys);have hy4:=hy.ext e4;refine⟨_,rfl,p,net,rfl,hN3.ext e4,ok.le,λr5 ps H5 e5 hr5 hps pt rp lp=>?_⟩;have lzs:∀d∈zs.map (·.1),Lay d:=λd hd'=>by
    obtain⟨z,hz,rfl⟩:=hAm.mp hd';exact(dok.lay.item _ (hAr hz)).itemT _ hAb
   refine⟨_,_,(Dh.lst (e5 _ _ upd_same) (hy4.ext e5)).dr,qK6 hps,qB6 lzs,qDc (qQu ok pt),_,rfl,?_⟩;rw[hEs rfl];have eh:=qK2 (zs.map (·.1)) ps λx hx=>by
    obtain⟨z,hz,rfl⟩:=hAm.mp hx;exact(ht z hz).1
   have e35:=e4.trans e5;show if (!PyData.eqvAll (zs.map (·.1)) (ps.map .str))=true then _ else _
   cases ev:PyData.eqvAll (zs.map (·.1)) (ps.map PyData.str) with
   |false =>
    refine iteT (q false H5 ⟨λz=>(by cases z),λ⟨L,e,rL,G⟩=>?_⟩ (e3.trans e35));have e:=PyData.list.inj e;have el:L.map (·.1)=ps:=qN3 G.pts pt rL rp;have:zs.map (·.1)=ps.map PyData.str:=by
     rw[<-el,hBi];have h0:(zs.map λz=>PyData.tuple [z.1,z.2]).map (λd=>match d with | .tuple (x :: _)=>x|_=>.none)=(L.map dtE).map (λd=>match d with | .tuple (x :: _)=>x|_=>.none):=by rw[e]
     rw[hBi,hBi]at h0;exact h0
    rw[eh.mpr this]at ev;cases ev
   |true =>
    refine qFs ?_;obtain⟨qs,rfl,rfl⟩:=qNe (eh.mp ev);rw[hA4]at ln l24;refine⟨_,rfl,a,rfl,⟨_,SqL.of (e35 _ _ hq3)⟩,?_⟩;refine qA0 (xs:=xs) (λj ys H6=>Ext H5 H6/\ys=((qs.take j).map λq=>qTf net q.1 q.2).map V.bl) ⟨Ext.refl _,rfl⟩ (λj ys H6 _ h=>SqL.of (h.1 _ _ (e35 _ _ hq3))) ?_ ?_
    ·rintro j u ys H6 hu ⟨e6,rfl⟩;obtain⟨z,c,v1,v2,hz,rfl,hc,d1,d2⟩:=hget _ j u (e35.trans e6) hu;rw[hAc]at hz;cases hq':qs[j]? with
     |none=>rw[hq']at hz;cases hz
     |some q1 =>
      rw[hq']at hz;cases hAh hz;cases d1;have few:=(ht _ (hAs (show(qs.map λq=>((.str q.1,q.2):PyData×PyData))[j]?=some (.str q1.1,q1.2) by rw[hAc,hq'];rfl))).2;have lay2:Lay q1.2:=(dok.lay.item _ (hAr (hAr (hAs hq')))).itemT _ (hAe _ hAb);refine⟨c,_,rfl,SqT.of hc,rfl,_,_,rfl,_,_,rfl,rfl,?_⟩;refine⟨Sle.set _ (sls) (λu z=>by cases z),iteT (B:=False) ⟨_,rfl,_,rfl,_,rfl,p,net,q1.1,v2,q1.2,rfl,hN3.ext (e35.trans e6),ok,d2,lay2,few,λH7 e7=>⟨?_,nxt (qBj hu) ⟨e6.trans e7,?_⟩⟩⟩⟩
      ·rw[hA4,hA4,hB2];exact qAd (by omega)
      ·rw[qAl hq',hAf,hAf];rfl
    rintro ys H6 ⟨e6,rfl⟩ r7 hr7;rw[ln,hBh];refine⟨r7,_,rfl,SqL.of upd_same,?_⟩;exact q _ _ (qZh ok pt rp) (e3.trans (e35.trans (e6.trans (Ext.new hr7 _))))
 |_=>exact iteT (q false H ⟨λz=>(by cases z),λ⟨L,e,_⟩=>(by cases e)⟩ (Ext.refl _))
end
theorem qFm{cs:List Addr}{i:Nat}{x:V}(h:(cs.map V.ref)[i]?=some x):∃c,x = .ref c/\cs[i]?=some c:=by
 rw[hAc]at h;cases e:cs[i]? with
 |none=>rw[e]at h;cases h
 |some c=>rw[e]at h;exact⟨c,(hAh h).symm,rfl⟩
theorem qKq{net:List Tr}{L:List (Str×List Str)}(r:qIh (L.map (·.1)))(G:Rnd net (L.map (·.1)) (L.map (·.2))):qNd net (dtL L)↔qLv (L.map (·.2)):=by
 constructor
 ·rintro⟨L',e,_,_,F⟩;rw[qSh (PyData.list.inj e)];exact F
 ·intro F;exact⟨L,rfl,r,G,F⟩
theorem qSd{net:List Tr}{ps:List Str}{R:List (List Str)}(G:Rnd net ps R){Fs:List (List Ps)}(hF:IsF R Fs):qLv R↔qYl R (hmI net ps) Fs:=by
 constructor
 ·rintro⟨h,Gs,hG,La,C⟩;exact qK8 (qC2 G) hG hF La (qIw G) C
 ·intro C;exact⟨_,_,hF,qIw G,C⟩
theorem qOf{D:PyData}(dok:DOk D){net:List Tr}(ok:NetOk net){L:List (Str×List Str)}(G:Rnd net (L.map (·.1)) (L.map (·.2)))(e:D=dtL L):L.length<=24/\∀l∈L,l.2.length<=24:=by
 subst e;refine⟨by have:=dok.few _ rfl;rwa [hA4]at this,λl hl=>?_⟩;have h1:=(qGu G l hl).length_eq;have h2:=qNj net l.1;have h3:=ok.le;omega
theorem qQ2{net:List Tr}{ps:List Str}{R:List (List Str)}(G:Rnd net ps R){xs:List Ps}(xE:∀e∈xs,e∈ends R){p:Str×List Str}(hp:p∈PCK (lbF net) net){qs:List Str}(hq:qGa (net.filter λt=>decide (t.1∈p.2)) qs) :
  (((xs.filter λe=>decide (ptA ps e∈qs)).length:Int)=(p.2.length:Int)-(qs.length:Int)+2)↔qF2 net ps xs p:=by
 obtain⟨h1,h2⟩:=qQ1 G hp hq;unfold qF2;rw[<-hDh];have:xs.countP (λe=>decide (ptA ps e∈qs))=xs.countP λe=>decide (homF net (ptA ps e)=p.1):=hCa λe he=>by
  rw[hEv,hEv,h1];exact⟨λz=>z.2,λz=>⟨qGw G (qAs (xE e he)),z⟩⟩
 rw[this,h2];omega
def qVb:Sp:=λvs H Q _=>∃(p:Addr) (net:List Tr) (v:V) (D:PyData),vs=[.ref p,v]/\qEl H p net/\NetOk net/\Dh H v D/\DOk D/\∀(b:Bool) H',(b=true↔qNd net D)->Ext H H'->Q (.bl b) H'
section
variable{P:Program}{w:World}{K:PySem.W.Frag}{mg:Str->Option Value}{base:Heap}{f f1 f2 f3 f4:Addr}{fd fd1 fd2 fd3 fd4:FuncData}
noncomputable abbrev lyN:List Str:=["net","lists","starts","piece","places","faces"]
theorem qJ8:FnScope lyN ["net","lists"] (qAc qQh):=fsk
theorem qXg(F:Fun K "lays" "lays" qQh f fd)(G1:Cl P w K mg base CX0 3 f1 fd1 ["net","lists"] qVd "goes_round_points")
  (G2:Cl P w K mg base CX0 3 f2 fd2 ["lists"] qNl "face_starts")
  (G3:Cl P w K mg base CX0 3 f3 fd3 ["net"] qNn "pieces")
  (G4:Cl P w K mg base CX0 1 f4 fd4 ["net"] qGc "points")
  (ml:mg "len"=none):FnOk P w K mg base CX0 4 f fd ["net","lists"] qVb:=by
 refine F.okA qJ8 λcdv A outer s H vs Q E hr h=>?_
 obtain⟨p,net,v,D,rfl,hN,ok,hD,dok,q⟩:=h;have hr1:=hr.mono (j:=1) (by decide);refine⟨_,qAa (qC9 (qDe (qDd (qBf G1 hr rfl .nil qBg (qAe (pv 0) (pa1 (pv 1)))))) (qAi (qA2 qDf)) qBy)
  (qAa (qAr (i:=2) qJ8.nd rfl (Or.inl rfl) (qBf G2 hr rfl .nil qBg (pa1 (pv 1))))
  (qAa (qB3 PassesOwn.never rfl (qA1 (qBf G3 hr rfl .nil qBg (pa1 (pv 0)))) (qAf (i:=3) qJ8.nd rfl (Or.inr rfl))
   (qAa (qAr (i:=4) qJ8.nd rfl (Or.inr rfl) (qBf G4 hr1 rfl .nil qBg (pa1 (qKi (N:=lyN) (sc:=qAc qQh) (N':=["tie","piece"]) (sub:=[none,some 3]) (qA1 (pv 0)) (λC s H fp=>⟨qEf (qAv (show OpR _ (compareOp .In) (rIn K false) from qKl) (qAt (show IxR _ (qZf K) from qCk) (pv 0) qAk (λ_ _=>rfl)) (pv 1) (by with_unfolding_all rfl)),(pv 0)⟩)))))
   (qAa (qTs (i:=5) (N:=lyN) (sc:=qAc qQh) (N':=["point","place","places"]) (sub:=[none,none,some 4]) rfl rfl (CmpOk.of (by decide +kernel)) rfl (qA1 (pv 2)) (λC s H fp=>⟨(show PG _ _ (qPt K 2 _) from qBt rfl (qAg (qAf (i:=0) (by show(["point","place","places"]:List Str).Nodup;decide) rfl (Or.inl rfl)) (qAg (qAf (i:=1) (by show(["point","place","places"]:List Str).Nodup;decide) rfl (Or.inl rfl)) qA3))),qEf (qAv (show OpR _ (compareOp .In) (rIn K false) from qKl) (pv 0) (pv 2) (by with_unfolding_all rfl)),(pv 0)⟩) qJ8.nd rfl (Or.inl rfl))
   (qAi (qC9 (qAv qT2 (qAh qAj rfl ml hBd (pa1 (pv 5))) (qA5 qCq (qA5 qVr (qAh qAj rfl ml hBd (pa1 (pv 3))) (qAh qAj rfl ml hBd (pa1 (pv 4)))) qAk) (qA6 _)) (qAi (qA2 qDf)) qBy)))))
  (qAi (qA2 qDf)))),?_⟩
 refine⟨_,rfl,_,rfl,p,net,v,D,rfl,hN,ok,hD,dok,λb1 H1 hb1 e1=>⟨_,rfl,?_⟩⟩;cases b1 with
 |false =>
  refine iteT (q false H1 ⟨λz=>(by cases z),λ⟨L,e,rL,G,_⟩=>absurd (hb1.mpr ⟨L,e,rL,G⟩) hAo⟩ e1)
 |true =>
  refine qFs ?_;obtain⟨L,rfl,rL,G⟩:=hb1.mp rfl;obtain⟨l24,r24⟩:=qOf dok ok G rfl;have fl:=qKq rL G;have hD1:=hD.ext e1;have hN1:=hN.ext e1;cases hD1 with
  |@lst a vs _ ha hvs =>
  obtain⟨as,rfl,pas⟩:=qFr hvs;refine⟨_,rfl,a,net,L,rfl,⟨as,ha,pas⟩,l24,r24,G,λst H2 bs xs Fs e2 hst0 hst pb lx hhd hF=>?_⟩;rw[qSd G hF,qM5 G hF hhd]at fl;have xE:∀e∈xs,e∈ends (L.map (·.2)):=λe he=>by
   have:some e∈Fs.map List.head?:=by rw[hhd];exact hAr he
   obtain⟨F,hFm,q⟩:=hAm.mp this;exact qB7 hF hFm (List.mem_of_mem_head? q)
  refine⟨_,rfl,p,net,rfl,hN1.ext e2,ok.le,λpr H3 e3 hpr0 hpr=>?_⟩;obtain⟨cs,hcs,pcs⟩:=hpr;have e13:=e2.trans e3;have lcs:=pcs.length;refine⟨pr,rfl,⟨_,SqL.of hcs⟩,?_⟩;refine qC6 (xs:=cs.map V.ref) (λi σ H4=>∃x3 x4 x5:Option V,σ=[some (.ref p),some (.ref a),some (.ref st),x3,x4,x5]/\Ext H3 H4/\∀j,j<i->∀pc,(PCK (lbF net) net)[j]?=some pc->qF2 net (L.map (·.1)) xs pc)
   ⟨_,_,_,rfl,Ext.refl _,λj h=>absurd h (hD6 j)⟩ (λi σ H4 _ z=>by obtain⟨_,_,_,_,e,_⟩:=z;exact SqL.of (e _ _ hcs)) ?_ ?_
  ·rintro i x σ H4 hx ⟨x3,x4,x5,rfl,e4,done⟩;obtain⟨c,rfl,hc⟩:=qFm hx;obtain⟨row,hrow,hc1,_⟩:=qAo pcs hc;rw[hAc]at hrow;cases hpc:(PCK (lbF net) net)[i]? with
   |none=>rw[hpc]at hrow;cases hrow
   |some pc =>
   rw[hpc]at hrow;cases hAh hrow;have mpc:=hAs hpc;have hN4:=(hN1.ext e13).ext e4;obtain⟨ts,hts,pts⟩:=hN4;have lts:=pts.length;refine⟨_,rfl,p,rfl,⟨_,SqL.of hts⟩,?_⟩;refine qA0 (xs:=ts.map V.ref) (λj ys H5=>H4=H5/\∃us:List Addr,ys=us.map V.ref/\Paired (λa t=>H4 a=some (.tup (trV t))) us ((net.take j).filter λt=>decide (t.1∈pc.2))) ⟨rfl,[],rfl,.nil⟩ (λj ys H5 _ h=>by rw[<-h.1];exact SqL.of hts) ?_ ?_
   ·rintro j x ys H5 hx5 ⟨rfl,us,rfl,pu⟩;obtain⟨b,t,rfl,ht,hb⟩:=qDl pts hx5;have hc4:=e4 _ _ hc1;refine⟨sls,⟨_,rfl,b,_,0,_,rfl,rfl,SqT.of hb,(by exact qAq (j:=0) rfl),_,rfl,c,_,rfl,.inl (SqL.of hc4),rfl,qK1 _,_,rfl,?_⟩⟩;rw[hEr hAo,qMo];have lu:=pu.length;have lf:((net.take j).filter λt=>decide (t.1∈pc.2)).length<=12:=hBa (hBj _ _) (hBa (hD7 _ _) ok.le);refine qGi (λz=>?_) (λz=>?_)
    ·refine⟨_,rfl,?_,nxt (qBj hx5) ⟨rfl,us++[b],by rw[hAf];rfl,?_⟩⟩
     ·rw[hA4];exact qAd (by omega)
     ·rw[qAl ht,hBk,hCl (p:=λt:Tr=>decide (t.1∈pc.2)) z];exact Paired.snc pu hb
    ·refine nxt (qBj hx5) ⟨rfl,us,rfl,?_⟩;rw[qAl ht,hBk,hCm (p:=λt:Tr=>decide (t.1∈pc.2)) z,hCr,hBr];exact pu
   rintro ys H5 ⟨rfl,us,rfl,pu⟩ un hun;rw[hA4,lts,hBh]at pu;have e5:=Ext.new hun (.lst (us.map V.ref));have lf:(net.filter λt=>decide (t.1∈pc.2)).length<=12:=hBa (hBj _ _) ok.le;refine⟨un,_,rfl,⟨us,upd_same,Paired.mapP pu λ_ _ z=>e5 _ _ z⟩,lf,λqa qs H6 e6 hqa0 hqa pq rq lq=>?_⟩;have e46:=(e4.trans e5).trans e6;have hst6:=(e3.trans e46) _ _ hst;have pb6:Paired (qBn (L.map (·.1)) H6) bs xs:=Paired.mapP pb λ_ _ z=>z.ext (e3.trans e46)
   have lbs:=pb6.length;refine⟨_,rfl,st,rfl,⟨_,SqL.of hst6⟩,?_⟩;refine qA0 (xs:=bs.map V.ref) (λj ys H7=>H6=H7/\ys=(((xs.take j).filter λe=>decide (ptA (L.map (·.1)) e∈qs)).map λe=>V.str (ptA (L.map (·.1)) e))) ⟨rfl,rfl⟩ (λj ys H7 _ h=>by rw[<-h.1];exact SqL.of hst6) ?_ ?_
   ·rintro j x ys H7 hx7 ⟨rfl,rfl⟩;obtain⟨b,rfl,hb⟩:=qFm hx7;obtain⟨e,he,heb⟩:=qAo pb6 hb;refine⟨b,_,rfl,SqT.of heb,rfl,_,_,rfl,_,_,rfl,rfl,?_⟩;refine⟨Sle.set _ (sls) (λu z=>by cases z),⟨_,rfl,_,rfl,qa,_,rfl,.inl (SqL.of hqa),rfl,qK1 _,_,rfl,?_⟩⟩;rw[hEr hAo,qMo];refine qGi (λz=>?_) (λz=>?_)
    ·refine⟨_,rfl,?_,nxt (qBj hx7) ⟨rfl,?_⟩⟩
     ·rw[hA4];have:=hBj (λe=>decide (ptA (L.map (·.1)) e∈qs)) (xs.take j);have:=hD7 j xs;exact qAd (by omega)
     ·rw[qAl he,hBk,hCl (p:=λe=>decide (ptA (L.map (·.1)) e∈qs)) z,hAf];rfl
    ·refine nxt (qBj hx7) ⟨rfl,?_⟩;rw[qAl he,hBk,hCm (p:=λe=>decide (ptA (L.map (·.1)) e∈qs)) z,hCr,hBr]
   rintro ys H7 ⟨rfl,rfl⟩ fa hfa;rw[hA4,lbs,hBh];have e7:=Ext.new hfa (.lst ((xs.filter λe=>decide (ptA (L.map (·.1)) e∈qs)).map λe=>V.str (ptA (L.map (·.1)) e)));have hc7:=(e46.trans e7) _ _ hc1;have hqa7:=e7 _ _ hqa;refine⟨_,rfl,fa,_,rfl,.inl (SqL.of upd_same),_,rfl,c,_,rfl,.inl (SqL.of hc7),_,rfl,qa,_,rfl,.inl (SqL.of hqa7),_,_,rfl,rfl,_,_,rfl,rfl,rfl,_,rfl,?_⟩;have pcn:=qQ2 G xE mpc pq;rw[hA4,hA4,hA4];refine qGi (λz=>?_) (λz=>?_)
   ·refine q false _ ⟨λz=>(by cases z),λh=>?_⟩ (e1.trans (e13.trans (e46.trans e7)));have:=pcn.mpr (fl.mp h pc mpc);rw[this]at z;simp at z
   ·refine⟨_,_,_,rfl,e46.trans e7,λj hj pc' hpc'=>?_⟩;rcases Nat.lt_succ_iff_lt_or_eq.mp hj with h|h
    ·exact done j h pc' hpc'
    ·subst h;rw[hpc]at hpc';cases hAh hpc';refine pcn.mp ?_
     simpa using z
  ·rintro σ H4 ⟨x3,x4,x5,rfl,e4,done⟩;refine q true H4 ⟨λ_=>fl.mpr λpc hpc=>?_,λ_=>rfl⟩ (e1.trans (e13.trans e4));obtain⟨j,hj,e⟩:=hCx hpc;refine done j ?_ pc (by rw[hA8 hj,e]);rw[hA4]at lcs;rw[hA4,lcs];exact hj
end
section
variable{α:Type}[DecidableEq α]
structure FarS(R:List (List α))(S:List Ps)(Lf:List (α×Ps))(M:List (Ps×Ps)):Prop where
 f1:∀p∈Lf,p.2∈S/\atR R p.2=some p.1
 f2:∀e∈S,∀t,atR R e=some t->t∈Lf.map (·.1)
 fn:(Lf.map (·.1)).Nodup
 fl:Lf.length<=S.length
 m1:∀p∈M,p.1∈S/\p.2∈S/\p.2=farR R p.1
 mn:(M.map (·.1)).Nodup
 m2:∀e∈S,farR R e∈S->e∈M.map (·.1)
 sE:∀e∈S,e∈ends R
 sn:S.Nodup
theorem zAh{R:List (List α)}:FarS R [] [] []:=⟨λp h=>(by cases h),λp h=>(by cases h),hCf,hAj _,λp h=>(by cases h),hCf,λp h=>(by cases h),λp h=>(by cases h),hCf⟩
variable{R:List (List α)}{S:List Ps}{Lf:List (α×Ps)}{M:List (Ps×Ps)}(tw:Tw R)(h:FarS R S Lf M){e:Ps}(he:e∈ends R)(ne:e∉S){t:α}(q:atR R e=some t)
include tw h he ne q
theorem FarS.old{u:Ps}(hu:(t,u)∈Lf):FarS R (S++[e]) Lf (M++[(e,u),(u,e)]):=by
 obtain⟨uS,qu⟩:=h.f1 _ hu;dsimp only at uS qu;have uE:=h.sE u uS;have nue:u≠e:=λz=>ne (z▸uS)
 have fe:farR R e=u:=qBv tw he uE nue (by rw[qu,q]);have fu:farR R u=e:=qBv tw uE he (Ne.symm nue) (by rw[qu,q]);have ek:e∉M.map (·.1):=λz=>by
  obtain⟨p,hp,rfl⟩:=hAm.mp z;exact ne (h.m1 p hp).1
 have uk:u∉M.map (·.1):=λz=>by
  obtain⟨p,hp,rfl⟩:=hAm.mp z;have:=(h.m1 p hp).2;rw[fu]at this;exact ne (this.2▸this.1)
 refine⟨λp hp=>?_,λx hx t' qt=>?_,h.fn,?_,λp hp=>?_,?_,λx hx fx=>?_,λx hx=>?_,?_⟩
 ·have:=h.f1 p hp;exact⟨hAx _ this.1,this.2⟩
 ·rcases hAp.mp hx with z|z
  ·exact h.f2 x z t' qt
  ·rw[hAd.mp z,q]at qt;cases hAh qt;exact hAm.mpr ⟨_,hu,rfl⟩
 ·rw[hAk];exact Nat.le_add_right_of_le h.fl
 ·rcases hAp.mp hp with z|z
  ·have:=h.m1 p z;exact⟨hAx _ this.1,hAx _ this.2.1,this.2.2⟩
  ·rcases hAg.mp z with rfl|z
   ·exact⟨by simp,hAx _ uS,fe.symm⟩
   ·rw[hAd.mp z];exact⟨hAx _ uS,by simp,fu.symm⟩
 ·rw[hAf,hB6];refine⟨h.mn,?_,λa ha b hb z=>?_⟩
  ·simp[Ne.symm nue]
  ·rcases hAg.mp hb with w|w
   ·have w:b=e:=w;subst z w;exact ek ha
   ·have w:b=u:=hAd.mp w;subst z w;exact uk ha
 ·rw[hAf];by_cases xe:x=e
  ·subst xe;exact hAq _ (by simp)
  ·by_cases xu:x=u
   ·subst xu;exact hAq _ (by simp)
   ·have xS:x∈S:=by
     rcases hAp.mp hx with z|z
     ·exact z
     ·exact absurd (hAd.mp z) xe
    refine hAx _ (h.m2 x xS ?_);rcases hAp.mp fx with z|z
    ·exact z
    ·exfalso;have z:=hAd.mp z;have:=qEk tw (h.sE x xS);rw[z,fe]at this;exact xu this.symm
 ·rcases hAp.mp hx with z|z
  ·exact h.sE x z
  ·rw[hAd.mp z];exact he
 ·rw[hB6];exact⟨h.sn,by simp,λa ha b hb z=>ne (hAd.mp hb▸z▸ha)⟩
theorem FarS.new(nt:t∉Lf.map (·.1)):FarS R (S++[e]) (Lf++[(t,e)]) M:=by
 have nf:farR R e∉S:=λz=>nt (h.f2 _ z t (by rw[(qAw tw he).2.2.1,q]))
 refine⟨λp hp=>?_,λx hx t' qt=>?_,?_,?_,λp hp=>?_,h.mn,λx hx fx=>?_,λx hx=>?_,?_⟩
 ·rcases hAp.mp hp with z|z
  ·have:=h.f1 p z;exact⟨hAx _ this.1,this.2⟩
  ·rw[hAd.mp z];exact⟨by simp,q⟩
 ·rw[hAf];rcases hAp.mp hx with z|z
  ·exact hAx _ (h.f2 x z t' qt)
  ·rw[hAd.mp z,q]at qt;cases hAh qt;exact hAq _ (by simp)
 ·rw[hAf,hB6];exact⟨h.fn,by simp,λa ha b hb z=>by
   have w:b=t:=hAd.mp hb;subst z w;exact nt ha⟩
 ·rw[hAk,hAk];exact hDw h.fl 1
 ·have:=h.m1 p hp;exact⟨hAx _ this.1,hAx _ this.2.1,this.2.2⟩
 ·rcases hAp.mp hx with z|z
  ·rcases hAp.mp fx with w|w
   ·exact h.m2 x z w
   ·exfalso;have w:=hAd.mp w;have:=qEk tw (h.sE x z);rw[w]at this;exact nf (this▸z)
  ·rw[hAd.mp z]at fx;rcases hAp.mp fx with w|w
   ·exact absurd w nf
   ·exact absurd (hAd.mp w) (qAw tw he).2.1
 ·rcases hAp.mp hx with z|z
  ·exact h.sE x z
  ·rw[hAd.mp z];exact he
 ·rw[hB6];exact⟨h.sn,by simp,λa ha b hb z=>ne (hAd.mp hb▸z▸ha)⟩
end
section
variable{α:Type}[DecidableEq α]
structure FarOk(R:List (List α))(M:List (Ps×Ps)):Prop where
 m1:∀p∈M,p.1∈ends R/\p.2=farR R p.1
 mn:(M.map (·.1)).Nodup
 m2:∀e∈ends R,e∈M.map (·.1)
def qJv(R:List (List α))(n:Nat):List Ps:=(List.range n).flatMap λi=>(List.range (lenR R i)).map λj=>(i,j)
noncomputable def endQ(i k:Nat):List Ps:=(List.range k).map λj=>(i,j)
theorem qDg(R:List (List α))(n:Nat):qJv R (n+1)=qJv R n++endQ n (lenR R n):=by
 unfold qJv endQ;rw[hBv,hCi];simp
theorem qHa(i k:Nat):endQ i (k+1)=endQ i k++[(i,k)]:=by
 unfold endQ;rw[hBv,hAf];rfl
theorem qUr{R:List (List α)}{n i k:Nat}(h:n<=i):(i,k)∉qJv R n:=λz=>by
 obtain⟨j,hj,z⟩:=List.mem_flatMap.mp z;obtain⟨m,_,z⟩:=hAm.mp z;have:=hAw.mp hj;cases z;omega
theorem qUq{i k:Nat}:(i,k)∉endQ i k:=λz=>by
 obtain⟨m,hm,z⟩:=hAm.mp z;have:=hAw.mp hm;cases z;omega
theorem FarS.ok{R:List (List α)}(tw:Tw R){Lf:List (α×Ps)}{M:List (Ps×Ps)}(h:FarS R (qJv R R.length) Lf M):FarOk R M :=
 ⟨λp hp=>⟨h.sE _ (h.m1 p hp).1,(h.m1 p hp).2.2⟩,h.mn,λe he=>h.m2 e he (qAw tw he).1⟩
theorem qX7{R:List (List α)}(lt:R.length<=24)(lr:∀i<R.length,lenR R i<=24):(ends R).length<=576:=by
 have h:∀n,n<=R.length->(qJv R n).length<=24*n:=λn=>by
  induction n with
  |zero=>intro _;exact hAj _
  |succ n ih =>
   intro hn;rw[qDg,hAk];have:=ih (by omega);have h2:=lr n (by omega);unfold endQ;rw[hA4,hB1];omega
 have:=h R.length (hAj _);show(qJv R R.length).length<=576;omega
end
noncomputable def qDt(H:Hp)(b:Addr)(e:Ps):Prop:=H b=some (.tup [.int (e.1:Nat),.int (e.2:Nat)])
noncomputable def qFi(e:Ps):List Key:=[Sum.inl (e.1:Nat),Sum.inl (e.2:Nat)]
theorem qJa{e u:Ps}(q:qFi e=qFi u):e=u:=by
 unfold qFi at q;have q1:=Sum.inl.inj (hAh (congrArg (·.head?) q));have q2:=Sum.inl.inj (hAh (congrArg (·.getLast?) q));exact Prod.ext (by omega) (by omega)
theorem qDt.ext{H H':Hp}{b:Addr}{e:Ps}(h:qDt H b e)(x:Ext H H'):qDt H' b e:=x _ _ h
theorem qDt.set{H:Hp}{b a:Addr}{e:Ps}(h:qDt H b e)(nt:∀ys,H a≠some (.tup ys))(o:HO):qDt (upd H a o) b e:=by
 unfold qDt at h ⊢;rw[qAb (λz=>nt _ (z▸h))];exact h
section
variable{β κ:Type}[DecidableEq κ]{k:β->κ}
def DAt(k:β->κ)(H:Hp)(kvs:List (κ×V))(L:List (β×Ps)):Prop:=Paired (λkv p=>kv.1=k p.1/\∃b,kv.2 = .ref b/\qDt H b p.2) kvs L
theorem DAt.ext{H H':Hp}{kvs:List (κ×V)}{L:List (β×Ps)}(h:DAt k H kvs L)(e:Ext H H'):DAt k H' kvs L:=Paired.mapP h λ_ _ ⟨h1,b,h2,h3⟩=>⟨h1,b,h2,h3.ext e⟩
theorem DAt.set{H:Hp}{kvs:List (κ×V)}{L:List (β×Ps)}(h:DAt k H kvs L){d:Addr}(nt:∀ys,H d≠some (.tup ys))(o:HO):DAt k (upd H d o) kvs L:=Paired.mapP h λ_ _ ⟨h1,b,h2,h3⟩=>⟨h1,b,h2,h3.set nt o⟩
theorem DAt.none(inj:∀a b,k a=k b->a=b){H:Hp}{x:β}:∀ {kvs:List (κ×V)} {L:List (β×Ps)},DAt k H kvs L->x∉L.map (·.1)->valV kvs (k x)=Option.none
 |_,_,.nil,_=>rfl
 |_,_,.cons h t,n=>by
  rw[hAn]at n;rw[qAz (λz=>n (hAg.mpr (.inl (inj _ _ (h.1▸z)).symm)))];exact DAt.none inj t λz=>n (hAe _ z)
theorem DAt.some(inj:∀a b,k a=k b->a=b){H:Hp}{x:β}{u:Ps}:∀ {kvs:List (κ×V)} {L:List (β×Ps)},DAt k H kvs L->(L.map (·.1)).Nodup->(x,u)∈L->∃b,valV kvs (k x)=Option.some (.ref b)/\qDt H b u
 |_,_,.nil,_,m=>by cases m
 |_,_,@Paired.cons _ _ _ kv p _ _ h t,nd,i=>by
  rw[hAn,hB7]at nd;obtain⟨h1,b,h2,h3⟩:=h;rcases hAg.mp i with z|z
  ·subst z;exact⟨b,by rw[qBc h1,h2],h3⟩
  ·have ne:p.1≠x:=λq=>nd.1 (by rw[q];exact hAr (f:=Prod.fst) z)
   obtain⟨b',v,y⟩:=DAt.some inj t nd.2 z;exact⟨b',by rw[qAz (λq=>ne (inj _ _ (h1▸q)))];exact v,y⟩
end
def qHk(H:Hp)(p:Addr)(R:List (List Key)):Prop:=∃as:List Addr,H p=some (.lst (as.map V.ref))/\Paired (λa r=>H a=some (.lst (r.map kV))) as R
theorem qHk.ext{H H':Hp}{p:Addr}{R:List (List Key)}(h:qHk H p R)(e:Ext H H'):qHk H' p R:=by
 obtain⟨as,h1,h2⟩:=h;exact⟨as,e _ _ h1,Paired.mapP h2 λ_ _ z=>e _ _ z⟩
def qWj:Sp:=λvs H Q _=>∃(p:Addr) (R:List (List Key)),vs=[.ref p]/\qHk H p R/\R.length<=24/\(∀i<R.length,lenR R i<=24)/\Tw R/\∀(r:Addr) (H':Hp) (kvs:List (List Key×V)) (M:List (Ps×Ps)),Ext H H'->H r=none->H' r=some (.dT kvs)->DAt qFi H' kvs M->FarOk R M->Q (.ref r) H'
section
variable{P:Program}{w:World}{K:PySem.W.Frag}{mg:Str->Option Value}{base:Heap}{f f1 f2 f3 f4:Addr}{fd fd1 fd2 fd3 fd4:FuncData}
noncomputable abbrev faN:List Str:=["_law_turns","_law_first","_law_far_here","_law_point","_law_place","_law_tie"]
theorem qO8:FnScope faN ["_law_turns"] (qAc zAs):=fsk
theorem qZs(F:Fun K "_law_far" "_law_far" zAs f fd)(mr:mg "range"=none)(ml:mg "len"=none):FnOk P w K mg base CX0 1 f fd ["_law_turns"] qWj:=by
 refine F.okA qO8 λcdv A outer s H vs Q E hr h=>?_
 obtain⟨p,R,rfl,⟨as,hp,pr⟩,lt,lr,tw,q⟩:=h;have hu:(A.deeper (PyProof.Rows.envOfC (Str.ofString "_law_far") (qAc zAs) s.heap.objs.size f cdv)).units+1<cLine:=qCh hr;refine⟨_,qAa (qAr (i:=1) qO8.nd rfl (Or.inl rfl) qEy)
  (qAa (qAr (i:=2) qO8.nd rfl (Or.inl rfl) qIy)
  (qAa (qB3 PassesOwn.never rfl (qBz rfl mr (pa1 (qAh qAj rfl ml hBd (pa1 (pv 0))))) (qAf (i:=3) qO8.nd rfl (Or.inl rfl))
   (qAi (qB3 PassesOwn.never rfl (qBz rfl mr (pa1 (qAh qAj rfl ml hBd (pa1 (qAt qAm (pv 0) (pv 3) (λ_ _=>rfl)))))) (qAf (i:=4) qO8.nd rfl (Or.inl rfl))
    (qAa (qAr (i:=5) qO8.nd rfl (Or.inl rfl) (qAt qAm (qAt qAm (pv 0) (pv 3) (λ_ _=>rfl)) (pv 4) (λ_ _=>rfl)))
    (qAi (qC9 (qQv (qZn (qCh hr) (pv 5) (pv 1)))
     (qAa (qDi (qCh hr) (pv 2) (qB4 (qAe (pv 3) (pa1 (pv 4)))) (qCv (qCh hr) (pv 1) (pv 5) (λ_ _=>rfl)) rfl)
     (qAi (qDi (qCh hr) (pv 2) (qCv (qCh hr) (pv 1) (pv 5) (λ_ _=>rfl)) (qB4 (qAe (pv 3) (pa1 (pv 4)))) rfl)))
     (qAi (qDi (qCh hr) (pv 1) (pv 5) (qB4 (qAe (pv 3) (pa1 (pv 4)))) rfl))))))))
  (qAi (qA2 (pv 2))))),?_⟩
 intro fa hfa;have n1:=Ext.new hfa (.dK []);intro d hd;have n2:=n1.trans (Ext.new hd (.dT []));have hd0:H d=none:=n1.none hd;have ndf:d≠fa:=λz=>by rw[z,upd_same]at hd;cases hd
 have lA:as.length=R.length:=pr.length;have l576:=qX7 lt lr;refine⟨_,rfl,p,_,rfl,.inl (SqL.of (n2 _ _ hp)),_,rfl,by rw[hA4];omega,by rw[hA4];omega,?_⟩;rw[hB8,hA4,lA];refine qCs (λi σ H3=>∃(x3 x4 x5:Option V) (k1:List (Key×V)) (k2:List (List Key×V)) (Lf:List (Key×Ps)) (M:List (Ps×Ps)),σ=[some (.ref p),some (.ref fa),some (.ref d),x3,x4,x5]/\Ext H H3/\H3 fa=some (.dK k1)/\H3 d=some (.dT k2)/\DAt id H3 k1 Lf/\DAt qFi H3 k2 M/\FarS R (qJv R i) Lf M)
  ⟨_,_,_,[],[],[],[],rfl,n2,by rw[qAb (Ne.symm ndf)];exact upd_same,upd_same,.nil,.nil,zAh⟩ ?_ ?_
 ·rintro i σ H3 hi ⟨x3,x4,x5,k1,k2,Lf,M,rfl,e3,hf3,hd3,da3,db3,S3⟩;rw[hDt];have hia:i<as.length:=by rw[lA];exact hi
  obtain⟨row,hrow,ha⟩:=qAo pr (hA8 hia);have erow:qAx R i=row:=by unfold qAx;rw[hAa,hrow];rfl
  have elen:lenR R i=row.length:=by unfold lenR;rw[erow]
  have l24:=lr i hi;have atA:atI (as.map V.ref) ((i:Nat):Int)=some (.ref as[i]):=qAq (by rw[hAc,hA8 hia];rfl);refine⟨_,rfl,_,rfl,p,_,_,_,rfl,rfl,SqL.of (e3 _ _ hp),atA,as[i],_,rfl,.inl (SqL.of (e3 _ _ ha)),_,rfl,by rw[hA4];omega,by rw[hA4];omega,?_⟩;rw[hB8,hA4];refine qCs (λk σ H4=>∃(x4 x5:Option V) (k1:List (Key×V)) (k2:List (List Key×V)) (Lf:List (Key×Ps)) (M:List (Ps×Ps)),σ=[some (.ref p),some (.ref fa),some (.ref d),some (.int (i:Nat)),x4,x5]/\Ext H H4/\H4 fa=some (.dK k1)/\H4 d=some (.dT k2)/\DAt id H4 k1 Lf/\DAt qFi H4 k2 M/\FarS R (qJv R i++endQ i k) Lf M)
   ⟨_,_,k1,k2,Lf,M,rfl,e3,hf3,hd3,da3,db3,by show FarS R (qJv R i++[]) Lf M;rw[hBr];exact S3⟩ ?_ ?_
  ·clear hf3 hd3 da3 db3 S3;rintro k σ H4 hk ⟨x4,x5,k1,k2,Lf,M,rfl,e4,hf4,hd4,da4,db4,S4⟩;rw[hDt];have atR_:atI (row.map kV) ((k:Nat):Int)=some (kV row[k]):=qAq (by rw[hAc,hA8 hk];rfl);have qe:atR R (i,k)=some row[k]:=by unfold atR;rw[erow];exact hA8 hk
   have he:(i,k)∈ends R:=qAn.mpr (by rw[elen];exact hk);have ne:(i,k)∉qJv R i++endQ i k:=λz=>(hAp.mp z).elim (qUr (hAj _)) qUq
   refine⟨_,rfl,_,rfl,p,_,_,_,rfl,rfl,SqL.of (e4 _ _ hp),atA,_,rfl,as[i],_,_,_,rfl,rfl,SqL.of (e4 _ _ ha),atR_,?_⟩;generalize row[k]=t at qe;have dg:=qD3.k (k:=t) hf4;refine⟨_,rfl,_,rfl,fa,_,rfl,dg,_,rfl,?_⟩;have lSn:(qJv R i++endQ i k).length<=576:=hBa (hBe S4.sn λe he=>S4.sE e he) l576;have lk1:k1.length<=576:=by rw[da4.length];exact hBa S4.fl lSn
   have lk2:k2.length<=576:=by
    rw[db4.length];have:=hBe S4.mn λe he=>(by
     obtain⟨p,hp,rfl⟩:=hAm.mp he;exact S4.sE _ (S4.m1 p hp).1)
    rw[hA4]at this;exact hBa this l576
   by_cases m:t∈Lf.map (·.1)
   ·obtain⟨⟨t',u⟩,hu',et⟩:=hAm.mp m;dsimp only at et;subst et;obtain⟨b,hv,hb⟩:=DAt.some (k:=id) (λa b z=>z) da4 S4.fn hu';have hv':valV k1 t'=some (.ref b):=hv;rw[hv']at dg ⊢;have S5:=S4.old tw he ne qe hu';refine iteT ?_;have ntd:∀ys,H4 d≠some (.tup ys):=λys z=>by rw[hd4]at z;cases z
    refine⟨_,rfl,_,rfl,fa,_,rfl,dg,_,rfl,_,rfl,_,rfl,(by show 2<=sizeLine;decide),λT hT=>?_⟩;have x5:=Ext.new hT (.tup [V.int (i:Nat),V.int (k:Nat)]);have hT':qDt (upd H4 T (.tup [V.int (i:Nat),V.int (k:Nat)])) T (i,k):=upd_same;have ek:(i,k)∉M.map (·.1):=λz=>by
     obtain⟨pp,hpp,e⟩:=hAm.mp z;exact ne (e▸(S4.m1 pp hpp).1)
    have uk:u∉M.map (·.1):=λz=>by
     have nd:=S5.mn;rw[hAf,hB6]at nd;exact nd.2.2 u z u (by simp) rfl
    have nue:u≠(i,k):=λz=>ne (z▸(S4.f1 _ hu').1)
    have h5d:=x5 _ _ hd4;have h5f:=x5 _ _ hf4;have da5:=da4.ext x5;have db5:=db4.ext x5;have hb5:=hb.ext x5;have e5:=e4.trans x5;revert hT' h5d h5f da5 db5 hb5 e5;generalize upd _ _ _=H5;intro hT' h5d h5f da5 db5 hb5 e5;refine⟨d,_,rfl,qJx.t (k:=qFi (i,k)) h5d (show H5 T=some (.tup ((qFi (i,k)).map kV)) from hT') (qAd (by omega)),?_⟩;have nv1:valV k2 (qFi (i,k))=none:=DAt.none (λa b z=>qJa z) db5 ek;rw[qCn _ nv1];have nt5:∀ys,H5 d≠some (.tup ys):=λys z=>by rw[h5d]at z;cases z
    have e6:=e5.over hd0 (.dT (k2++[(qFi (i,k),V.ref b)]));have h6d:upd H5 d (.dT (k2++[(qFi (i,k),V.ref b)])) d=some (.dT (k2++[(qFi (i,k),V.ref b)])):=upd_same;have h6f:upd H5 d (.dT (k2++[(qFi (i,k),V.ref b)])) fa=some (.dK k1):=by rw[qAb (Ne.symm ndf)];exact h5f
    have da6:=da5.set nt5 (.dT (k2++[(qFi (i,k),V.ref b)]));have hb6:=hb5.set nt5 (.dT (k2++[(qFi (i,k),V.ref b)]));have db6:DAt qFi (upd H5 d (.dT (k2++[(qFi (i,k),V.ref b)]))) (k2++[(qFi (i,k),V.ref b)]) (M++[((i,k),u)]):=Paired.snc (db5.set nt5 _) ⟨rfl,b,rfl,hb6⟩;revert e6 h6d h6f da6 hb6 db6;generalize upd _ _ _=H6;intro e6 h6d h6f da6 hb6 db6;have dg6:qD3 H6 fa (kV t') (some (.ref b)):=by
     have:=qD3.k (k:=t') h6f
     rwa [hv']at this
    refine⟨_,rfl,_,rfl,(by show 2<=sizeLine;decide),λT2 hT2=>?_⟩;have x7:=Ext.new hT2 (.tup [V.int (i:Nat),V.int (k:Nat)]);have hT2':qDt (upd H6 T2 (.tup [V.int (i:Nat),V.int (k:Nat)])) T2 (i,k):=upd_same;have h7d:=x7 _ _ h6d;have h7f:=x7 _ _ h6f;have da7:=da6.ext x7;have db7:=db6.ext x7;have hb7:=hb6.ext x7;have e7:=e6.trans x7;have dg7:qD3 (upd H6 T2 (.tup [V.int (i:Nat),V.int (k:Nat)])) fa (kV t') (some (.ref b)):=by
     have:=qD3.k (k:=t') h7f
     rwa [hv']at this
    revert hT2' h7d h7f da7 db7 hb7 e7 dg7;generalize upd _ _ _=H7;intro hT2' h7d h7f da7 db7 hb7 e7 dg7;refine⟨_,rfl,_,rfl,_,rfl,fa,_,rfl,dg7,d,_,rfl,qJx.t (k:=qFi u) h7d (show H7 b=some (.tup ((qFi u).map kV)) from hb7) (qAd (by rw[hAk,hBf];omega)),?_⟩;have uk2:u∉(M++[((i,k),u)]).map (·.1):=λz=>by
     rw[hAf]at z;rcases hAp.mp z with z|z
     ·exact uk z
     ·exact nue (by simpa using z)
    have nv2:valV (k2++[(qFi (i,k),V.ref b)]) (qFi u)=none:=DAt.none (λa b z=>qJa z) db7 uk2;rw[qCn _ nv2];have nt7:∀ys,H7 d≠some (.tup ys):=λys z=>by rw[h7d]at z;cases z
    refine⟨_,_,k1,_,Lf,M++[((i,k),u),(u,(i,k))],rfl,e7.over hd0 _,by rw[qAb (Ne.symm ndf)];exact h7f,upd_same,da7.set nt7 _,?_,?_⟩
    ·have:=Paired.snc (a:=(qFi u,V.ref T2)) (b:=(u,(i,k))) (db7.set nt7 (.dT ((k2++[(qFi (i,k),V.ref b)])++[(qFi u,V.ref T2)]))) ⟨rfl,T2,rfl,hT2'.set nt7 _⟩;rw[show M++[((i,k),u),(u,(i,k))]=(M++[((i,k),u)])++[(u,(i,k))] by simp];exact this
    ·rw[qHa,<-hCk];exact S5
   ·have nv:valV k1 t=none:=DAt.none (k:=id) (λa b z=>z) da4 m;rw[nv];refine qFs ?_;refine⟨_,rfl,_,rfl,(by show 2<=sizeLine;decide),λT hT=>?_⟩;have x5:=Ext.new hT (.tup [V.int (i:Nat),V.int (k:Nat)]);have hT':qDt (upd H4 T (.tup [V.int (i:Nat),V.int (k:Nat)])) T (i,k):=upd_same;have h5d:=x5 _ _ hd4;have h5f:=x5 _ _ hf4;have da5:=da4.ext x5;have db5:=db4.ext x5;have e5:=e4.trans x5;revert hT' h5d h5f da5 db5 e5;generalize upd _ _ _=H5;intro hT' h5d h5f da5 db5 e5;have ntf:∀ys,H5 fa≠some (.tup ys):=λys z=>by rw[h5f]at z;cases z
    refine⟨_,rfl,_,rfl,fa,_,rfl,qJx.k (k:=t) h5f (qAd (by omega)),?_⟩;rw[qCn _ nv];refine⟨_,_,_,k2,Lf++[(t,(i,k))],M,rfl,e5.over hfa _,upd_same,by rw[qAb ndf];exact h5d,Paired.snc (da5.set ntf _) ⟨rfl,T,rfl,hT'.set ntf _⟩,db5.set ntf _,?_⟩;rw[qHa,<-hCk];exact S4.new tw he ne qe m
  ·rintro σ H4 ⟨x4,x5,k1,k2,Lf,M,rfl,e4,hf4,hd4,da4,db4,S4⟩;refine⟨_,_,_,k1,k2,Lf,M,rfl,e4,hf4,hd4,da4,db4,?_⟩;rw[qDg,elen];exact S4
 ·rintro σ H3 ⟨x3,x4,x5,k1,k2,Lf,M,rfl,e3,hf3,hd3,da3,db3,S3⟩;exact⟨_,rfl,q d H3 k2 M e3 hd0 hd3 db3 (S3.ok tw)⟩
end
end My
namespace L2
open PySem PySem.Spec PyProof.Rows PySem.W
section
variable{prog:Program}{w:World}{A:Around}{E:Value->Shared->Prop}{s:Shared}
theorem qM6{T:String}{r d:Addr}{n:Nat}{P:Nat->Value->Prop}{OK:Heap->Prop}{Q:List Value->Shared->Prop}(K:PySem.W.KdlSrc prog w T r d n P OK)(hh:A.handled=none)(hok:OK s.heap)(hn:n<=sizeLine)
  (hQ:∀(h':Heap) (tk:Nat) (acc:Array Value),(∀b o,s.heap.get? b=some o->h'.get? b=some o)->ItemsOf P acc n->Q acc.toList { s with heap:=h',toks:=tk }):wpAny (model prog w) A (collect (.ref r)) Q E s:=by
 unfold collect;refine hEp (hG7 (hF3 F.entry_proto_collect ?_));rw[Around.under_plainId F.plain_proto_collect _];have lt:=K.there _ hok;refine hEp (hEw ?_);refine hEq ⟨hFq F.plain_list_iadd _,hF3 F.entry_list_iadd ?_⟩;rw[Around.under_plainId F.plain_list_iadd _];have gS:(s.heap.push { cls:=.type "list",data:=.seq ([]:List Value).toArray }).get? s.heap.objs.size=some { cls:=.type "list",data:=.seq ([]:List Value).toArray }:=Heap.get?_push_size _ rfl;show wpAny _ A.in1 (Builtin.List.listExtendWith (.ref s.heap.objs.size) (.ref r) (.ref s.heap.objs.size)) _ _ _;have key:=PySem.W.kdl_extend (R:=λr s'=>r = .ok (.ret (.ref s.heap.objs.size))/\∃(h':Heap) (tk:Nat) (acc:Array Value) (c':Nat),s'={ s with heap:=h',toks:=tk }/\(∀b o,b≠s.heap.objs.size->(s.heap.push { cls:=.type "list",data:=.seq ([]:List Value).toArray }).get? b=some o->h'.get? b=some o)/\h'.get? s.heap.objs.size=some { cls:=.type "list",dict:=none,data:=.seq acc c',slots:=#[] }/\ItemsOf P acc n) (s:={ s with heap:=s.heap.push { cls:=.type "list",data:=.seq ([]:List Value).toArray } }) K hh (K.keep _ _ hok λb _ o e=>Heap.get?_push_of_some _ e) s.heap.objs.size (hCn lt.1) (hCn lt.2) (.ref s.heap.objs.size) 0 gS (λh' tk acc c' kp g' it=>⟨rfl,h',tk,acc,c',rfl,kp,g',it⟩) hn;have fin:∀(h':Heap) (tk:Nat) (acc:Array Value) (c':Nat),(∀b o,b≠s.heap.objs.size->(s.heap.push { cls:=.type "list",data:=.seq ([]:List Value).toArray }).get? b=some o->h'.get? b=some o)->h'.get? s.heap.objs.size=some { cls:=.type "list",dict:=none,data:=.seq acc c',slots:=#[] }->ItemsOf P acc n->wpAny (model prog w) A (load s.heap.objs.size >>= λo=>match o.data with | .seq xs _=>pure xs.toList|_=>unsupported "internal:collect") Q E { s with heap:=h',toks:=tk }:=λh' tk acc c' kp g' it=>by
  refine hEp (wpAny_load g' ?_);exact hEq (hQ h' tk acc (λb o e=>kp b o (hAt (Heap.lt_size e)) (Heap.get?_push_of_some _ e)) it)
 refine hF2 key (λf s' hf=>?_) λe s' he=>absurd he.1 (by intro z;cases z)
 cases f with
 |done f =>
  obtain⟨e,h',tk,acc,c',rfl,kp,g',it⟩:=hf;cases e;exact fin h' tk acc c' kp g' it
 |again c =>
  refine⟨hf.1,hFw hf.2 λr s' h=>?_⟩;obtain⟨rfl,h',tk,acc,c',rfl,kp,g',it⟩:=h;exact fin h' tk acc c' kp g' it
end
section
variable{X:Cx}
def qWv(K:PySem.W.Frag):R2:=λx y H Q=>∃ds d,DR K H y (.list ds)/\DR K H x d/\SeqAt.shaped (.list ds)=true/\SeqAt.shaped d=true/\Q (.bl (!ds.any λz=>PyData.eqv z d)) H
theorem qKk(hu:X.A.units+65<cLine):OpR X (compareOp .NotIn) (qWv X.K):=by
 intro aB s σ H x y v u Q I rx ry h;obtain⟨ds,d,hy,hx,sy,sx,q⟩:=h;obtain⟨a1,r1⟩:=DR.reads I hx rx;obtain⟨a2,r2⟩:=DR.reads I hy ry;exact SeqAt.notIn_list_reads r2 r1 (SeqAt.canLay_of_shaped sy) (SeqAt.canLay_of_shaped sx) (room_in_shaped sx hu) ⟨.bl _,H,I,rfl,q⟩
end
end L2
namespace My
open PySem L2
noncomputable def dI(e:Ps):PyData:=.tuple [.int (e.1:Nat),.int (e.2:Nat)]
theorem qMx(a b:Int):PyData.eqv (.int a) (.int b)=decide (a=b):=by
 show(a == b)=_;rw[hBq];simp
theorem zAi(e u:Ps):PyData.eqv (dI e) (dI u)=decide (e=u):=by
 show(PyData.eqv (.int (e.1:Nat)) (.int (u.1:Nat)) && (PyData.eqv (.int (e.2:Nat)) (.int (u.2:Nat)) && true))=_;rw[qMx,qMx,hBq,Bool.and_true,hC4,hEv,hEv,hEv];exact⟨λ⟨a,b⟩=>Prod.ext (by omega) (by omega),λz=>by rw[z];exact⟨rfl,rfl⟩⟩
theorem qS3(e:Ps):∀U:List Ps,(U.map dI).any (λz=>PyData.eqv z (dI e))=decide (e∈U)
 |[]=>by simp
 |u :: U=>by
  rw[hAn,hCj,qS3 e U,zAi,hBq,Bool.or_eq_true,hEv,hEv,hEv,hAg];exact⟨λh=>h.imp Eq.symm id,λh=>h.imp Eq.symm id⟩
theorem qQm{k:Nat}{A:Around}(hr:Room k A):A.units+65<cLine:=by have:=hr.un;omega
theorem qKr(e:Ps):Lay (dI e):=⟨rfl,by show 1<=8;decide⟩
theorem qSj{K:PySem.W.Frag}{H:Hp}{b:Addr}{e:Ps}(h:qDt H b e):DR K H (.ref b) (dI e):=.tup (SqT.of h) (.cons (.int _) (.cons (.int _) .nil))
theorem qHb{K:PySem.W.Frag}{H:Hp}:∀ {bs:List Addr} {U:List Ps},Paired (qDt H) bs U->DRs K H (bs.map V.ref) (U.map dI)
 |_,_,.nil=>.nil
 |_,_,.cons h t=>.cons (qSj h) (qHb t)
def qP7:Sp:=λvs H Q _=>∃(p d b:Addr) (R:List (List Key)) (kvs:List (List Key×V)) (M:List (Ps×Ps)) (e:Ps),vs=[.ref p,.ref d,.ref b]/\qHk H p R/\(ends R).length<=576/\Tw R/\Rd H d (.dT kvs)/\DAt qFi H kvs M/\FarOk R M/\qDt H b e/\e∈ends R /\
 ∀(r:Addr) (H':Hp) (bs:List Addr) (l:List Ps),Ext H H'->H r=none->H' r=some (.lst (bs.map V.ref))->Paired (qDt H') bs (e :: l)->Wk (onR R) (ends R) [] e l e->bs.length<=576->Q (.ref r) H'
section
variable{P:Program}{w:World}{K:PySem.W.Frag}{mg:Str->Option Value}{base:Heap}{f f1 f2 f3 f4:Addr}{fd fd1 fd2 fd3 fd4:FuncData}
noncomputable abbrev fcN:List Str:=["_law_turns","_law_far_here","_law_end","_law_found","_law_point","_law_place"]
theorem qJ9:FnScope fcN ["_law_turns","_law_far_here","_law_end"] (qAc qWp):=fsk
theorem qXj(F:Fun K "_law_face" "_law_face" qWp f fd)(ml:mg "len"=none):FnOk P w K mg base CX0 1 f fd ["_law_turns","_law_far_here","_law_end"] qP7:=by
 refine F.okA qJ9 λcdv A outer s H vs Q E hr h=>?_
 obtain⟨p,d,b,R,kvs,M,e,rfl,⟨as,hp,pr⟩,l576,tw,hd,dm,fo,hb,he,q⟩:=h;refine⟨_,qAa (qAr (i:=3) qJ9.nd rfl (Or.inl rfl) (qBo qC3))
  (qAa (qN5 PassesOwn.never (qAv (qKk (qQm hr)) (pv 2) (pv 3) (by with_unfolding_all rfl))
   (qAa (qDa (qF8 hBo hE1 hE2 qE3 (pv 3) (pa1 (pv 2))))
   (qAa (qEx (qCv (qCh hr) (pv 1) (pv 2) (λ_ _=>rfl)) (qBt rfl (qAg (qAf (i:=4) qJ9.nd rfl (Or.inl rfl)) (qAg (qAf (i:=5) qJ9.nd rfl (Or.inl rfl)) qA3))))
   (qAi (qAr (i:=2) qJ9.nd rfl (Or.inl rfl) (qB4 (qAe (pv 4) (pa1 (qA5 qEa (qA5 qCq (pv 5) qAk) (qAh qAj rfl ml hBd (pa1 (qAt qAm (pv 0) (pv 4) (λ_ _=>rfl)))))))))))))
  (qAi (qA2 (pv 3)))),?_⟩
 refine⟨(by show 0<=sizeLine;exact hAy _),λfo_ hfo=>?_⟩;have n1:=Ext.new hfo (.lst []);have lA:as.length=R.length:=pr.length;have rd:∀ {H':Hp},Ext H H'->Rd H' d (.dT kvs):=λx=>hd.imp (λz=>x _ _ z) λ⟨o,z⟩=>⟨o,x _ _ z⟩
 refine⟨λm σ H3=>∃(x4 x5:Option V) (b':Addr) (y:Ps) (bs:List Addr) (U:List Ps),σ=[some (.ref p),some (.ref d),some (.ref b'),some (.ref fo_),x4,x5]/\Ext H H3/\H3 fo_=some (.lst (bs.map V.ref))/\Paired (qDt H3) bs U/\qDt H3 b' y/\m+U.length=(ends R).length/\((U=[]/\y=e)\/∃l,U=e :: l/\Wk (onR R) (ends R) [] e l y),
  ⟨(ends R).length,_,_,b,e,[],[],rfl,n1,upd_same,.nil,hb.ext n1,rfl,.inl ⟨rfl,rfl⟩⟩,?_⟩
 rintro m σ H3 ⟨x4,x5,b',y,bs,U,rfl,e3,hf3,pb,hy,hm,hU⟩;have hyE:y∈ends R:=by
  rcases hU with ⟨_,rfl⟩|⟨l,_,wk⟩
  ·exact he
  ·exact wk.yE λe he=>qOc tw he
 have lU:bs.length=U.length:=pb.length;refine⟨_,rfl,_,rfl,U.map dI,dI y,.lst (SqL.of hf3) (qHb pb),qSj hy,qB6 (λd hd=>by obtain⟨u,_,rfl⟩:=hAm.mp hd;exact qKr u),(qKr y).shaped,_,rfl,?_⟩;rw[qS3];by_cases my:y∈U
 ·rw[hEt my];refine qFs ?_;rcases hU with ⟨rfl,_⟩|⟨l,rfl,wk⟩
  ·cases my
  ·have ey:y=e:=wk.close (λa ha b hb q=>qRe tw ha hb q) (λa _ h=>by cases h) (.inr my);subst ey;have ll:=wk.len;exact⟨_,rfl,q fo_ H3 bs l e3 hfo hf3 pb wk (by omega)⟩
 ·rw[hEu my];refine iteT ?_;have hU':∃l,U++[y]=e :: l/\Wk (onR R) (ends R) [] e l (onR R y):=by
   rcases hU with ⟨rfl,rfl⟩|⟨l,rfl,wk⟩
   ·exact⟨[],rfl,Wk.one hyE (λz=>by cases z)⟩
   ·exact⟨l++[y],by simp,wk.more (λe he=>qOc tw he) (λz=>by cases z) my⟩
  have lt':U.length+1<=(ends R).length:=by
   obtain⟨l,el,wk⟩:=hU';have:=wk.len;rw[<-el,hAk,hBf]at this;exact this
  refine⟨_,λσ' H' h=>h,?_⟩;refine⟨_,rfl,.inl ⟨rfl,_,SqL.of hf3⟩,_,rfl,fo_,_,_,rfl,rfl,hf3,by rw[hA4];exact qAd (by omega),?_⟩;have ntF:∀ys,H3 fo_≠some (.tup ys):=λys z=>by rw[hf3]at z;cases z
  have e4:=e3.over hfo (.lst (bs.map V.ref++[V.ref b']));have hf4:upd H3 fo_ (.lst (bs.map V.ref++[V.ref b'])) fo_=some (.lst ((bs++[b']).map V.ref)):=by rw[upd_same,hAf];rfl
  have hy4:=hy.set ntF (.lst (bs.map V.ref++[V.ref b']));have pb4:Paired (qDt (upd H3 fo_ (.lst (bs.map V.ref++[V.ref b'])))) (bs++[b']) (U++[y]):=Paired.snc (Paired.mapP pb λ_ _ z=>z.set ntF _) hy4;revert e4 hf4 hy4 pb4;generalize upd _ _ _=H4;intro e4 hf4 hy4 pb4;have mM:=fo.m2 y hyE;obtain⟨⟨y',u⟩,hyu,ey⟩:=hAm.mp mM;dsimp only at ey;subst ey;have eu:u=farR R y':=(fo.m1 _ hyu).2;subst eu;obtain⟨b2,hv,hb2⟩:=DAt.some (λa b z=>qJa z) (dm.ext e4) fo.mn hyu;have dg:qD3 H4 d (.ref b') (some (.ref b2)):=by
   rw[<-hv];exact .inr ⟨kvs,qFi y',b',rd e4,rfl,hy4,rfl⟩
  have fE:=(qAw tw hyE).1;have hi:(farR R y').1<as.length:=by rw[lA];exact qAs fE
  obtain⟨row,hrow,ha⟩:=qAo pr (hA8 hi);have elen:lenR R (farR R y').1=row.length:=by unfold lenR qAx;rw[hAa,hrow];rfl
  have pos:0<row.length:=by have:=qAn.mp fE;omega
  have atA:atI (as.map V.ref) (((farR R y').1:Nat):Int)=some (.ref as[(farR R y').1]):=qAq (by rw[hAc,hA8 hi];rfl);refine⟨_,rfl,_,rfl,d,_,rfl,dg,b2,_,rfl,SqT.of hb2,rfl,_,_,rfl,_,_,rfl,rfl,?_⟩;refine⟨_,rfl,_,rfl,_,_,rfl,rfl,_,rfl,_,rfl,p,_,_,_,rfl,rfl,SqL.of (e4 _ _ hp),atA,_,_,rfl,.inl (SqL.of (e4 _ _ ha)),_,_,rfl,rfl,by rw[hA4];omega,(by show 2<=sizeLine;decide),λT hT=>?_⟩;obtain⟨l,el,wk⟩:=hU';have x5:=Ext.new hT (.tup [V.int ((farR R y').1:Nat),V.int ((((farR R y').2:Nat)+1:Int) % (row.map kV).length)]);have hT':qDt (upd H4 T (.tup [V.int ((farR R y').1:Nat),V.int ((((farR R y').2:Nat)+1:Int) % (row.map kV).length)])) T (onR R y'):=by
   unfold qDt onR nxR;rw[upd_same,elen,hA4];have:(((((farR R y').2+1) % row.length:Nat)):Int)=(((farR R y').2:Nat)+1:Int) % (row.length:Nat):=by rw[Int.natCast_emod];rfl
   rw[this]
  refine⟨m-1,by omega,_,_,T,onR R y',bs++[b'],U++[y'],rfl,e4.trans x5,x5 _ _ hf4,Paired.mapP pb4 λ_ _ z=>z.ext x5,hT',?_,.inr ⟨l,el,wk⟩⟩;rw[hAk,hBf];omega
end
end My
namespace L2
open PySem PySem.Spec PyProof.Rows PySem.W
section
variable{P:Program}{w:World}{A:Around}{E:Value->Shared->Prop}{s:Shared}
theorem qO7{lt:Nat->Nat->Bool}{T:Value}(od:Ordr lt)(hT1:(T == T)=true)(hT2:(T != Value.type "tuple")=true)(ho:s.heap.get? a=some (seqObj "list" vs.toArray n))(h64:vs.length<64)
  (hk:∀h':Heap,(∀b o,b≠a->s.heap.get? b=some o->h'.get? b=some o)->∃fs:List Value,KatTups h' vs fs/\fs.length=vs.length/\∀v∈fs,Looks (model P w) h' (typeOf v) T)
  (hc:∀h':Heap,(∀b o,b≠a->s.heap.get? b=some o->h'.get? b=some o)->∀(i j:Nat) (C:Bool->Shared->Prop),i<vs.length->j<vs.length->C (lt i j) { s with heap:=h' }->wpAny (model P w) A (keyLt' (tuples' true) (vs.getD i Value.none) (vs.getD j Value.none)) C (λ_ _=>False) { s with heap:=h' })
  (h:∀(out:List Value) (p:Array Nat),out.Perm vs->Gd vs.length p->SPk lt p vs.length->out=p.toList.map (λi=>vs.getD i Value.none)->R (.done (.ret .none)) { s with heap:=sortedHeap s.heap a vs out.toArray }):wpAny (model P w) A (Builtin.«list.sort» ⟨[.ref a],[]⟩) R E s:=by
 rw[list_sort_plain];have ha:a<s.heap.objs.size:=Heap.lt_size ho;refine hEp (listItems_at ho rfl (hEp (hFs ho rfl ?_ (by rw[hAu,hFi];omega) (hAy _))));obtain⟨e1,ho1⟩:∃e1,(s.heap.update a (Obj.mapSeq λ_=>#[])).get? a=some (seqObj "list" #[] e1):=⟨_,get?_update_seq ho (λ_=>#[])⟩;refine hEp (seqEpoch_at ho1 rfl (hEp (hG8 ?_ (by show vs.length<=_;rw[hFi];omega))));refine hEp (hG1 ?_ (hAy _));refine hEy ?_;have ho6:(((s.heap.update a (Obj.mapSeq λ_=>#[])).push (seqObj "tuple" vs.toArray 0)).push (seqObj "list" #[] 0)).get? a=some (seqObj "list" #[] e1):=Heap.get?_push_of_some _ (Heap.get?_push_of_some _ ho1);have keep:∀b o,b≠a->s.heap.get? b=some o->(((s.heap.update a (Obj.mapSeq λ_=>#[])).push (seqObj "tuple" vs.toArray 0)).push (seqObj "list" #[] 0)).get? b=some o:=λb o hb e=>by
  refine Heap.get?_push_of_some _ (Heap.get?_push_of_some _ ?_);rw[Heap.get?_update_ne _ _ _ _ hb];exact e
 show wpAny (model P w) A _ R E { s with heap:=((s.heap.update a (Obj.mapSeq λ_=>#[])).push (seqObj "tuple" vs.toArray 0)).push (seqObj "list" #[] 0) };dsimp only;have fin:∀(st':SortSt) (out:List Value),(arrOf st').map (·.2)=out.toArray->failedOf st'=none->out.Perm vs->(∃p,Gd vs.length p/\SPk lt p vs.length/\out=p.toList.map (λi=>vs.getD i Value.none))->wpAny (model P w) A (do
   let touched:=(← seqEpoch a) != e1
   Builtin.List.listUpdate (.ref a) λ_=>(arrOf st').map (·.2)
   if let some e:=failedOf st' then rule "list.sort.comparison-raised";throw e
   if touched then rule "list.sort.modified";raiseError "ValueError" "list modified during sort"
   ret .none) R E { s with heap:=((s.heap.update a (Obj.mapSeq λ_=>#[])).push (seqObj "tuple" vs.toArray 0)).push (seqObj "list" #[] 0) }:=by
  intro st' out e hf hp ⟨p,hg,hsp,ep⟩;refine hEp (seqEpoch_at ho6 rfl ?_);refine hEp (hFs ho6 rfl ?_ (hAy _) (by rw[e,hAu,hp.length_eq,hFi];omega));rw[hf];simp only[bne_self_eq_false,hDs,hFg];rw[e];exact hEq (h out p hp hg hsp ep)
 by_cases h2:vs.toArray.size<2
 ·rw[hEs h2,hEs h2];refine hEp (hEq ?_);rw[StateT.run_pure];refine hEp (hEq (fin _ vs ?_ rfl (hDc _) ⟨Rng vs.length,Array.Perm.refl _,λi j hij hj=>absurd hj (by rw[hAu]at h2;omega),(qIa vs).symm⟩));show(vs.toArray.zip vs.toArray).map (·.2)=vs.toArray;apply Array.toList_inj.mp;rw[Array.toList_map,Array.toList_zip];exact List.map_snd_zip (hAj _)
 ·rw[hEr h2,hEr h2];have hl2:2<=vs.length:=by rw[hAu]at h2;omega
  obtain⟨fs,kt,fl,fa⟩:=hk _ keep;refine hEp (kat_kind (T:=T) kt (by omega) fa hT1 ?_);rw[hT2];refine hEp (hF2 (kat_run (ks:=vs) (Q:=λst' s'=>s'={ s with heap:=((s.heap.update a (Obj.mapSeq λ_=>#[])).push (seqObj "tuple" vs.toArray 0)).push (seqObj "list" #[] 0) }/\∃out:List Value,(arrOf st').map (·.2)=out.toArray/\failedOf st'=none/\out.Perm vs/\∃p,Gd vs.length p/\SPk lt p vs.length/\out=p.toList.map (λi=>vs.getD i Value.none)) (G:=λp s'=>s'={ s with heap:=((s.heap.update a (Obj.mapSeq λ_=>#[])).push (seqObj "tuple" vs.toArray 0)).push (seqObj "list" #[] 0) }/\Gd vs.length p/\SPk lt p vs.length) rfl hl2 h64 (λp st' s' a1 a2 a3 a4=>?_) ?_) ?_ λ_ _ e=>e)
  ·obtain⟨rfl,g,sp⟩:=a4;refine⟨rfl,_,kat_snds rfl a2,a3,?_,p,g,sp,rfl⟩;have q:=(hD9.mp g).map λi=>vs.getD i Value.none
   exact q.trans (List.Perm.of_eq (qIa vs))
  ·refine qP9 od (λi j C hi hj hC=>?_) (by omega) λp g sp=>⟨rfl,g,sp⟩
   exact hc _ keep i j C hi hj hC
  ·rintro⟨⟨⟩,st'⟩ s' ⟨rfl,out,q1,q2,q3,q4⟩;exact fin st' out q1 q2 q3 q4
theorem qO6{lt:Nat->Nat->Bool}{T:Value}(od:Ordr lt)(hT1:(T == T)=true)(hT2:(T != Value.type "tuple")=true)(ho:s.heap.get? a=some (seqObj "list" vs.toArray n))(h2:2<=vs.length)(h64:vs.length<64)
  (hk:∀h':Heap,(∀b o,b≠a->s.heap.get? b=some o->h'.get? b=some o)->∃fs:List Value,KatTups h' vs fs/\fs.length=vs.length/\∀v∈fs,Looks (model P w) h' (typeOf v) T)
  (hc:∀h':Heap,(∀b o,b≠a->s.heap.get? b=some o->h'.get? b=some o)->∀(i j:Nat) (C:Bool->Shared->Prop),i<vs.length->j<vs.length->C (lt i j) { s with heap:=h' }->wpAny (model P w) A (keyLt' (tuples' true) (vs.reverse.getD i Value.none) (vs.reverse.getD j Value.none)) C (λ_ _=>False) { s with heap:=h' })
  (h:∀(out:List Value) (p:Array Nat),Gd vs.length p->SPk lt p vs.length->out=p.toList.map (λi=>vs.reverse.getD i Value.none)->R (.done (.ret .none)) { s with heap:=sortedHeap s.heap a vs out.reverse.toArray }):wpAny (model P w) A (Builtin.«list.sort» ⟨[.ref a],[(Str.ofString "reverse",.bool true)]⟩) R E s:=by
 rw[list_sort_rev];have ha:a<s.heap.objs.size:=Heap.lt_size ho;refine hEp (listItems_at ho rfl (hEp (hFs ho rfl ?_ (by rw[hAu,hFi];omega) (hAy _))));obtain⟨e1,ho1⟩:∃e1,(s.heap.update a (Obj.mapSeq λ_=>#[])).get? a=some (seqObj "list" #[] e1):=⟨_,get?_update_seq ho (λ_=>#[])⟩;refine hEp (seqEpoch_at ho1 rfl (hEp (hG8 ?_ (by show vs.length<=_;rw[hFi];omega))));refine hEp (hG1 ?_ (hAy _));refine hEy ?_;have ho6:(((s.heap.update a (Obj.mapSeq λ_=>#[])).push (seqObj "tuple" vs.toArray 0)).push (seqObj "list" #[] 0)).get? a=some (seqObj "list" #[] e1):=Heap.get?_push_of_some _ (Heap.get?_push_of_some _ ho1);have keep:∀b o,b≠a->s.heap.get? b=some o->(((s.heap.update a (Obj.mapSeq λ_=>#[])).push (seqObj "tuple" vs.toArray 0)).push (seqObj "list" #[] 0)).get? b=some o:=λb o hb e=>by
  refine Heap.get?_push_of_some _ (Heap.get?_push_of_some _ ?_);rw[Heap.get?_update_ne _ _ _ _ hb];exact e
 show wpAny (model P w) A _ R E { s with heap:=((s.heap.update a (Obj.mapSeq λ_=>#[])).push (seqObj "tuple" vs.toArray 0)).push (seqObj "list" #[] 0) };dsimp only;rw[hEs rfl];refine hEp (hFz ?_);rw[hEr (by rw[hAu];omega),hEr (by rw[hAu];omega)];obtain⟨fs,kt,fl,fa⟩:=hk _ keep;refine hEp (kat_kind (T:=T) kt (by omega) fa hT1 ?_);rw[hT2];have zr:(if true=true then (vs.toArray.zip vs.toArray).reverse else vs.toArray.zip vs.toArray)=(vs.reverse.toArray.zip vs.reverse.toArray):=kat_pairs true rfl;rw[zr];have lr:vs.reverse.length=vs.length:=hEo;refine hEp (hF2 (kat_run (ks:=vs.reverse) (vs:=vs.reverse) (Q:=λst' s'=>s'={ s with heap:=((s.heap.update a (Obj.mapSeq λ_=>#[])).push (seqObj "tuple" vs.toArray 0)).push (seqObj "list" #[] 0) }/\∃out:List Value,(arrOf st').map (·.2)=out.toArray/\failedOf st'=none/\out.length=vs.length/\∃p,Gd vs.length p/\SPk lt p vs.length/\out=p.toList.map (λi=>vs.reverse.getD i Value.none)) (G:=λp s'=>s'={ s with heap:=((s.heap.update a (Obj.mapSeq λ_=>#[])).push (seqObj "tuple" vs.toArray 0)).push (seqObj "list" #[] 0) }/\Gd vs.length p/\SPk lt p vs.length) rfl (by omega) (by omega) (λp st' s' a1 a2 a3 a4=>?_) ?_) ?_ λ_ _ e=>e)
 ·obtain⟨rfl,g,sp⟩:=a4;refine⟨rfl,_,kat_snds rfl a2,a3,?_,p,g,sp,rfl⟩;rw[hA4,qV2 g]
 ·rw[lr];refine qP9 od (λi j C hi hj hC=>?_) (by omega) λp g sp=>⟨rfl,g,sp⟩
  exact hc _ keep i j C hi hj hC
 ·rintro⟨⟨⟩,st'⟩ s' ⟨rfl,out,q1,q2,q3,p,q4,q5,q6⟩;dsimp only;refine hEp (seqEpoch_at ho6 rfl ?_);rw[q1,hEs rfl];refine hEp (hFs ho6 rfl ?_ (hAy _) (by rw[Array.size_reverse,hAu,q3,hFi];omega));rw[q2];simp only[bne_self_eq_false,hDs,hFg];have er:out.toArray.reverse=out.reverse.toArray:=by simp
  rw[er];exact hEq (h out p q4 q5 q6)
end
section
variable{P:Program}{w:World}{A:Around}{E:Value->Shared->Prop}{s:Shared}
theorem qMy{v:Value}{Q:Bool->Shared->Prop}(h:Q true s):wpAny (model P w) A (eqBool v v) Q E s:=by
 unfold eqBool;try with_reducible refine hEy ?_
 show wpAny _ _ (if (v == v)=true then _ else _) Q E s;rw[hEs (hFf _)];exact hEp (hFz (hEq h))
theorem qOm{c:Bool}{Q:Bool->Shared->Prop}(h:Q false s):∀(vs:List Value) (i:Nat),KatLex P w A c false Q (vs.zip vs) i s
 |[],_=>kat_nil h
 |_ :: vs,i=>kat_cons (qMy (kat_go (λ_=>kat_yes (qOm h vs (i+1))) λe=>nomatch e))
noncomputable def ltP(e u:Nat×Nat):Bool:=decide (e.1<u.1\/(e.1=u.1/\e.2<u.2))
theorem qRs(es:List (Nat×Nat)):Ordr (λi j=>ltP (es.getD i (0,0)) (es.getD j (0,0))):=⟨λa b h=>by
 unfold ltP at *;simp only[decide_eq_true_eq,decide_eq_false_iff_not]at *;omega,λa b c h h'=>by
 unfold ltP at *;simp only[decide_eq_false_iff_not]at *;omega⟩
theorem zCy{a1 a2 b1 b2:Nat}{t1 t2 u1 u2:Tok}{Q:Bool->Shared->Prop}(h:Q (ltP (a1,a2) (b1,b2)) s) :
  KatLex P w A true false Q [(Value.int (a1:Nat) t1,Value.int (b1:Nat) u1),(Value.int (a2:Nat) t2,Value.int (b2:Nat) u2)] 0 s:=by
 refine kat_cons (wpAny_eqBool_int (kat_go (λe=>kat_yes (kat_cons (wpAny_eqBool_int (kat_go (λe2=>kat_yes (kat_nil ?_)) λe2=>kat_no ?_)))) λe=>kat_no ?_))
 ·have e:=eq_of_beq e;have e2:=eq_of_beq e2;have:ltP (a1,a2) (b1,b2)=false:=hEu (by simp only;omega)
  rwa [this]at h
 ·have e:=eq_of_beq e;have:ltP (a1,a2) (b1,b2)=decide ((a2:Int)<b2):=by
   unfold ltP;refine decide_eq_decide.mpr ?_;simp only;omega
  rw[this]at h;exact kat_one _ _ (lt_int h)
 ·have ne:(a1:Int)≠b1:=λz=>by rw[z]at e;simp at e
  have:ltP (a1,a2) (b1,b2)=decide ((a1:Int)<b1):=by
   unfold ltP;refine decide_eq_decide.mpr ?_;simp only;omega
  rw[this]at h;exact oneLt_int h
theorem zCz{x y:Str}{t u:Tok}{xs ys:List Value}{fin:Bool}{Q:Bool->Shared->Prop}(he:x=y->xs=ys/\fin=false)(h:Q (qHn x y) s) :
  KatLex P w A true fin Q ((Value.str x t,Value.str y u) :: xs.zip ys) 0 s:=by
 refine kat_cons (wpAny_eqBool_str (kat_go (λe=>kat_yes ?_) λe=>kat_no (oneLt_str h)));have e:=hEz e;obtain⟨rfl,rfl⟩:=he e;subst e;rw[qCm]at h;exact qOm h _ _
end
section
variable{X:Cx}{aB:List (Addr×Obj)}{σ:St}{H:Hp}{s:Shared}
theorem qHy(I:Inv X aB σ H s){u:Value}{as:List Addr}{lt:Nat->Nat->Bool}{T:Value}{Q:VK}(od:Ordr lt)(hT1:(T == T)=true)(hT2:(T != Value.type "tuple")=true)(h64:as.length<64)
  (hcol:∀(A:Around) (E:Value->Shared->Prop) (Q':List Value->Shared->Prop),A.handled=X.A.handled->(∀(h':Heap) (tk:Nat),(∀b o,s.heap.get? b=some o->h'.get? b=some o)->Q' (as.map Value.ref) { s with heap:=h',toks:=tk })->wpAny (model X.prog X.w) A (collect u) Q' E s)
  (hk:∀h':Heap,(∀b o,s.heap.get? b=some o->h'.get? b=some o)->∃fs:List Value,KatTups h' (as.map Value.ref) fs/\fs.length=as.length/\∀v∈fs,Looks (model X.prog X.w) h' (typeOf v) T)
  (hc:∀(A:Around) (s':Shared),(∀b o,s.heap.get? b=some o->s'.heap.get? b=some o)->∀(i j:Nat) (C:Bool->Shared->Prop),i<as.length->j<as.length->C (lt i j) s'->wpAny (model X.prog X.w) A (keyLt' (tuples' true) ((as.map Value.ref).getD i Value.none) ((as.map Value.ref).getD j Value.none)) C (λ_ _=>False) s')
  (q:∀(r:Addr) (o:Array Nat),H r=none->Gd as.length o->SPk lt o as.length->Q (.ref r) (upd H r (.lst ((o.toList.map λi=>as.getD i 0).map V.ref)))) :
  wpAny (model X.prog X.w) X.A (call (.builtin "sorted") [u]) (EP X aB σ Q) X.xe s:=by
 refine Calls.call_function_entry kind_sorted plain_sorted entry_sorted (args_sorted1 _) ?_;unfold Builtin.«sorted»;refine hEp (m:=checkCount "sorted" 1 1 _) (hEq (hEp (hcol _ _ _ rfl λh' tk kp=>?_)));have I1:Inv X aB σ H { s with heap:=h',toks:=tk }:=I.kept (t':=tk) kp;have lz:(as.map Value.ref).length<=sizeLine:=by rw[hA4,hFi];omega
 refine hEp (hG1 ?_ lz);have gL:(h'.push (seqObj "list" (as.map Value.ref).toArray 0)).get? h'.objs.size=some (seqObj "list" (as.map Value.ref).toArray 0):=Heap.get?_push_size _ rfl;have k2:∀b o,h'.get? b=some o->(h'.push (seqObj "list" (as.map Value.ref).toArray 0)).get? b=some o:=λb o e=>Heap.get?_push_of_some _ e
 have k3:∀h2:Heap,(∀b o,b≠h'.objs.size->(h'.push (seqObj "list" (as.map Value.ref).toArray 0)).get? b=some o->h2.get? b=some o)->∀b o,s.heap.get? b=some o->h2.get? b=some o:=λh2 k b o e=>k b o (hAt (Heap.lt_size (kp b o e))) (k2 b o (kp b o e))
 have ll:(as.map Value.ref).length=as.length:=hA4 _;refine hEp (hEy (hEx slot_list_sort ⟨_,gL,rfl⟩ entry_list_sort (qO7 (lt:=lt) (T:=T) od hT1 hT2 gL (by rw[ll];exact h64) (λh2 k=>by rw[ll];exact hk h2 (k3 h2 k)) (λh2 k i j C hi hj hC=>hc _ _ (k3 h2 k) i j C (by rw[ll]at hi;exact hi) (by rw[ll]at hj;exact hj) hC) λout p hp hg hsp eo=>⟨_,rfl,?_⟩) (args_list_sort _)));rw[ll]at hg hsp;rw[qRc λi hi=>zAf hg hi]at eo;subst eo;obtain⟨e,he⟩:=sortedHeap_at (out:=((p.toList.map λi=>as.getD i 0).map Value.ref).toArray) gL;refine hEq ⟨_,rfl,.ref h'.objs.size,_,I1.laid (t':=tk) (a:=h'.objs.size) (o:=.lst ((p.toList.map λi=>as.getD i 0).map V.ref)) (h':=sortedHeap (h'.push (seqObj "list" (as.map Value.ref).toArray 0)) h'.objs.size (as.map Value.ref) ((p.toList.map λi=>as.getD i 0).map Value.ref).toArray) (λb o eb=>?_) (hAj _) ⟨?_,(p.toList.map λi=>as.getD i 0).map Value.ref,e,qGn _,he⟩,rfl,q _ p (I1.hok.fresh (hAj _)) hg hsp⟩
 ·have lt:=Heap.lt_size eb;rw[sortedHeap_old (hAt lt) (by rw[hG5];exact hB5 lt)];exact k2 b o eb
 ·rw[hA4,hA4,qV2 hg];exact hBz (qAd (by omega))
def PrI(H:Hp)(b:Addr)(e:Nat×Nat):Prop:=H b=some (.tup [.int (e.1:Nat),.int (e.2:Nat)])
theorem PrI.at(I:Inv X aB σ H s){b:Addr}{e:Nat×Nat}(h:PrI H b e):∃(o:Obj) (n:Nat) (t u:Tok),s.heap.get? b=some o/\o.cls = .type "tuple"/\o.data = .seq #[Value.int (e.1:Nat) t,Value.int (e.2:Nat) u] n:=by
 obtain⟨its,rv,⟨o,g,c,n,d⟩,_⟩:=I.tuple (SqT.of h);obtain⟨u1,u2,rfl,r1,r2⟩:=qLz rv;obtain⟨t,rfl⟩:=r1;obtain⟨u,rfl⟩:=r2;exact⟨o,n,t,u,g,c,d⟩
theorem qFn(I:Inv X aB σ H s){h':Heap}(k:∀b o,s.heap.get? b=some o->h'.get? b=some o):∀ {as:List Addr} {es:List (Nat×Nat)},Paired (PrI H) as es->∃fs:List Value,KatTups h' (as.map Value.ref) fs/\fs.length=as.length/\∀v∈fs,∃i t,v=Value.int i t
 |_,_,.nil=>⟨[],trivial,rfl,λv hv=>by cases hv⟩
 |_,_,.cons h t=>by
  obtain⟨fs,q1,q2,q3⟩:=qFn I k t;obtain⟨o,n,t,u,g,c,d⟩:=h.at I;refine⟨_ :: fs,.cons (k _ _ g) c d rfl q1,by simp[q2],λv hv=>?_⟩;rcases hAg.mp hv with z|z
  ·exact⟨_,_,z⟩
  ·exact q3 v z
theorem qN6{H:Hp}:∀ {as:List Addr} {es:List (Nat×Nat)} {i:Nat},Paired (PrI H) as es->i<as.length->PrI H (as.getD i 0) (es.getD i (0,0))
 |_,_,_,.nil,hi=>absurd hi (hD6 _)
 |_,_,0,.cons h _,_=>h
 |_,_,i+1,.cons _ t,hi=>qN6 (i:=i) t (by simpa using hi)
theorem qEv{as:List Addr}{i:Nat}(h:i<as.length):(as.map Value.ref).getD i Value.none = .ref (as.getD i 0):=by
 rw[hAa,hAa,hAc,hA8 h];rfl
theorem qQw(I:Inv X aB σ H s){as:List Addr}{es:List (Nat×Nat)}(pr:Paired (PrI H) as es)(A:Around)(s':Shared)(k:∀b o,s.heap.get? b=some o->s'.heap.get? b=some o)(i j:Nat)(C:Bool->Shared->Prop)(hi:i<as.length)(hj:j<as.length)
  (hC:C (ltP (es.getD i (0,0)) (es.getD j (0,0))) s'):wpAny (model X.prog X.w) A (keyLt' (tuples' true) ((as.map Value.ref).getD i Value.none) ((as.map Value.ref).getD j Value.none)) C (λ_ _=>False) s':=by
 rw[qEv hi,qEv hj];obtain⟨o1,n1,t1,u1,g1,c1,d1⟩:=(qN6 pr hi).at I;obtain⟨o2,n2,t2,u2,g2,c2,d2⟩:=(qN6 pr hj).at I;exact kat_lt (k _ _ g1) d1 (k _ _ g2) d2 (zCy hC)
end
section
variable{X:Cx}{aB:List (Addr×Obj)}{σ:St}{H:Hp}{s:Shared}
theorem qI0{n:Nat}{o:Array Nat}(g:Gd n o):o.toList.Perm (List.range n):=hD9.mp g
theorem qVq{lt:Nat->Nat->Bool}{n:Nat}{o:Array Nat}(h:SPk lt o n):∀i j,i<j->j<n->lt (o.toList.getD j 0) (o.toList.getD i 0)=false:=λi j hij hj=>by
 have:=h i j hij hj;have gd:∀k,o.getD k 0=o.toList.getD k 0:=λk=>by rw[hB9,hAa,hB0]
 rw[gd,gd]at this;exact this
def TxI(H:Hp)(b:Addr)(k:Str):Prop:=∃xs:List V,H b=some (.tup (.str k :: xs))
theorem TxI.at(I:Inv X aB σ H s){b:Addr}{k:Str}(h:TxI H b k):∃(o:Obj) (n:Nat) (t:Tok) (us:List Value),s.heap.get? b=some o/\o.cls = .type "tuple"/\o.data = .seq (Value.str k t :: us).toArray n:=by
 obtain⟨xs,h⟩:=h;obtain⟨its,rv,⟨o,g,c,n,d⟩,_⟩:=I.tuple (SqT.of h);cases rv with
 |cons r1 r2 =>
  obtain⟨t,rfl⟩:=r1;exact⟨o,n,t,_,g,c,d⟩
theorem qHt(I:Inv X aB σ H s){h':Heap}(k:∀b o,s.heap.get? b=some o->h'.get? b=some o):∀ {as:List Addr} {ks:List Str},Paired (TxI H) as ks->∃fs:List Value,KatTups h' (as.map Value.ref) fs/\fs.length=as.length/\∀v∈fs,∃i t,v=Value.str i t
 |_,_,.nil=>⟨[],trivial,rfl,λv hv=>by cases hv⟩
 |_,_,.cons h t=>by
  obtain⟨fs,q1,q2,q3⟩:=qHt I k t;obtain⟨o,n,t,us,g,c,d⟩:=h.at I;refine⟨_ :: fs,.cons (k _ _ g) c d rfl q1,by simp[q2],λv hv=>?_⟩;rcases hAg.mp hv with z|z
  ·exact⟨_,_,z⟩
  ·exact q3 v z
theorem qPw{H:Hp}:∀ {as:List Addr} {ks:List Str} {i:Nat},Paired (TxI H) as ks->i<as.length->TxI H (as.getD i 0) (ks.getD i "")
 |_,_,_,.nil,hi=>absurd hi (hD6 _)
 |_,_,0,.cons h _,_=>h
 |_,_,i+1,.cons _ t,hi=>qPw (i:=i) t (by simpa using hi)
theorem qXr(ks:List Str):Ordr (λi j=>qHn (ks.getD i "") (ks.getD j "")):=by
 refine⟨λa b h=>?_,λa b c h h'=>?_⟩
 ·cases q:qHn (ks.getD b "") (ks.getD a "") with
  |false=>rfl
  |true=>have:=qCb h q;rw[qCm]at this;cases this
 ·cases q:qHn (ks.getD c "") (ks.getD a "") with
  |false=>rfl
  |true =>
   rcases qD6 (ks.getD a "") (ks.getD b "") with z|z|z
   ·have:=qCb q z;rw[h']at this;cases this
   ·rw[z,h']at q;cases q
   ·rw[h]at z;cases z
theorem qFd:qCa X (.builtin "sorted") (λxs H Q=>∃(p:Addr) (as:List Addr) (ks:List Str),xs=[.ref p]/\SqL X.K H p (as.map V.ref)/\Paired (TxI H) as ks/\ks.Nodup/\as.length<64 /\
  ∀(r:Addr) (o:List Nat),H r=none->o.Perm (List.range as.length)->(∀i j,i<j->j<as.length->qHn (ks.getD (o.getD j 0) "") (ks.getD (o.getD i 0) "")=false)->Q (.ref r) (upd H r (.lst ((o.map λi=>as.getD i 0).map V.ref)))):=by
 intro aB s σ H xs us Q I r h;obtain⟨p,as,ks,rfl,hq,pr,nd,h64,q⟩:=h;obtain⟨u,rfl,rx⟩:=qC8 r;cases rx;obtain⟨its,rv,pl,hz⟩:=I.list hq;have ei:=qMa rv;subst ei;have lk:ks.length=as.length:=pr.length.symm;refine qHy I (lt:=λi j=>qHn (ks.getD i "") (ks.getD j "")) (T:=.type "str") (qXr ks) (by decide) (by decide) h64 (λA E Q' _ hQ=>?_) (λh' k=>?_) (λA s' k i j C hi hj hC=>?_) λr o hr g sp=>q r o.toList hr (qI0 g) (qVq sp)
 ·refine collect_list pl.isList ?_ (by rw[hA4,hFi];omega);exact hQ _ s.toks λb o e=>by
   have hlt:b<s.heap.objs.size:=Heap.lt_size e;rw[Heap.get?_update_ne _ _ _ _ (hAt hlt),Heap.get?_push_ne _ _ _ (hAt hlt)];exact e
 ·obtain⟨fs,h1,h2,h3⟩:=qHt I k pr;exact⟨fs,h1,h2,λv hv=>by obtain⟨i,t,rfl⟩:=h3 v hv;exact .now⟩
 ·rw[qEv hi,qEv hj];obtain⟨o1,n1,t1,x1,g1,c1,d1⟩:=(qPw pr hi).at I;obtain⟨o2,n2,t2,x2,g2,c2,d2⟩:=(qPw pr hj).at I;refine kat_lt (k _ _ g1) d1 (k _ _ g2) d2 (zCz (λe=>?_) hC);have hi':i<ks.length:=by rw[lk];exact hi
  have hj':j<ks.length:=by rw[lk];exact hj
  rw[hAa,hAa,hA8 hi',hA8 hj']at e;have ij:i=j:=qGe nd (hA8 hi') (by rw[hA8 hj'];exact congrArg some e.symm);subst ij;rw[g1]at g2;cases g2;rw[d1]at d2;cases d2;exact⟨rfl,hEu (hBu _)⟩
end
section
variable{prog:Program}{w:World}{A:Around}{d I:Addr}{od:Obj}{es:Array DictEntry}{ep n:Nat}
theorem qYm(hh:A.handled=none)(hne:d≠I)(gd:od.data = .dict es ep)(hz:es.size=n):Walks prog w A I [I,d] [I] n (λi v=>∃h:i<es.size,v=es[i].key) (λi h=>h.IsKeyIter I d i n ep/\h.get? d=some od) where
 sub:=λb hb=>by simp at hb;simp[hb]
 frame:=λ_ _ _ st hk=>⟨st.1.at λo e=>hk I (by simp) o e,hk d (by simp) _ st.2⟩
 item:=λi s Q E hi st hQ=>by
  refine qZv st.1 st.2 gd hz hi λh' hit' hs'=>?_
  exact hQ _ h' s.toks ⟨hz▸hi,rfl⟩ ⟨hit',hs'.extBut d od hne st.2⟩ λb o hb e=>hs'.extBut b o (λh=>hb (by simp[h])) e
 done:=λs Q E st hQ=>zCd hh st.1 st.2 gd hz (hAj _) λh' he'=>hQ h' s.toks λb o hb e=>he' b o (λh=>hb (by simp[h])) e
 self:=λ_ _ _ _ st hQ=>wpAny_pyIter_keyiter st.1 hQ
theorem zCx(lo:(d == sysModules)=false)(x:od.ExactDict)(gd:od.data = .dict es ep)(hz:es.size=n):PySem.W.KdlSrc prog w "dict" d d n (λi v=>∃h:i<es.size,v=es[i].key) (λh=>h.get? d=some od) where
 type:=λs g=>⟨od,g,x.1⟩
 there:=λh g=>⟨Heap.lt_size g,Heap.lt_size g⟩
 keep:=λh h' g k=>k d (.inl rfl) _ g
 notList:=by decide
 notTuple:=by decide
 hint:=λA E s Q g q=>PySem.W.kdl_hint_dict ⟨od,g,x.1⟩ q
 iter:=λA s hh g=>⟨_,_,(λE Q hq=>qZ6 lo g x gd hz hq),qYm hh (hAt (Heap.lt_size g)) gd hz,⟨⟨_,Heap.get?_push_size _ rfl,rfl,rfl⟩,Heap.get?_push_of_some _ g⟩⟩
end
section
variable{X:Cx}{aB:List (Addr×Obj)}{σ:St}{H:Hp}{s:Shared}
noncomputable def kP(e:Nat×Nat):List Key:=[Sum.inl (e.1:Nat),Sum.inl (e.2:Nat)]
theorem qVz{H:Hp}:∀ {kvs:List (List Key×V)} {xs:List (List Key×Addr×Value)} {es:List (Nat×Nat)},KT H kvs xs->kvs.map (·.1)=es.map kP->Paired (PrI H) (xs.map (·.2.1)) es
 |_,_,[],.nil,_=>.nil
 |_,_,_ :: _,.nil,h=>by cases h
 |_,_,[],.cons _ _,h=>by cases h
 |_,_,e :: es,.cons h t,q=>by
  rw[hAn,hAn,hB4]at q;refine .cons ?_ (qVz t q.2);have:=h.2.1;rw[q.1]at this;exact this
theorem qJq(hc:X.calm=true):qCa X (.builtin "sorted") (λxs H Q=>∃(d:Addr) (kvs:List (List Key×V)) (es:List (Nat×Nat)),xs=[.ref d]/\Rd H d (.dT kvs)/\kvs.map (·.1)=es.map kP/\es.length<64 /\
  ∀(r:Addr) (as:List Addr) (es':List (Nat×Nat)),H r=none->es'.Perm es->Paired (PrI H) as es'->Q (.ref r) (upd H r (.lst (as.map V.ref)))):=by
 intro aB s σ H xs us Q I r h;obtain⟨d,kvs,es,rfl,rd,ek,h64,q⟩:=h;obtain⟨u,rfl,rx⟩:=qC8 r;cases rx;obtain⟨hz,hsm,xs,kt,o,ds,ep,ho,hx,hd,en,nd⟩:=qK4 I.hok rd;have pr:=qVz kt ek;have l1:xs.length=es.length:=by have:=pr.length;rwa [hA4]at this
 have sz:ds.size=es.length:=by rw[<-l1,<-hBb,en,hA4]
 have lA:(xs.map (·.2.1)).length=es.length:=by rw[hA4,l1]
 refine qHy I (as:=xs.map (·.2.1)) (lt:=λi j=>ltP (es.getD i (0,0)) (es.getD j (0,0))) (T:=.type "int") (qRs es) (by decide) (by decide) (by rw[lA];exact h64) (λA E Q' hA hQ=>?_) (λh' k=>?_) (λA s' k i j C hi hj hC=>qQw I pr A s' k i j C hi hj hC) λr o hr g sp=>?_
 ·refine qM6 (zCx hsm hx hd sz) (hA.trans (I.ok.hd hc)) ho (by rw[hFi];omega) λh' tk acc kp it=>?_
  have:acc.toList=(xs.map (·.2.1)).map Value.ref:=by
   refine hDk λi=>?_
   by_cases hi:i<es.length
   ·have hi':i<acc.size:=by rw[it.1];exact hi
    obtain⟨hds,e⟩:=it.2 i _ (hAv hi');rw[hB0,hAv hi',e];have h2:ds.toList[i]?=some ds[i]:=by rw[hB0,hAv hds]
    rw[en,hAc]at h2;rw[hBi,hAc];cases hxi:xs[i]? with
    |none=>rw[hxi]at h2;cases h2
    |some x =>
     rw[hxi]at h2;have:=hAh h2;rw[<-this];rfl
   ·rw[hB0,hCg (by rw[it.1];omega),hC2 (by rw[hA4,lA];omega)]
  rw[this];exact hQ h' tk kp
 ·obtain⟨fs,h1,h2,h3⟩:=qFn I k pr;exact⟨fs,h1,h2,λv hv=>by obtain⟨i,t,rfl⟩:=h3 v hv;exact .now⟩
 ·have pm:=qI0 g;rw[lA]at pm;have pe:(o.toList.map λi=>es.getD i (0,0)).Perm es:=by
   refine(pm.map _).trans (List.Perm.of_eq ?_);refine List.ext_getElem (by simp) λi h1 h2=>?_
   rw[hEa,List.getElem_range,hAa,hA8 h2];rfl
  refine q r _ _ hr pe ?_;have go:∀l:List Nat,(∀i∈l,i<(xs.map (·.2.1)).length)->Paired (PrI H) (l.map λi=>(xs.map (·.2.1)).getD i 0) (l.map λi=>es.getD i (0,0)):=by
   intro l
   induction l with
   |nil=>intro _;exact .nil
   |cons i l ih=>intro h;exact .cons (qN6 pr (h i hAb)) (ih λj hj=>h j (hAe _ hj))
  exact go _ λi hi=>by rw[lA];exact hAw.mp (pm.mem_iff.mp hi)
end
theorem qTd{p:List Nat}(h:p.Perm (List.range 2)):p=[0,1]\/p=[1,0]:=by
 have l:=h.length_eq
 match p,l with
 |[a,b],_ =>
  have m0:(0:Nat)∈[a,b]:=h.mem_iff.mpr (by decide);have m1:(1:Nat)∈[a,b]:=h.mem_iff.mpr (by decide);simp only[hAg,hC6,hFv]at m0 m1;rcases m0 with z|z
  ·rcases m1 with y|y
   ·omega
   ·exact .inl (by rw[<-z,<-y])
  ·rcases m1 with y|y
   ·exact .inr (by rw[<-z,<-y])
   ·omega
def qP0(K:PySem.W.Frag)(t:TA):TE:=λσ H Q=>t σ H λvs H1=>∃(p b1 b2:Addr) (e1 e2:Nat×Nat),vs=[.ref p]/\SqL K H1 p [.ref b1,.ref b2]/\PrI H1 b1 e1/\PrI H1 b2 e2 /\
 ∀(r c1 c2:Addr) (u1 u2:Nat×Nat),H1 r=none->((c1=b1/\c2=b2/\u1=e1/\u2=e2)\/(c1=b2/\c2=b1/\u1=e2/\u2=e1))->ltP u1 u2=false->Q (.ref r) (upd H1 r (.lst [.ref c1,.ref c2]))
section
variable{X:Cx}{e:Expr}{t:TA}{p pos cp kp:Pos}{j:Nat}
theorem qMb(hg:Gl X "sorted")(hm:X.mg "sorted"=none)(ha:PA X [e] t)
  (he:backTo pos (starEach [e] X.env)=(false,eval e X.env) :: backTo pos (starEach [] X.env):=by rfl)
  (hplain:(backTo pos (starEach [e] X.env)).any (·.1)=false:=by rfl):PE X (.Call (.Name "sorted" p) [e] [⟨some "reverse",.Constant (.bool true) j cp,kp⟩] pos) (qP0 X.K t):=by
 intro aB s σ H Q I h;refine hG2 (qG1 I hg hm (by decide +kernel:bootBuiltins "sorted"=some (.builtin "sorted")) ?_ (by decide) (by decide));refine PyProof.Rows.callWith_kw (thn (ha pos aB s σ H _ I h) λus s1 ⟨vs,H1,I1,r1,q1⟩=>?_) he hplain;obtain⟨a,b1,b2,e1,e2,rfl,hq,p1,p2,q⟩:=q1;obtain⟨u,rfl,rx⟩:=qC8 r1;cases rx;refine PyProof.Rows.kws_cons (Constant_bool (PyProof.Rows.kws_nil ?_));obtain⟨its,rv,pl,hz⟩:=I1.list hq;have ei:=qMa (as:=[b1,b2]) rv;subst ei;have pr:Paired (PrI H1) [b1,b2] [e1,e2]:=.cons p1 (.cons p2 .nil);have pr':Paired (PrI H1) [b2,b1] [e2,e1]:=.cons p2 (.cons p1 .nil);refine call_function_entry_kw kind_sorted plain_sorted entry_sorted (args_sorted_rev _ _) ?_;unfold Builtin.«sorted»;refine hEp (m:=checkCount "sorted" 1 1 _) (hEq (hEp (collect_list pl.isList (hEp (hG1 ?_)))));have hsz:((s1.heap.push (seqObj "list" #[] 0)).update s1.heap.objs.size (Obj.mapSeq (·++([b1,b2].map Value.ref).toArray))).objs.size=s1.heap.objs.size+1:=by rw[Heap.size_update,hG5]
 have hoL:(((s1.heap.push (seqObj "list" #[] 0)).update s1.heap.objs.size (Obj.mapSeq (·++([b1,b2].map Value.ref).toArray))).push (seqObj "list" ([b1,b2].map Value.ref).toArray 0)).get? (s1.heap.objs.size+1)=some (seqObj "list" ([b1,b2].map Value.ref).toArray 0):=by
  rw[<-hsz];exact Heap.get?_push_size _ rfl
 have keep:∀b o,s1.heap.get? b=some o->(((s1.heap.push (seqObj "list" #[] 0)).update s1.heap.objs.size (Obj.mapSeq (·++([b1,b2].map Value.ref).toArray))).push (seqObj "list" ([b1,b2].map Value.ref).toArray 0)).get? b=some o:=λb o e=>by
  have hlt:b<s1.heap.objs.size:=Heap.lt_size e;rw[Heap.get?_push_ne _ _ _ (by rw[hsz];exact hAt (hB5 hlt)),Heap.get?_update_ne _ _ _ _ (hAt hlt),Heap.get?_push_ne _ _ _ (hAt hlt)];exact e
 show wpAny _ _ _ _ _ { s1 with heap:=((s1.heap.push (seqObj "list" #[] 0)).update s1.heap.objs.size (Obj.mapSeq (·++([b1,b2].map Value.ref).toArray))).push (seqObj "list" ([b1,b2].map Value.ref).toArray 0) };rw[hsz];have k3:∀h2:Heap,(∀b o,b≠s1.heap.objs.size+1->(((s1.heap.push (seqObj "list" #[] 0)).update s1.heap.objs.size (Obj.mapSeq (·++([b1,b2].map Value.ref).toArray))).push (seqObj "list" ([b1,b2].map Value.ref).toArray 0)).get? b=some o->h2.get? b=some o)->∀b o,s1.heap.get? b=some o->h2.get? b=some o:=λh2 k b o e=>k b o (hAt (hB5 (Heap.lt_size e))) (keep b o e)
 refine hEp (hEy (wpAny_call_entry_kw slot_list_sort ⟨_,hoL,rfl⟩ entry_list_sort (qO6 (lt:=λi j=>ltP ([e2,e1].getD i (0,0)) ([e2,e1].getD j (0,0))) (T:=.type "int") (qRs _) (by decide) (by decide) hoL (by show 2<=2;decide) (by show 2<64;decide) (λh2 k=>?_) (λh2 k i j C hi hj hC=>qQw I1 pr' _ _ (k3 h2 k) i j C hi hj hC) λout o hg hsp eo=>⟨_,rfl,?_⟩) (args_list_sort_rev _ _)))
 ·obtain⟨fs,h1,h2',h3⟩:=qFn I1 (k3 h2 k) pr;exact⟨fs,h1,h2',λv hv=>by obtain⟨i,t,rfl⟩:=h3 v hv;exact .now⟩
 ·have nz:H1 (s1.heap.objs.size+1)=none:=I1.hok.fresh (hBl _);have key:∃c1 c2:Addr,out.reverse=[c1,c2].map Value.ref/\Q (.ref (s1.heap.objs.size+1)) (upd H1 (s1.heap.objs.size+1) (.lst [.ref c1,.ref c2])):=by
   have sp:=qVq hsp 0 1 (by decide) (by show 1<2;decide);rcases qTd (qI0 hg) with z|z
   ·rw[z]at eo sp;exact⟨b1,b2,by rw[eo];rfl,q _ b1 b2 e1 e2 nz (.inl ⟨rfl,rfl,rfl,rfl⟩) sp⟩
   ·rw[z]at eo sp;exact⟨b2,b1,by rw[eo];rfl,q _ b2 b1 e2 e1 nz (.inr ⟨rfl,rfl,rfl,rfl⟩) sp⟩
  obtain⟨c1,c2,eo',qq⟩:=key;rw[eo'];obtain⟨e,he⟩:=sortedAll_at s1.heap ([b1,b2].map Value.ref) ([c1,c2].map Value.ref).toArray;refine hEq ⟨_,rfl,.ref (s1.heap.objs.size+1),_,I1.laid (t':=s1.toks) (a:=s1.heap.objs.size+1) (o:=.lst [.ref c1,.ref c2]) (h':=sortedAll s1.heap ([b1,b2].map Value.ref) ([c1,c2].map Value.ref).toArray) (λb o eb=>sortedAll_old eb) (hBl _) ⟨(by show 2<=sizeLine;decide),[c1,c2].map Value.ref,e,qGn [c1,c2],he⟩,rfl,qq⟩
end
section
variable{P:Program}{w:World}{A:Around}{E:Value->Shared->Prop}{s:Shared}{it d:Addr}{i n ep:Nat}{od:Obj}{es:Array DictEntry}{ok ov:Value}
theorem zBg{Q:Option Value->Shared->Prop}(hit:IsItemIter s.heap it d i n ep ok ov)(g0:s.heap.get? d=some od)(gd:od.data = .dict es ep)(hz:es.size=n)(hi:i<n)
  (q:∀h',IsItemIterOut h' it d (i+1) n ep (es[i]'(hz▸hi)).key (es[i]'(hz▸hi)).val s.heap.objs.size->h'.get? s.heap.objs.size=some { cls:=.type "tuple",data:=.seq #[(es[i]'(hz▸hi)).key,(es[i]'(hz▸hi)).val] }->(∀b o,b≠it->s.heap.get? b=some o->h'.get? b=some o)->Q (some (.ref s.heap.objs.size)) { s with heap:=h' }):wpAny (model P w) A (pyNext (.ref it)) Q E s:=by
 obtain⟨hp,g,dr,tk,os⟩:=s;have T:Shared.TypeIs ⟨hp,g,dr,tk,os⟩ (.ref it) "dict_itemiterator":=⟨_,hit,rfl⟩;unfold pyNext;refine hEp (hFr (wpAny_callSpecial?_slot (name:=Str.ofString "__next__") T F.slot_dict_itemiterator_next (hEx F.slot_dict_itemiterator_next T F.entry_dict_itemiterator_next ?_ (F.args_dict_itemiterator_next_1 _))));refine hEp (hEq (hEp (hEp (hEp (hFa T (hEq (hEp (hFj hit rfl ?_))))))));simp only[show Builtin.Dict_items.ownsTuple "dict_itemiterator"=true by decide,hG3];show wpAny _ _ (ite ((Value.ref d == Value.none)=true) _ _) _ _ _;rw[hEr (by exact hAo)];refine hEp (hEq (hEp (hFo g0 gd ?_)));rw[hEr (by subst hz;simp)];refine hEp (hEq (hEp (hFx g0 gd ?_)));rw[hEr (by simp)];refine hEq ?_;have lt:i<es.size:=hz▸hi;have n0:¬((i:Int)<0):=by omega
 simp only[n0,hFg,hB8,hAv lt];refine hEp (hEp (hFa T (hEq (hEp (wpAny_isOneOf_itemiter T ?_)))));show wpAny _ _ (setField (.ref it) 3 (rawInt ((i:Int)+1)) >>= _) _ _ ⟨hp,g,dr,tk,os⟩;refine hEp (hF4 hit (by simp) λh1 e1 s1=>?_)
 replace s1:Heap.SameBut it hp h1:=s1
 replace e1:IsItemIter h1 it d (i+1) n ep ok ov:=by
  unfold IsItemIter;rw[show((i+1:Nat):Int)=(i:Int)+1 by omega]
  simpa [rawInt] using e1
 have T1:Shared.TypeIs ⟨h1,g,dr,tk,os⟩ (.ref it) "dict_itemiterator":=⟨_,e1,rfl⟩;refine hEp (hEy (hEp (wpAny_isOneOf_itemiter T1 (hEp (wpAny_isOneOf_itemiter T1 ?_)))));generalize hx:(es[i]'lt).key=kx at q ⊢;generalize hv:(es[i]'lt).val=vx at q ⊢;show wpAny _ _ (Builtin.Dict_items.pairFromOwner (.ref it) 6 kx vx) _ _ ⟨h1,g,dr,tk,os⟩;unfold Builtin.Dict_items.pairFromOwner;refine hEp (hG8 ?_);have e2:IsItemIter (h1.push { cls:=.type "tuple",data:=.seq #[kx,vx] }) it d (i+1) n ep ok ov:=Heap.get?_push_of_some _ e1;generalize hh2:h1.push { cls:=.type "tuple",data:=.seq #[kx,vx] }=h2 at e2;have z1:h1.objs.size=hp.objs.size:=s1.1;have il:it<hp.objs.size:=Heap.lt_size hit;have ng:=hCn il;have t2:h2.get? hp.objs.size=some { cls:=.type "tuple",data:=.seq #[kx,vx] }:=by rw[<-hh2,<-z1];exact Heap.get?_push_size _ rfl
 have k2:∀b o,b≠it->hp.get? b=some o->h2.get? b=some o:=λb o hb e=>by rw[<-hh2];exact Heap.get?_push_of_some _ (s1.extBut b o hb e)
 show wpAny _ _ (Builtin.Dict_items.ownedTupleIsFree (.ref it) >>= _) _ _ ⟨h2,g,dr,tk,os⟩;rw[z1];refine hEp ?_;unfold Builtin.Dict_items.ownedTupleIsFree;refine hEp (wpAny_field e2 rfl (x:=.none) rfl (hEq ?_));simp only[hG3];refine hEp (wpAny_field e2 rfl (x:=ok) rfl (hEp (wpAny_field e2 rfl (x:=ov) rfl (hEp (hF4 e2 (by simp) λh3 e3 s3=>?_)))))
 replace s3:Heap.SameBut it h2 h3:=s3
 replace e3:IsItemIter h3 it d (i+1) n ep kx ov:=e3
 refine hEp (hF4 e3 (by simp) λh4 e4 s4=>?_)
 replace s4:Heap.SameBut it h3 h4:=s4
 replace e4:IsItemIter h4 it d (i+1) n ep kx vx:=e4
 refine hEp (hF4 e4 (by simp) λh5 e5 s5=>?_)
 replace s5:Heap.SameBut it h4 h5:=s5
 replace e5:IsItemIterOut h5 it d (i+1) n ep kx vx hp.objs.size:=e5
 refine hEp (hF4 e5 (by simp) λh6 e6 s6=>?_)
 replace s6:Heap.SameBut it h5 h6:=s6
 have all:∀b o,b≠it->h2.get? b=some o->h6.get? b=some o:=λb o nb e=>s6.extBut b o nb (s5.extBut b o nb (s4.extBut b o nb (s3.extBut b o nb e)))
 exact hEp (wpAny_letGo (hEq (hEq ⟨_,rfl,hEq (q h6 e6 (all _ _ ng t2) λb o nb e=>all b o nb (k2 b o nb e))⟩)))
theorem zC5{Q:Option Value->Shared->Prop}(hh:A.handled=none)(hit:IsItemIter s.heap it d i n ep ok ov)(g0:s.heap.get? d=some od)(gd:od.data = .dict es ep)(hz:es.size=n)(hi:n<=i)
  (q:∀h',Heap.ExtBut it s.heap h'->Q none { s with heap:=h' }):wpAny (model P w) A (pyNext (.ref it)) Q E s:=by
 have T:s.TypeIs (.ref it) "dict_itemiterator":=⟨_,hit,rfl⟩;unfold pyNext;refine hEp (hFr (wpAny_callSpecial?_slot (name:=Str.ofString "__next__") T F.slot_dict_itemiterator_next (hEx F.slot_dict_itemiterator_next T F.entry_dict_itemiterator_next ?_ (F.args_dict_itemiterator_next_1 _))));refine hEp (hEq (hEp (hEp (hEp (hFa T (hEq (hEp (hFj hit rfl ?_))))))));simp only[show Builtin.Dict_items.ownsTuple "dict_itemiterator"=true by decide,hG3];show wpAny _ _ (ite ((Value.ref d == Value.none)=true) _ _) _ _ s;rw[hEr (by exact hAo)];refine hEp (hEq (hEp (hFo g0 gd ?_)));rw[hEr (by subst hz;simp)];refine hEp (hEq (hEp (hFx g0 gd ?_)));rw[hEr (by simp)];refine hEq ?_;have n0:¬((i:Int)<0):=by omega
 simp only[n0,hFg,hB8,hCg (show es.size<=i by omega)];refine hEp (hEp (hFa T (hEq ?_)));show wpAny _ _ (setField (.ref it) 2 .none >>= _) _ _ s;refine hEp (wpAny_setField hit rfl (by simp) ?_);show wpAny _ _ (newExc (.type "StopIteration") [] >>= _) _ _ _;refine hEp ?_;simp only[newExc,newTuple,raiseNew];refine hEp (hEw (hEp (m:=firstArgMember _ _) (wpAny_of_eq (a:=Value.none) (by first|rfl|(simp only[firstArgMember];rfl)) (hEw (hEp (wpAny_handled ?_)) (by size_fits)))) (by size_fits));rw[show A.in1.handled=none from hh];refine hEp (hEq (wpAny_throw ?_));refine hEp (hFt (b:=true) (T:="StopIteration") ⟨_,Heap.get?_push_size _ rfl,rfl⟩ hGc ?_);exact hEq (q _ (((Heap.SameBut.update ..).extBut.push _).push _))
theorem zBk{v:Addr}{R:Value->Shared->Prop}(hv:s.heap.IsItemsView v d)(g:s.heap.get? d=some od)(gd:od.data = .dict es ep)(hz:es.size=n)
  (q:R (.ref s.heap.objs.size) { s with heap:=s.heap.push { cls:=.type "dict_itemiterator",data:=.fields #[.none,.bool false,.ref d,.int 0 0,.int n 0,.int ep 0,.none,.none] } }):wpAny (model P w) A (pyIter (.ref v)) R E s:=by
 obtain⟨ov,hov,hcv,hdv⟩:=id hv;refine hF8 hv.typeIs F.slot_dict_items_iter (hEx F.slot_dict_items_iter hv.typeIs F.entry_dict_items_iter ?_ (F.args_dict_items_iter_1 _));unfold Builtin.«dict_items.__iter__» Builtin.Dict_items.dictOf;refine hEp (hEq (hEp (hEp (wpAny_field hov hdv (x:=.ref d) rfl (hEq (hEp ?_))))));unfold Builtin.Dict_items.newIterator;refine hEp (hFo g gd (hEp (hFx g gd ?_)));simp only[show Builtin.Dict_items.ownsTuple "dict_itemiterator"=true by decide,hG3];refine hEw (hEq ⟨_,rfl,"dict_itemiterator",_,⟨_,Heap.get?_push_size _ rfl,rfl⟩,F.slot_dict_itemiterator_next.lookup,?_⟩) (by simp only[sizeOk,Builtin.Dict_items.ownedTupleFields,hAu,hAk,hBg,List.length_nil,hFi];omega);subst hz
 simpa [rawInt,Builtin.Dict_items.ownedTupleFields] using q
end
end L2
namespace L2
open PySem PySem.Spec PyProof.Rows
noncomputable def itT(bs:List Addr)(kvs:List (List Key×V))(i:Nat):List V:=[.ref (bs.getD i 0),(kvs.getD i ([],.non)).2]
theorem qL0{P:Program}{w:World}{K:PySem.W.Frag}{elts:List Expr}{ct:Nat}{pos:Pos}(it d:Addr)(o:Obj)(kvs:List (List Key×V))(bs:List Addr)(es:Array DictEntry)(ep:Nat)(gd:o.data = .dict es ep)(hz:es.size=kvs.length)(hb:∀i (h:i<es.size),es[i].key = .ref (bs.getD i 0)) :
  Turn P w K (.Tuple elts ct pos) (Itp kvs.length (λH=>H d=some (.frz o (.dT kvs))) (itT bs kvs)) [it] it (λi h=>∃ok ov,IsItemIter h it d i kvs.length ep ok ov) where
 mem:=by simp
 obj:=λi h st b hb=>by
  obtain rfl:b=it:=by simpa using hb
  obtain⟨ok,ov,e⟩:=st;exact⟨_,e,λv z=>by cases z⟩
 keep:=λi h h' st k=>by
  obtain⟨ok,ov,e⟩:=st;exact⟨ok,ov,k it (by simp) _ e⟩
 item:=by
  intro X hP hw hK hc i aB s σ H E I hf st hg;subst hP hw hK;obtain⟨hH,hi⟩:=hg;obtain⟨ok,ov,hit⟩:=st;obtain⟨g,_,at_⟩:=qPj I.hok hH gd;obtain⟨p,b,u,hp,hu,ku,hbt,rv⟩:=at_ i hi;have lt:i<es.size:=by omega
  have eu:es[i]=u:=by
   rw[hAv lt]at hu;exact hAh hu
  have kb:=hb i lt;refine zBg hit g gd hz hi λh1 ho1 ht k1=>?_
  refine⟨_,rfl,wpAny_letOwnedTupleGo_items ho1 λh2 hi2 sb2=>?_⟩;have hTit:s.heap.objs.size≠it:=hCn (Heap.lt_size hit);have ht2:=sb2.extBut _ _ hTit ht;have ei:itT bs kvs i=[.ref (bs.getD i 0),p.2]:=by unfold itT;rw[hAa (l:=kvs),hp];rfl
  refine⟨.ref s.heap.objs.size,upd H s.heap.objs.size (.tup (itT bs kvs i)),I.turnedT (t':=s.toks) (d':=s.drawn) (ch:=[it]) (λb u hb e=>?_) hf (hAj _) ⟨?_,[es[i].key,es[i].val],?_,⟨_,ht2,rfl,_,rfl⟩⟩,rfl,⟨_,I.hok.fresh (hAj _),rfl,rfl⟩,⟨_,_,hi2⟩,λb hb=>?_⟩
  ·have nb:b≠it:=by simpa using hb
   exact sb2.extBut _ _ nb (k1 b u nb e)
  ·rw[ei];show 2<=sizeLine;decide
  ·rw[ei,kb,eu];exact .cons rfl (.cons rv .nil)
  ·obtain rfl:b=it:=by simpa using hb
   rw[qAb (Ne.symm hTit)];exact(hf b (by simp)).1
 done:=by
  intro X hP hw hK hc i aB s σ H E I hf st hg;subst hP hw hK;obtain⟨hH,rfl⟩:=hg;obtain⟨ok,ov,hit⟩:=st;obtain⟨g,_,_⟩:=qPj I.hok hH gd;obtain⟨f0,f1,f2,f3,f4,f5⟩:=hf it (by simp);exact zC5 (I.ok.hd hc) hit g gd hz (hAj _) λh' eb=>⟨rfl,I.turned (t':=s.toks) (λb o hb e=>eb b o hb e) f0 f1 f3 f4 f5⟩
 self:=λA i s Q E st h=>by
  obtain⟨ok,ov,hit⟩:=st;have hT:s.TypeIs (.ref it) "dict_itemiterator":=⟨_,hit,rfl⟩;refine hF8 hT hCw (hEx hCw hT FS.entry_dii ?_ (PySem.F.args_dict_itemiterator_iter_1 _));exact hEq ⟨_,rfl,"dict_itemiterator",_,hT,PySem.F.slot_dict_itemiterator_next.lookup,h⟩
theorem qOl{H:Hp}:∀ {kvs:List (List Key×V)} {xs:List (List Key×Addr×Value)},KT H kvs xs->Paired (λb (kv:List Key×V)=>H b=some (.tup (kv.1.map kV))) (xs.map (·.2.1)) kvs
 |_,_,.nil=>.nil
 |_,_,.cons h t=>.cons h.2.1 (qOl t)
def qX0(td:TE):TI:=λσ H R=>td σ H λx H1=>∃d kvs,x = .ref d/\H1 d=some (.dT kvs)/\∀(o:Obj) (bs:List Addr),Paired (λb (kv:List Key×V)=>H1 b=some (.tup (kv.1.map kV))) bs kvs->R (Itp kvs.length (λH=>H d=some (.frz o (.dT kvs))) (itT bs kvs)) (upd H1 d (.frz o (.dT kvs)))
theorem qQ7{X:Cx}{oe:Expr}{td:TE}{apos cpos tpos:Pos}{elts:List Expr}{ct:Nat}(he:PE X oe td)(hbase:attributeBase oe "items" X.env (eval oe X.env)=eval oe X.env:=by rfl)(hline:(apos.endLine == cpos.line)=true:=by rfl) :
  PI X (.Tuple elts ct tpos) (.Call (.Attribute oe "items" apos) [] [] cpos) (qX0 td):=by
 intro aB s σ H R I h;refine hFp hbase hline (thn (he aB s σ H _ I h) λv s1 ⟨x,H1,I1,r1,q1⟩=>?_);obtain⟨d,kvs,e,hH,q⟩:=q1;subst e;cases r1;obtain⟨h1,h2⟩:=qJ3 I1 (x:=.ref d) (v:=.ref d) (T:="dict") rfl (.inr (.inr (.inl ⟨rfl,.inr ⟨kvs,hH⟩⟩)));obtain⟨hz,hsm,xs,kt,o,es,ep,ho,hx,gd,en,nd⟩:=I1.hok d _ hH;refine⟨"dict","dict.items",hDg,hE6,PySem.F.type_dict_items,h1,h2,Calls.callWith_builtin rfl (hEm ?_)⟩;refine hEx hE6 h1 PySem.F.entry_dict_items ?_ (PySem.F.args_dict_items_1 _);unfold Builtin.«dict.items» Builtin.Dict.noArgs;refine hEp (hEp (hFh h1 (hEq ?_)));show wpAny _ _ (Builtin.Dict.showsAll d >>= _) _ _ _;unfold Builtin.Dict.showsAll;rw[hEr (by rw[hsm];exact hAo)];refine hEp (hEq (hEp (hEw (hEq ⟨_,rfl,?_⟩))));have I2:Inv X aB σ (upd H1 d (.frz o (.dT kvs))) s1:=by
  refine I1.write (t':=s1.toks) (h':=s1.heap) (x:=d) (e:=d) (by rw[hH];trivial) (.inl rfl) (λ_ _ _ q=>q) ⟨o,ho⟩ ⟨ho,hz,hsm,xs,?_,o,es,ep,ho,hx,gd,en,nd⟩;exact KT.keeps kt λb ys q=>by rw[qAb (λz=>by rw[z,hH]at q;cases q)];exact q
 have sz:=(qPj I2.hok upd_same gd).2.1;generalize eh:s1.heap.push { cls:=.type "dict_items",data:=.fields #[.ref d] }=h3;have kp:∀b o,s1.heap.get? b=some o->h3.get? b=some o:=λb o e=>by rw[<-eh];exact Heap.get?_push_of_some _ e
 have vw:h3.IsItemsView s1.heap.objs.size d:=by rw[<-eh];exact⟨_,Heap.get?_push_size _ rfl,rfl,rfl⟩
 have I3:Inv X aB σ (upd H1 d (.frz o (.dT kvs))) { s1 with heap:=h3 }:=I2.kept (t':=s1.toks) kp;refine zBk (s:={ s1 with heap:=h3 }) vw (kp _ _ ho) gd sz ?_;have hd1:d<h3.objs.size:=Heap.lt_size (kp _ _ ho);have hb:∀i (h:i<es.size),es[i].key = .ref ((xs.map (·.2.1)).getD i 0):=λi hi=>by
  have h2:es.toList[i]?=some es[i]:=by rw[hB0,hAv hi]
  rw[en,hAc]at h2;rw[hAa,hAc];cases hxi:xs[i]? with
  |none=>rw[hxi]at h2;cases h2
  |some x =>
   rw[hxi]at h2;have:=hAh h2;rw[<-this];rfl
 refine⟨_,[h3.objs.size],_,_,_,rfl,I3.kept (t':=s1.toks) λb o e=>Heap.get?_push_of_some _ e,qL0 _ d o kvs (xs.map (·.2.1)) es ep gd sz hb,⟨_,_,Heap.get?_push_size _ rfl⟩,λb hb=>?_,q o _ (qOl kt)⟩;obtain rfl:b=h3.objs.size:=by simpa using hb
 exact I3.fpOk (hAj _) (I3.hok.fresh (hAj _))
end L2
namespace My
open PySem L2
def Dr(d:Addr)(H H':Hp):Prop:=(∃q:Int,H' d=some (.lst [.int q]))/\∀b o,b≠d->H b=some o->H' b=some o
section
variable{d:Addr}{H H1 H2:Hp}
theorem Dr.refl{n:Int}(h:H d=some (.lst [.int n])):Dr d H H:=⟨⟨n,h⟩,λ_ _ _ q=>q⟩
theorem Dr.ext(h:Dr d H H1)(e:Ext H1 H2):Dr d H H2:=⟨let ⟨q,z⟩:=h.1;⟨q,e _ _ z⟩,λb o n q=>e _ _ (h.2 b o n q)⟩
theorem Dr.trans(h:Dr d H H1)(e:Dr d H1 H2):Dr d H H2:=⟨e.1,λb o n q=>e.2 b o n (h.2 b o n q)⟩
theorem Dr.take(h:Dr d H H1)(q:Int):Dr d H (upd H1 d (.lst [.int q])):=⟨⟨q,upd_same⟩,λb o n z=>by rw[qAb n];exact h.2 b o n z⟩
theorem Dr.ne(h:Dr d H H1){r:Addr}(hr:H1 r=Option.none):r≠d:=λe=>by
 obtain⟨q,z⟩:=h.1;rw[e,z]at hr;cases hr
theorem Dr.none(h:Dr d H H1){r:Addr}(hr:H1 r=Option.none):H r=Option.none:=by
 cases q:H r with
 |none=>rfl
 |some o=>rw[h.2 r o (h.ne hr) q]at hr;cases hr
theorem Dr.over(h:Dr d H H1){r:Addr}(hr:H r=Option.none)(n:r≠d)(o:HO):Dr d H (upd H1 r o):=⟨let ⟨q,z⟩:=h.1;⟨q,by rw[qAb (Ne.symm n)];exact z⟩,λb u nb z=>by rw[qAb (qAp z hr)];exact h.2 b u nb z⟩
end
noncomputable abbrev nV(n:Nat):V:=.int (n:Nat)
noncomputable abbrev kk(n:Nat):Key:=Sum.inl (n:Nat)
noncomputable def RK(R:List (List Nat)):List (List Key):=R.map (List.map kk)
section
variable{α β:Type}[DecidableEq α][DecidableEq β]{f:α->β}
theorem qGg(R:List (List α))(i:Nat):lenR (R.map (List.map f)) i=lenR R i:=by unfold lenR;rw[qI9,hA4]
theorem qJi(R:List (List α)):ends (R.map (List.map f))=ends R:=by
 unfold ends;rw[hA4];refine congrArg (λg=>List.flatMap g (List.range R.length)) (funext λi=>?_);rw[qGg]
theorem qMi(hf:∀a b,f a=f b->a=b)(R:List (List α)):Iso R (R.map (List.map f)) id id id:=qRy λe _ u _ q=>by
 cases h1:atR R e with
 |none =>
  cases h2:atR R u with
  |none=>rfl
  |some b=>rw[h1,h2]at q;cases q
 |some a =>
  cases h2:atR R u with
  |none=>rw[h1,h2]at q;cases q
  |some b=>rw[h1,h2]at q;rw[hf a b (hAh q)]
theorem qVv(hf:∀a b,f a=f b->a=b){R:List (List α)}(tw:Tw R):Tw (R.map (List.map f)):=(qMi hf R).tw tw
theorem qZy(hf:∀a b,f a=f b->a=b){R:List (List α)}(tw:Tw R){e:Ps}(he:e∈ends R):onR (R.map (List.map f)) e=onR R e:=(qMi hf R).on tw he
theorem qRq(hf:∀a b,f a=f b->a=b){R:List (List α)}(tw:Tw R){e:Ps}(he:e∈ends R):farR (R.map (List.map f)) e=farR R e:=(qMi hf R).far tw he
end
theorem Lk.swap{α:Type}{f g:α->α}:∀ {l:List α} {a b:α},(∀e∈a :: l,f e=g e)->Lk f a l b->Lk g a l b
 |[],a,b,h,k=>by
  show g a=b;rw[<-h a hAb];exact k
 |c :: l,a,b,h,⟨h1,h2⟩=>⟨by rw[<-h a hAb];exact h1,Lk.swap (λe he=>h e (hAe _ he)) h2⟩
theorem qU5{α β:Type}[DecidableEq α][DecidableEq β]{f:α->β}(hf:∀a b,f a=f b->a=b){R:List (List α)}(tw:Tw R){e:Ps}{l:List Ps}(w:Wk (onR (R.map (List.map f))) (ends (R.map (List.map f))) [] e l e):Wk (onR R) (ends R) [] e l e:=by
 have hE:∀u∈e :: l,u∈ends R:=λu hu=>by rw[<-qJi (f:=f) R];exact w.inE u hu
 exact⟨Lk.swap (λu hu=>qZy hf tw (hE u hu)) w.lk,w.nd,hE,w.out⟩
theorem qV0(a b:Nat)(h:kk a=kk b):a=b:=by have:=Sum.inl.inj h;omega
theorem qXv(r:List Nat):(r.map kk).map kV=r.map nV:=by rw[hBi];rfl
structure GrS(d t:Addr)(H0 H:Hp)(R:List (List Nat)):Prop where
 dr:Dr d H0 H
 t0:H0 t=none
 td:t≠d
 tu:∃as:List Addr,as.Nodup/\H t=some (.lst (as.map V.ref))/\Paired (λa r=>H a=some (.lst (r.map nV))/\H0 a=none/\a≠d/\a≠t) as R
section
variable{d t:Addr}{H0 H H1:Hp}{R:List (List Nat)}
theorem GrS.ext(h:GrS d t H0 H R)(e:Ext H H1):GrS d t H0 H1 R:=by
 obtain⟨as,h1,h2,h3⟩:=h.tu;exact⟨h.dr.ext e,h.t0,h.td,as,h1,e _ _ h2,Paired.mapP h3 λ_ _ z=>⟨e _ _ z.1,z.2⟩⟩
theorem GrS.take(h:GrS d t H0 H R)(q:Int):GrS d t H0 (upd H d (.lst [.int q])) R:=by
 obtain⟨as,h1,h2,h3⟩:=h.tu;exact⟨h.dr.take q,h.t0,h.td,as,h1,by rw[qAb h.td];exact h2,Paired.mapP h3 λ_ _ z=>⟨by rw[qAb z.2.2.1];exact z.1,z.2⟩⟩
theorem GrS.turnsK(h:GrS d t H0 H R):qHk H t (RK R):=by
 obtain⟨as,h1,h2,h3⟩:=h.tu;refine⟨as,h2,?_⟩;have go:∀ {as:List Addr} {R:List (List Nat)},Paired (λa r=>H a=some (.lst (r.map nV))/\H0 a=none/\a≠d/\a≠t) as R->Paired (λa r=>H a=some (.lst (r.map kV))) as (R.map (List.map kk)):=λp=>by
  induction p with
  |nil=>exact .nil
  |cons h t ih=>exact .cons (by rw[qXv];exact h.1) ih
 exact go h3
theorem qH2{F F':Addr->List Nat->Prop}:∀ {as:List Addr} {R:List (List Nat)} {i:Nat} {a:Addr} {r':List Nat},as.Nodup->Paired F as R->as[i]?=some a->(∀b r,b≠a->F b r->F' b r)->F' a r'->Paired F' as (R.set i r')
 |_,_,i,a,_,_,.nil,h,_,_=>by simp at h
 |b :: as,r :: R,0,a,r',nd,.cons h t,e,k,n=>by
  have e:b=a:=by simpa using e
  subst e;refine .cons n ?_;obtain⟨n1,_⟩:=hB7.mp nd;have go:∀ {as:List Addr} {R:List (List Nat)},b∉as->Paired F as R->Paired F' as R:=λhn p=>by
   induction p with
   |nil=>exact .nil
   |cons h t ih=>exact .cons (k _ _ (λz=>hn (by rw[z];exact hAb)) h) (ih λz=>hn (hAe _ z))
  exact go n1 t
 |b :: as,r :: R,i+1,a,r',nd,.cons h t,e,k,n=>by
  obtain⟨n1,n2⟩:=hB7.mp nd;have e:as[i]?=some a:=by simpa using e
  exact .cons (k _ _ (λz=>n1 (by rw[z];exact hAs e)) h) (qH2 n2 t e k n)
theorem GrS.ins(h:GrS d t H0 H R){c:Ps}(hc:c∈ends R)(n:Nat):∃(as:List Addr) (a:Addr) (row:List Nat),H t=some (.lst (as.map V.ref))/\as[c.1]?=some a/\H a=some (.lst (row.map nV))/\c.2<row.length/\row.length=lenR R c.1/\GrS d t H0 (upd H a (.lst ((row.map nV).take c.2++nV n :: (row.map nV).drop c.2))) (qEn R c n):=by
 obtain⟨as,h1,h2,h3⟩:=h.tu;have l:=h3.length;have hi:c.1<as.length:=by rw[l];exact qAs hc
 have ha:=hA8 hi;obtain⟨row,hr,q1,q2,q3,q4⟩:=qAo h3 ha;have er:qAx R c.1=row:=by unfold qAx;rw[hAa,hr];rfl
 have hl:c.2<row.length:=by have:=qAn.mp hc;unfold lenR at this;rwa [er]at this
 refine⟨as,as[c.1],row,h2,ha,q1,hl,by unfold lenR;rw[er],h.dr.over q2 q3 _,h.t0,h.td,as,h1,by rw[qAb (Ne.symm q4)];exact h2,?_⟩;refine qH2 h1 h3 ha (λb r nb z=>⟨by rw[qAb nb];exact z.1,z.2⟩) ⟨?_,q2,q3,q4⟩;rw[upd_same,er,hAf,hAn,List.map_take,List.map_drop]
theorem GrS.app(h:GrS d t H0 H R){b:Addr}(hb:H b=none)(n:Nat):∃as:List Addr,H t=some (.lst (as.map V.ref))/\as.length=R.length/\GrS d t H0 (upd (upd H b (.lst [nV n])) t (.lst (as.map V.ref++[V.ref b]))) (R++[[n]]):=by
 obtain⟨as,h1,h2,h3⟩:=h.tu;have nbt:b≠t:=λz=>by rw[z,h2]at hb;cases hb
 have nba:∀a∈as,a≠b:=λa ha z=>by
  obtain⟨i,hi,e⟩:=hCx ha;obtain⟨row,_,q1,_⟩:=qAo h3 (hA8 hi);rw[e,z,hb]at q1;cases q1
 refine⟨as,h2,h3.length,(h.dr.over (h.dr.none hb) (h.dr.ne hb) _).over h.t0 h.td _,h.t0,h.td,as++[b],?_,by rw[upd_same,hAf];rfl,?_⟩
 ·rw[hB6];exact⟨h1,by simp,λa ha c hc z=>nba a ha (by rw[z];exact hAd.mp hc)⟩
 ·refine Paired.snc (Paired.mapP h3 λa r z=>⟨?_,z.2⟩) ⟨by rw[qAb nbt,upd_same];rfl,h.dr.none hb,h.dr.ne hb,nbt⟩;have nab:a≠b:=λy=>by rw[y,hb]at z;cases z.1
  rw[qAb z.2.2.2,qAb nab];exact z.1
theorem GrS.two(h:GrS d t H0 H R){b c q r:Addr}(n:Nat)(hb:H b=none)(hc:upd H b (.lst [nV n]) c=none)(hq:upd (upd H b (.lst [nV n])) c (.lst [nV n]) q=none)(xs:List V)(hr:upd (upd (upd H b (.lst [nV n])) c (.lst [nV n])) q (.lst xs) r=none):∃as:List Addr,H t=some (.lst (as.map V.ref))/\as.length=R.length/\GrS d r H0 (upd (upd (upd (upd H b (.lst [nV n])) c (.lst [nV n])) q (.lst xs)) r (.lst (as.map V.ref++[V.ref b,V.ref c]))) (R++[[n]]++[[n]]):=by
 obtain⟨as,h1,h2,h3⟩:=h.tu;have x1:=Ext.new hb (.lst [nV n]);have x2:=Ext.new hc (.lst [nV n]);have x3:=Ext.new hq (.lst xs);have x4:=Ext.new hr (.lst (as.map V.ref++[V.ref b,V.ref c]));have x14:=((x1.trans x2).trans x3).trans x4;have hc0:=x1.none hc;have hr0:=((x1.trans x2).trans x3).none hr;have hb4:upd (upd (upd (upd H b (.lst [nV n])) c (.lst [nV n])) q (.lst xs)) r (.lst (as.map V.ref++[V.ref b,V.ref c])) b=some (.lst [nV n]):=((x2.trans x3).trans x4) _ _ upd_same;have hc4:upd (upd (upd (upd H b (.lst [nV n])) c (.lst [nV n])) q (.lst xs)) r (.lst (as.map V.ref++[V.ref b,V.ref c])) c=some (.lst [nV n]):=(x3.trans x4) _ _ upd_same;have nbc:b≠c:=λz=>by rw[<-z,upd_same]at hc;cases hc
 have nrb:b≠r:=λz=>by rw[<-z,(x2.trans x3) _ _ upd_same]at hr;cases hr
 have nrc:c≠r:=λz=>by rw[<-z,x3 _ _ upd_same]at hr;cases hr
 have inA:∀ {a:Addr},a∈as->∃o,H a=some o:=λ{a} ha=>by
  obtain⟨i,hi,e⟩:=hCx ha;obtain⟨row,_,q1,_⟩:=qAo h3 (hA8 hi);rw[e]at q1;exact⟨_,q1⟩
 refine⟨as,h2,h3.length,h.dr.ext x14,h.dr.none hr0,h.dr.ne hr0,as++[b]++[c],?_,?_,?_⟩
 ·rw[hB6,hB6];refine⟨⟨h1,by simp,λa ha x hx z=>?_⟩,by simp,λa ha x hx z=>?_⟩
  ·obtain⟨o,ho⟩:=inA ha;rw[z,hAd.mp hx,hb]at ho;cases ho
  ·have hx:=hAd.mp hx;subst hx z;rcases hAp.mp ha with w|w
   ·obtain⟨o,ho⟩:=inA w;rw[hc0]at ho;cases ho
   ·exact nbc (hAd.mp w).symm
 ·rw[upd_same,hAf,hAf,hCk];rfl
 ·refine Paired.snc (Paired.snc (Paired.mapP h3 λa r' z=>⟨x14 _ _ z.1,z.2.1,z.2.2.1,λy=>?_⟩) ⟨hb4,h.dr.none hb,h.dr.ne hb,nrb⟩) ⟨hc4,h.dr.none hc0,h.dr.ne hc0,nrc⟩;rw[y,hr0]at z;cases z.1
end
theorem qRu{α:Type}[DecidableEq α](R:List (List α))(i:Nat):lenR R i<=(ends R).length:=by
 by_cases h:i<R.length
 ·have nd:((List.range (lenR R i)).map λj=>((i,j):Ps)).Nodup:=by
   rw[List.Nodup,hC3];exact List.Pairwise.imp (λh q=>h (congrArg Prod.snd q)) hCt
  have:=hBe nd (λe he=>(by
   obtain⟨j,hj,rfl⟩:=hAm.mp he;exact qAn.mpr (hAw.mp hj):e∈ends R))
  rwa [hA4,hB1]at this
 ·have:lenR R i=0:=by unfold lenR;rw[qGt (by omega)];rfl
  omega
theorem qMz{α:Type}[DecidableEq α]{R:List (List α)}{n:Nat}:∀ {m:Nat},n<=m->(qJv R n).length<=(qJv R m).length
 |0,h=>by
  have:n=0:=by omega
  subst this;exact hAj _
 |m+1,h=>by
  by_cases e:n=m+1
  ·rw[e];exact hAj _
  ·rw[qDg,hAk];exact hBa (qMz (m:=m) (by omega)) (Nat.le_add_right _ _)
theorem qRd{c0:Bool}{u:TT}{σ:St}{H:Hp}{Q:Bool->Hp->Prop}(c1:Bool)(hu:∀Q':Bool->Hp->Prop,Q' c1 H->u σ H Q')(hQ:Q (c0 || c1) H):if c0=true then Q true H else u σ H Q:=by
 cases c0 with
 |true=>exact iteT hQ
 |false=>exact qFs (hu Q hQ)
theorem qU3{c0:Bool}{u:TT}{σ:St}{H:Hp}{Q:Bool->Hp->Prop}(c1:Bool)(hu:∀Q':Bool->Hp->Prop,Q' c1 H->u σ H Q')(hQ:Q (c0 && c1) H):if c0=true then u σ H Q else Q false H:=by
 cases c0 with
 |true=>exact iteT (hu Q hQ)
 |false=>exact qFs hQ
theorem qVx{H:Hp}{e d:Addr}{bs:List Addr}{q:Int}(h:H e=some (.lst (bs.map V.ref)))(hd:H d=some (.lst [.int q])):e≠d:=λz=>by
 rw[z,hd]at h;cases bs with
 |nil=>cases h
 |cons b bs=>cases h
theorem qXs{H:Hp}{e a:Addr}{b1 b2:Addr}{row:List Nat}(h:H e=some (.lst [.ref b1,.ref b2]))(ha:H a=some (.lst (row.map nV))):e≠a:=λz=>by
 rw[z,ha]at h;cases row with
 |nil=>cases h
 |cons b bs=>cases h
theorem qM0{H:Hp}{bs:List Addr}{E:List Ps}(pr:Paired (qDt H) bs E){r:Int}(h0:0<=r)(h1:r<((bs.map V.ref).length:Nat)):∃b e,atI (bs.map V.ref) r=some (.ref b)/\qDt H b e/\e∈E:=by
 rw[hA4]at h1;obtain⟨k,rfl⟩:=hCc h0;have hk:k<bs.length:=by omega
 obtain⟨e,he,hb⟩:=qAo pr (hA8 hk);exact⟨_,e,qAq (by rw[hAc,hA8 hk];rfl),hb,hAs he⟩
def qP6:Sp:=λvs H Q _=>∃(d:Addr) (q:Int),vs=[.ref d]/\H d=some (.lst [.int q])/\∀(T t:Addr) (H':Hp) (R:List (List Nat)) (n:Nat),GrS d t H H' R->Gw R n->n<=12->R.length<=16->(ends R).length=2*n->H T=none->H' T=some (.tup [.ref t,.int (n:Nat)])->Q (.ref T) H'
section
variable{P:Program}{w:World}{K:PySem.W.Frag}{mg:Str->Option Value}{base:Heap}{f f1 f2 f3 f4:Addr}{fd fd1 fd2 fd3 fd4:FuncData}
noncomputable abbrev grN:List Str:=["_law_draw","_law_turns","_law_high","_law_more","_law_count","_law_way","_law_ends","_law_point","_law_place","_law_start","_law_face_here","_law_other"]
theorem qBl:FnScope grN ["_law_draw"] (qAc qNx):=fsk
theorem qT6(F:Fun K "_law_grown" "_law_grown" qNx f fd)(G1:Cl P w K mg base CX0 1 f1 fd1 ["_law_draw","_law_many"] qNk "_law_take")
  (G2:Cl P w K mg base CX0 1 f2 fd2 ["_law_turns"] qWj "_law_far")
  (G3:Cl P w K mg base CX0 1 f3 fd3 ["_law_turns","_law_far_here","_law_end"] qP7 "_law_face")
  (mr:mg "range"=none) (ml:mg "len"=none) (mso:mg "sorted"=none):FnOk P w K mg base CX0 2 f fd ["_law_draw"] qP6:=by
 refine F.okA qBl λcdv A outer s H vs Q E hr h=>?_
 obtain⟨d,q0,rfl,hd,Q0⟩:=h;refine⟨_,qAa (qAr (i:=1) qBl.nd rfl (Or.inl rfl) (qBo qC3))
  (qAa (qAr (i:=2) qBl.nd rfl (Or.inl rfl) qAk)
  (qAa (qAr (i:=3) qBl.nd rfl (Or.inl rfl) qAk)
  (qAa (qB3 PassesOwn.never rfl (qBz rfl mr (pa1 (qBf G1 hr rfl .nil qBg (qAe (pv 0) (pa1 qAk))))) (qAf (i:=4) qBl.nd rfl (Or.inl rfl))
   (qAa (qAr (i:=5) qBl.nd rfl (Or.inl rfl) (qBf G1 hr rfl .nil qBg (qAe (pv 0) (pa1 qAk))))
   (qAa (qAr (i:=6) qBl.nd rfl (Or.inl rfl) (qBo qC3))
   (qAa (qB3 PassesOwn.never rfl (qBz rfl mr (pa1 (qAh qAj rfl ml hBd (pa1 (pv 1))))) (qAf (i:=7) qBl.nd rfl (Or.inr rfl))
    (qAi (qAr (i:=6) qBl.nd rfl (Or.inl rfl) (qA5 qE1 (pv 6) (qKi (N:=grN) (sc:=qAc qNx) (N':=["_law_place","_law_point"]) (sub:=[none,some 7]) (qBz rfl mr (pa1 (qAh qAj rfl ml hBd (pa1 (qAt qAm (pv 1) (pv 7) (λ_ _=>rfl)))))) (λC s H fp=>⟨qBk,qB4 (qAe (pv 1) (pa1 (pv 0)))⟩))))))
   (qAi (qC9 (PW.pt (qHo (qAv (qVt (qF6 hr)) (pv 6) (qBo qC3) (qA6 _)) (qEw (PW.pt (qVl (qAv qE0 (pv 5) qAk (qA6 _)) (qQt (qAv qPb (pv 2) qAk (qA6 _))))))))
    (qAa (qAr (i:=1) qBl.nd rfl (Or.inl rfl) (qA5 qE1 (pv 1) (qBo (qAe (qBo (pa1 (pv 4))) (pa1 (qBo (pa1 (pv 4))))))))
    (qAi (qAr (i:=2) qBl.nd rfl (Or.inl rfl) (qA5 qCq (pv 2) qAk))))
    (qAi (qC9 (PW.pt (qVl (qAv qPb (pv 2) qAk (qA6 _)) (qQt (PW.pt (qHo (qAv qPb (pv 5) qAk (qA6 _)) (qEw (qAv zBd (pv 3) qAk (qA6 _))))))))
     (qAa (qEx (qAt qAm (pv 6) (qBf G1 hr rfl .nil qBg (qAe (pv 0) (pa1 (qAh qAj rfl ml hBd (pa1 (pv 6)))))) (λ_ _=>rfl)) (qBt rfl (qAg (qAf (i:=7) qBl.nd rfl (Or.inr rfl)) (qAg (qAf (i:=8) qBl.nd rfl (Or.inl rfl)) qA3))))
     (qAa (qDa (qF8 hBo hE3 hE4 qE2 (qAt qAm (pv 1) (pv 7) (λ_ _=>rfl)) (qAe (pv 8) (pa1 (pv 4)))))
     (qAa (qDa (qF8 hBo hE1 hE2 qE3 (pv 1) (pa1 (qBo (pa1 (pv 4))))))
     (qAi (qAr (i:=2) qBl.nd rfl (Or.inl rfl) (qA5 qCq (pv 2) qAk))))))
     (qAa (qAr (i:=9) qBl.nd rfl (Or.inl rfl) (qAt qAm (pv 6) (qBf G1 hr rfl .nil qBg (qAe (pv 0) (pa1 (qAh qAj rfl ml hBd (pa1 (pv 6)))))) (λ_ _=>rfl)))
     (qAa (qAr (i:=10) qBl.nd rfl (Or.inl rfl) (qBf G3 hr rfl .nil qBg (qAe (pv 1) (qAe (qBf G2 hr rfl .nil qBg (pa1 (pv 1))) (pa1 (pv 9))))))
     (qAa (qAr (i:=11) qBl.nd rfl (Or.inl rfl) (qAt qAm (pv 10) (qBf G1 hr rfl .nil qBg (qAe (pv 0) (pa1 (qAh qAj rfl ml hBd (pa1 (pv 10)))))) (λ_ _=>rfl)))
     (qAa (qB3 PassesOwn.never rfl (qA1 (qMb rfl mso (pa1 (qBo (qAe (pv 9) (pa1 (pv 11))))))) (qBt rfl (qAg (qAf (i:=7) qBl.nd rfl (Or.inr rfl)) (qAg (qAf (i:=8) qBl.nd rfl (Or.inl rfl)) qA3)))
      (qAi (qDa (qF8 hBo hE3 hE4 qE2 (qAt qAm (pv 1) (pv 7) (λ_ _=>rfl)) (qAe (pv 8) (pa1 (pv 4)))))))
     (qAi (qAr (i:=3) qBl.nd rfl (Or.inl rfl) (qA5 qCq (pv 3) qAk)))))))))))))))
  (qAi (qA2 (qB4 (qAe (pv 1) (pa1 (qA5 qCq (pv 2) (pv 3)))))))))),?_⟩
 refine⟨(by show 0<=sizeLine;exact hAy _),λt ht=>?_⟩;have e0:=Ext.new ht (.lst []);have g0:GrS d t H (upd H t (.lst [])) []:=⟨(Dr.refl hd).ext e0,ht,λz=>(by rw[z,hd]at ht;cases ht),[],hCf,upd_same,.nil⟩;refine⟨_,rfl,d,q0,13,rfl,e0 _ _ hd,by decide,by decide,λq r h0 h1=>?_⟩;obtain⟨m,rfl⟩:=hCc h0;have m12:m<=12:=by omega
 refine⟨_,rfl,by omega,by omega,?_⟩;rw[hB8];have g1:=g0.take q;revert g1;generalize upd _ _ _=H1;intro g1;refine qCs (λi σ H3=>∃(t:Addr) (R:List (List Nat)) (hi mo:Nat) (x4 x5 x6 x7 x8 x9 xa xb:Option V),σ=[some (.ref d),some (.ref t),some (.int (hi:Nat)),some (.int (mo:Nat)),x4,x5,x6,x7,x8,x9,xa,xb]/\GrS d t H H3 R/\Gw R i/\hi+mo=i/\hi<=8/\R.length<=2*hi/\(ends R).length=2*i)
  ⟨t,[],0,0,_,_,_,_,_,_,_,_,rfl,g1,zAc,rfl,hAy _,hAj _,rfl⟩ ?_ ?_
 ·clear g1 g0 e0 ht;rintro i σ H3 hi ⟨t,R,hg,mo,x4,x5,x6,x7,x8,x9,xa,xb,rfl,g3,gw,sm,h8,lR,lE⟩;rw[hDt];obtain⟨q3,hd3⟩:=g3.dr.1;refine⟨_,rfl,d,q3,8,rfl,hd3,by decide,by decide,λq4 wy w0 w1=>?_⟩;have g4:=g3.take q4;revert g4;generalize upd _ _ _=H4;intro g4;refine⟨(by show 0<=sizeLine;exact hAy _),λe he=>?_⟩;have x5':=Ext.new he (.lst []);have g5:=g4.ext x5';have he5:upd H4 e (.lst []) e=some (.lst (([]:List Addr).map V.ref)):=upd_same;revert g5 he5;generalize upd _ _ _=H5;intro g5 he5;obtain⟨as5,nd5,ht5,pr5⟩:=g5.tu;have lA5:=pr5.length;have l24:∀j,lenR R j<=24:=λj=>hBa (qRu R j) (by omega)
  refine⟨_,rfl,t,_,rfl,.inl (SqL.of ht5),_,rfl,by rw[hA4];omega,by rw[hA4];omega,?_⟩;rw[hB8,hA4,lA5];refine qCs (λk σ H6=>∃(e:Addr) (bs:List Addr) (x7:Option V),σ=[some (.ref d),some (.ref t),some (.int (hg:Nat)),some (.int (mo:Nat)),some (.int (i:Nat)),some (.int wy),some (.ref e),x7,x8,x9,xa,xb]/\GrS d t H H6 R/\Ext H5 H6/\H6 e=some (.lst (bs.map V.ref))/\Paired (qDt H6) bs (qJv R k))
   ⟨e,[],_,rfl,g5,Ext.refl _,he5,.nil⟩ ?_ ?_
  ·rintro k σ H6 hk ⟨e,bs,x7,rfl,g6,e56,he6,pb⟩;rw[hDt];have hka:k<as5.length:=by rw[lA5];exact hk
   obtain⟨row,hrow,ha5,_⟩:=qAo pr5 (hA8 hka);have er:qAx R k=row:=by unfold qAx;rw[hAa,hrow];rfl
   have elen:lenR R k=row.length:=by unfold lenR;rw[er]
   have:=l24 k;have atA:atI (as5.map V.ref) ((k:Nat):Int)=some (.ref as5[k]):=qAq (by rw[hAc,hA8 hka];rfl);refine⟨_,rfl,_,rfl,_,rfl,t,_,_,_,rfl,rfl,SqL.of (e56 _ _ ht5),atA,as5[k],_,rfl,.inl (SqL.of (e56 _ _ ha5)),_,rfl,by rw[hA4];omega,by rw[hA4];omega,?_⟩;rw[hB8,hA4];refine qDh (λj ys H7=>Ext H6 H7/\∃cs:List Addr,ys=cs.map V.ref/\Paired (qDt H7) cs (endQ k j)) ⟨Ext.refl _,[],rfl,.nil⟩ ?_ ?_
   ·rintro j ys H7 hj ⟨e7,cs,rfl,pc⟩;rw[hDt];have lc:=pc.length;unfold endQ at lc;rw[hA4,hB1]at lc;refine⟨sls,iteT (B:=False) ⟨_,rfl,_,rfl,(by show 2<=sizeLine;decide),λT hT=>⟨by rw[hA4];exact qAd (by omega),nxt hj ⟨e7.trans (Ext.new hT _),cs++[T],by rw[hAf];rfl,?_⟩⟩⟩⟩;rw[qHa];exact Paired.snc (Paired.mapP pc λ_ _ z=>z.ext (Ext.new hT _)) upd_same
   ·rintro ys H7 ⟨e7,cs,rfl,pc⟩ r hr';have e8:=e7.trans (Ext.new hr' (.lst (cs.map V.ref)));have lb:=pb.length;have lc:=pc.length;have lP:(qJv R k).length<=(ends R).length:=qMz (hBz hk);have lQ:(endQ k row.length).length=row.length:=by unfold endQ;rw[hA4,hB1]
    refine⟨e,r,_,_,rfl,rfl,e8 _ _ he6,upd_same,?_,λr2 hr2=>?_⟩
    ·rw[hA4,hA4];exact hBz (qAd (by omega))
    have x9:=Ext.new hr2 (.lst (bs.map V.ref++cs.map V.ref));refine⟨r2,bs++cs,_,rfl,g6.ext (e8.trans x9),e56.trans (e8.trans x9),by rw[upd_same,hAf],?_⟩;rw[qDg,elen];have app:∀ {F:Addr->Ps->Prop} {a1 a2:List Addr} {b1 b2:List Ps},Paired F a1 b1->Paired F a2 b2->Paired F (a1++a2) (b1++b2):=λp1 p2=>by
     induction p1 with
     |nil=>exact p2
     |cons h t ih=>exact .cons h ih
    exact app (Paired.mapP pb λ_ _ z=>z.ext (e8.trans x9)) (Paired.mapP pc λ_ _ z=>z.ext ((Ext.new hr' _).trans x9))
  ·rintro σ H6 ⟨e,bs,x7,rfl,g6,e56,he6,pb⟩
   change Paired (qDt H6) bs (ends R) at pb
   have lb:=pb.length;have dre:DRs K H6 (bs.map V.ref) ((ends R).map dI):=qHb pb;refine⟨_,rfl,(by show 0<=sizeLine;exact hAy _),λz hz=>?_⟩;have x7':=Ext.new hz (.lst []);refine⟨.list ((ends R).map dI),.list [],.lst (SqL.of (x7' _ _ he6)) (qHb (Paired.mapP pb λ_ _ y=>y.ext x7')),.lst (xs:=[]) (SqL.of upd_same) .nil,qB6 (λd hd=>by obtain⟨u,_,rfl⟩:=hAm.mp hd;exact qKr u),qB6 (λd hd=>by cases hd),_,rfl,?_⟩;rw[hEr hAo,qMw];have g7:=g6.ext x7';have he7:=x7' _ _ he6;have pb7:Paired (qDt (upd H6 z (.lst []))) bs (ends R):=Paired.mapP pb λ_ _ y=>y.ext x7'
   revert g7 he7 pb7;generalize upd _ _ _=H7;intro g7 he7 pb7;refine qRd (decide (V.int wy=V.int 7) && decide ((hg:Int)<8)) (λQ' hq=>?_) ?_
   ·refine⟨_,rfl,rfl,_,rfl,?_⟩;cases c:decide (V.int wy=V.int 7) with
    |true =>
     rw[c]at hq;exact iteT ⟨_,rfl,_,_,rfl,rfl,_,rfl,hq⟩
    |false =>
     rw[c]at hq;exact qFs hq
   obtain⟨as7,nd7,ht7,pr7⟩:=g7.tu;have lA7:=pr7.length;cases cc:(((ends R).map dI).isEmpty || (decide (V.int wy=V.int 7) && decide ((hg:Int)<8))) with
   |true =>
    have h7:hg<8:=by
     rw[Bool.or_eq_true,hC4,hEv,hEv]at cc;rcases cc with z|z
     ·rw[List.isEmpty_iff,List.map_eq_nil_iff]at z;rw[z]at lE;have l0:0=2*i:=lE;omega
     ·omega
    refine iteT ?_;refine⟨_,rfl,_,rfl,(by show 1<=sizeLine;decide),λb hb=>⟨_,rfl,(by show 1<=sizeLine;decide),λc hc=>⟨(by show 2<=sizeLine;decide),λq hq=>?_⟩⟩⟩;have x1:=Ext.new hb (.lst [nV i]);have x2:=Ext.new hc (.lst [nV i]);have x3:=Ext.new hq (.lst [V.ref b,V.ref c]);refine⟨t,q,_,_,rfl,rfl,((x1.trans x2).trans x3) _ _ ht7,upd_same,?_,λr hr=>?_⟩
    ·rw[hA4];exact hBz (qAd (by show _+2<=_;omega))
    obtain⟨as8,ht8,l8,g8⟩:=g7.two i hb hc hq [V.ref b,V.ref c] hr;rw[ht7]at ht8;have e8:as7.map V.ref=as8.map V.ref:=HO.lst.inj (hAh ht8);rw[e8];refine⟨_,rfl,_,_,rfl,rfl,r,qEi R i,hg+1,mo,_,_,_,_,_,_,_,_,rfl,g8,zAd gw,by omega,by omega,?_,?_⟩
    ·unfold qEi;rw[hAk,hAk,hBf];show R.length+1+1<=_;omega
    ·have:=(qI4 (R:=R) (t:=i)).length_eq;rw[hBg,hBg]at this;omega
   |false =>
    refine qFs ?_;have nE:(ends R).length≠0:=λz=>by
     rw[hD2.mp z]at cc;cases cc
    have pos:0<((bs.map V.ref).length:Int):=by rw[hA4];omega
    have l1000:((bs.map V.ref).length:Int)<1073741824:=by rw[hA4];omega
    obtain⟨q7,hd7⟩:=g7.dr.1;have ned:=qVx he7 hd7;refine⟨_,rfl,_,_,rfl,rfl,_,rfl,qU3 (decide (wy<3) || decide (7<(mo:Int))) (λQ' hq=>⟨_,rfl,_,_,rfl,rfl,_,rfl,qRd (decide (7<(mo:Int))) (λQ'' hq'=>⟨_,rfl,_,_,rfl,rfl,_,rfl,hq'⟩) hq⟩) ?_⟩;cases cd:(decide ((hg:Int)<8) && (decide (wy<3) || decide (7<(mo:Int)))) with
    |true =>
     have h7:hg<8:=by
      rw[hC4,hEv]at cd;omega
     refine iteT ?_;refine⟨_,rfl,_,rfl,_,rfl,e,_,rfl,.inl (SqL.of he7),d,q7,_,rfl,hd7,pos,l1000,λq r r0 r1=>?_⟩;have g8:=g7.take q;obtain⟨b,c,atb,hbc,hcE⟩:=qM0 pb7 r0 r1;have ntd:∀ys,H7 d≠some (.tup ys):=λys z=>by rw[hd7]at z;cases z
     have hbc8:=hbc.set ntd (.lst [.int q]);have he8:upd H7 d (.lst [.int q]) e=some (.lst (bs.map V.ref)):=by rw[qAb ned];exact he7
     revert g8 hbc8 he8;generalize upd _ _ _=H8;intro g8 hbc8 he8;refine⟨e,_,_,_,rfl,rfl,SqL.of he8,atb,b,_,rfl,SqT.of hbc8,rfl,_,_,rfl,_,_,rfl,rfl,?_⟩;obtain⟨as8,a8,row8,ht8,ha8,hrow8,lt8,ln8,g9⟩:=g8.ins hcE i;have atA8:atI (as8.map V.ref) ((c.1:Nat):Int)=some (.ref a8):=qAq (by rw[hAc,ha8];rfl);have l24':=l24 c.1;refine⟨_,rfl,_,rfl,t,_,_,_,rfl,rfl,SqL.of ht8,atA8,.inl ⟨rfl,_,SqL.of hrow8⟩,_,rfl,_,rfl,a8,_,c.2,_,rfl,rfl,hrow8,by rw[hA4];omega,by rw[hA4];omega,?_⟩;revert g9;generalize upd _ _ _=H9;intro g9;obtain⟨as9,nd9,ht9,pr9⟩:=g9.tu;refine⟨_,rfl,.inl ⟨rfl,_,SqL.of ht9⟩,_,rfl,(by show 1<=sizeLine;decide),λb2 hb2=>?_⟩;obtain⟨asA,htA,lA,gA⟩:=g9.app hb2 i;have htB:upd H9 b2 (.lst [nV i]) t=some (.lst (asA.map V.ref)):=(Ext.new hb2 _) _ _ htA;refine⟨t,_,_,rfl,rfl,htB,by rw[hA4,lA,qA9];exact qAd (by omega),?_⟩;refine⟨_,rfl,_,_,rfl,rfl,t,qEg R c i,hg+1,mo,_,_,_,_,_,_,_,_,rfl,gA,zAb gw hcE,by omega,by omega,?_,?_⟩
     ·unfold qEg;rw[hAk,qA9,hBf];omega
     ·have h1:=(qFe (R:=qEn R c i) (t:=i)).length_eq;have h2:=(qE5 (t:=i) hcE).length_eq;rw[hBg]at h1 h2;rw[hA4]at h2;unfold qEg;omega
    |false =>
     refine qFs ?_;refine⟨_,rfl,_,rfl,_,rfl,e,_,rfl,.inl (SqL.of he7),d,q7,_,rfl,hd7,pos,l1000,λq r r0 r1=>?_⟩;have g8:=g7.take q;obtain⟨b,c,atb,hbc,hcE⟩:=qM0 pb7 r0 r1;have ntd:∀ys,H7 d≠some (.tup ys):=λys z=>by rw[hd7]at z;cases z
     have hbc8:=hbc.set ntd (.lst [.int q]);have he8:upd H7 d (.lst [.int q]) e=some (.lst (bs.map V.ref)):=by rw[qAb ned];exact he7
     revert g8 hbc8 he8;generalize upd _ _ _=H8;intro g8 hbc8 he8;refine⟨e,_,_,_,rfl,rfl,SqL.of he8,atb,?_⟩;have eK:ends (RK R)=ends R:=qJi R;have twK:Tw (RK R):=qVv qV0 gw.tw;have lK:(RK R).length=R.length:=hA4 _;have l24K:∀j<(RK R).length,lenR (RK R) j<=24:=λj _=>by rw[show lenR (RK R) j=lenR R j from qGg R j];exact l24 j
     refine⟨_,rfl,_,rfl,t,RK R,rfl,g8.turnsK,by omega,l24K,twK,λf0 H9 kvs M e9 hf0 hf9 dm fo=>?_⟩;refine⟨_,rfl,t,f0,b,RK R,kvs,M,c,rfl,(g8.ext e9).turnsK,by rw[eK];omega,twK,.inl hf9,dm,fo,hbc8.ext e9,by rw[eK];exact hcE,λfr HA cs l eA hfr0 hfr pf wk lcs=>?_⟩;have wk':=qU5 qV0 gw.tw wk;have gA:=(g8.ext e9).ext eA;obtain⟨qA,hdA⟩:=gA.dr.1;have lcs1:cs.length=l.length+1:=pf.length;refine⟨_,rfl,_,rfl,_,rfl,fr,_,rfl,.inl (SqL.of hfr),d,qA,_,rfl,hdA,by rw[hA4];omega,by rw[hA4];omega,λq2 r2 s0 s1=>?_⟩;obtain⟨b2,c2,atb2,hbc2,hcF⟩:=qM0 pf s0 s1;have ntd2:∀ys,HA d≠some (.tup ys):=λys z=>by rw[hdA]at z;cases z
     have gB:=gA.take q2;have hb2B:=hbc2.set ntd2 (.lst [.int q2]);have hb1B:=(((hbc8.ext e9).ext eA)).set ntd2 (.lst [.int q2]);have hfrB:upd HA d (.lst [.int q2]) fr=some (.lst (cs.map V.ref)):=by rw[qAb (qVx hfr hdA)];exact hfr
     revert gB hb2B hb1B hfrB;generalize upd _ _ _=HB;intro gB hb2B hb1B hfrB;refine⟨fr,_,_,_,rfl,rfl,SqL.of hfrB,atb2,?_⟩;refine⟨_,rfl,_,rfl,(by show 2<=sizeLine;decide),λls hls=>?_⟩;have xC:=Ext.new hls (.lst [.ref b,.ref b2]);refine⟨ls,b,b2,c,c2,rfl,SqL.of upd_same,hb1B.ext xC,hb2B.ext xC,λso d1 d2 u1 u2 hso hw hlt=>?_⟩;have c2E:c2∈ends R:=wk'.inE c2 hcF;have xD:=Ext.new hso (.lst [.ref d1,.ref d2]);have fact:qDt HB d1 u1/\qDt HB d2 u2/\u1∈c :: l/\u2∈c :: l:=by
      rcases hw with ⟨rfl,rfl,rfl,rfl⟩|⟨rfl,rfl,rfl,rfl⟩
      ·exact⟨hb1B,hb2B,hAb,hcF⟩
      ·exact⟨hb2B,hb1B,hcF,hAb⟩
     obtain⟨hd1,hd2,hu1,hu2⟩:=fact;have hd1D:=(hd1.ext xC).ext xD;have hd2D:=(hd2.ext xC).ext xD;have u1E:=wk'.inE u1 hu1;have u2E:=wk'.inE u2 hu2;have le:LeP u2 u1:=by
      unfold ltP at hlt;have:=of_decide_eq_false hlt;unfold LeP;omega
     have gD:=(gB.ext xC).ext xD;have hsoD:upd (upd HB ls (.lst [.ref b,.ref b2])) so (.lst [.ref d1,.ref d2]) so=some (.lst [.ref d1,.ref d2]):=upd_same;revert hd1D hd2D gD hsoD;generalize upd _ _ _=HD;intro hd1D hd2D gD hsoD;refine⟨so,rfl,⟨_,SqL.of hsoD⟩,?_⟩;have step:∀(HE:Hp) (R':List (List Nat)) (u:Ps),GrS d t H HE R'->u∈ends R'->(∀j,lenR R' j<=25)->HE so=some (.lst [.ref d1,.ref d2])->∃(as:List Addr) (a:Addr) (row:List Nat),HE t=some (.lst (as.map V.ref))/\as[u.1]?=some a/\HE a=some (.lst (row.map nV))/\u.2<row.length/\row.length<=25/\GrS d t H (upd HE a (.lst ((row.map nV).take u.2++nV i :: (row.map nV).drop u.2))) (qEn R' u i)/\upd HE a (.lst ((row.map nV).take u.2++nV i :: (row.map nV).drop u.2)) so=some (.lst [.ref d1,.ref d2])/\∀ {bb:Addr} {ee:Ps},qDt HE bb ee->qDt (upd HE a (.lst ((row.map nV).take u.2++nV i :: (row.map nV).drop u.2))) bb ee:=λHE R' u gE huE hl hsE=>by
      obtain⟨as,a,row,h1,h2,h3,h4,h5,h6⟩:=gE.ins huE i;refine⟨as,a,row,h1,h2,h3,h4,by rw[h5];exact hl _,h6,by rw[qAb (qXs hsE h3)];exact hsE,λ{bb ee} z=>z.set (λys y=>by rw[h3]at y;cases y) _⟩
     refine qC6 (xs:=[.ref d1,.ref d2]) (λj σ HE=>∃x7 x8:Option V,σ=[some (.ref d),some (.ref t),some (.int (hg:Nat)),some (.int (mo:Nat)),some (.int (i:Nat)),some (.int wy),some (.ref e),x7,x8,some (.ref b),some (.ref fr),some (.ref b2)]/\HE so=some (.lst [.ref d1,.ref d2])/\qDt HE d1 u1/\qDt HE d2 u2/\GrS d t H HE (if j=0 then R else if j=1 then qEn R u1 i else chR R u1 u2 i))
      ⟨_,_,rfl,hsoD,hd1D,hd2D,gD⟩ ?_ ?_ ?_
     ·rintro j σ HE _ ⟨_,_,_,h,_⟩;exact SqL.of h
     ·rintro j x σ HE hx ⟨x7,x8,rfl,hsE,h1E,h2E,gE⟩
      match j,hx with
      |0,hx =>
       cases hAh hx;obtain⟨as,a,row,h1,h2,h3,h4,h5,h6,h7,h8⟩:=step HE R u1 gE u1E (λj=>hBa (l24 j) (by decide)) hsE;have atX:atI (as.map V.ref) ((u1.1:Nat):Int)=some (.ref a):=qAq (by rw[hAc,h2];rfl);refine⟨d1,_,rfl,SqT.of h1E,rfl,_,_,rfl,_,_,rfl,rfl,?_⟩;refine⟨_,rfl,_,rfl,t,_,_,_,rfl,rfl,SqL.of h1,atX,.inl ⟨rfl,_,SqL.of h3⟩,_,rfl,_,rfl,a,_,u1.2,_,rfl,rfl,h3,by rw[hA4];omega,by rw[hA4];omega,?_⟩;exact⟨_,_,rfl,h7,h8 h1E,h8 h2E,h6⟩
      |1,hx =>
       cases hAh hx;have u2E':u2∈ends (qEn R u1 i):=qS8 u1E u2E le;obtain⟨as,a,row,h1,h2,h3,h4,h5,h6,h7,h8⟩:=step HE (qEn R u1 i) u2 gE u2E' (λj=>by
        rw[qG5 u1E];have:=l24 j;split <;> omega) hsE
       have atX:atI (as.map V.ref) ((u2.1:Nat):Int)=some (.ref a):=qAq (by rw[hAc,h2];rfl);refine⟨d2,_,rfl,SqT.of h2E,rfl,_,_,rfl,_,_,rfl,rfl,?_⟩;refine⟨_,rfl,_,rfl,t,_,_,_,rfl,rfl,SqL.of h1,atX,.inl ⟨rfl,_,SqL.of h3⟩,_,rfl,_,rfl,a,_,u2.2,_,rfl,rfl,h3,by rw[hA4];omega,by rw[hA4];omega,?_⟩;exact⟨_,_,rfl,h7,h8 h1E,h8 h2E,h6⟩
      |j+2,hx=>simp at hx
     ·rintro σ HE ⟨x7,x8,rfl,hsE,h1E,h2E,gE⟩;refine⟨_,rfl,_,_,rfl,rfl,t,chR R u1 u2 i,hg,mo+1,_,_,_,_,_,_,_,_,rfl,gE,zBs (F0:=c :: l) gw u1E u2E le wk'.lk (λe he=>wk'.inE e he) hu1 hu2,by omega,h8,?_,?_⟩
      ·unfold chR;rw[qA9,qA9];exact lR
      ·have:=(qJp (t:=i) u1E u2E le).length_eq;rw[hBg,hBg,hA4]at this;omega
 ·rintro σ H3 ⟨t,R,hg,mo,x4,x5,x6,x7,x8,x9,xa,xb,rfl,g3,gw,sm,h8,lR,lE⟩;refine⟨_,rfl,_,rfl,_,rfl,_,_,rfl,rfl,(by show 2<=sizeLine;decide),λT hT=>?_⟩;have e4:=Ext.new hT (.tup [V.ref t,V.int ((hg:Nat)+(mo:Nat))]);refine Q0 T t _ R m (g3.ext e4) gw m12 (by omega) lE (g3.dr.none hT) ?_;rw[upd_same,<-sm];rfl
end
noncomputable def spF(f:Int)(k:Nat):Str:="p"++⟨#[sgC ((f+7*(k:Nat)) % 36).toNat]⟩
noncomputable def tiF(f:Int)(k:Nat):Str:=⟨#[sgC ((f+5*(k:Nat)) % 36).toNat]⟩
theorem qWk{f:Int}{i j:Nat}(hi:i<36)(hj:j<36)(e:spF f i=spF f j):i=j:=by
 have e1:=congrArg (λs:Str=>s.cps.toList) e;unfold spF at e1;simp only[Str.cps_append,Array.toList_append]at e1;have e2:=List.append_cancel_left e1;have a0:=hD5 (f+7*(i:Nat)) (show(36:Int)≠0 by decide);have a1:=hCo (f+7*(i:Nat)) (show(0:Int)<36 by decide);have b0:=hD5 (f+7*(j:Nat)) (show(36:Int)≠0 by decide);have b1:=hCo (f+7*(j:Nat)) (show(0:Int)<36 by decide);have e3:sgC ((f+7*(i:Nat)) % 36).toNat=sgC ((f+7*(j:Nat)) % 36).toNat:=by simpa using e2
 have e4:=qQb (by omega) (by omega) e3;omega
theorem qPz{f:Int}{i j:Nat}(hi:i<36)(hj:j<36)(e:tiF f i=tiF f j):i=j:=by
 have e1:=congrArg (λs:Str=>s.cps.toList) e;unfold tiF at e1;have a0:=hD5 (f+5*(i:Nat)) (show(36:Int)≠0 by decide);have a1:=hCo (f+5*(i:Nat)) (show(0:Int)<36 by decide);have b0:=hD5 (f+5*(j:Nat)) (show(36:Int)≠0 by decide);have b1:=hCo (f+5*(j:Nat)) (show(0:Int)<36 by decide);have e3:sgC ((f+5*(i:Nat)) % 36).toNat=sgC ((f+5*(j:Nat)) % 36).toNat:=by simpa using e1
 have e4:=qQb (by omega) (by omega) e3;omega
theorem qYp(f:Int)(k:Nat):PyData.strOk (tiF f k)=true:=by
 have a0:=hD5 (f+5*(k:Nat)) (show(36:Int)≠0 by decide);have a1:=hCo (f+5*(k:Nat)) (show(0:Int)<36 by decide);exact(Sm.one (qJ7 (by omega))).ok
theorem qVe(f:Int)(k:Nat):PyData.strOk (spF f k)=true:=by
 have a0:=hD5 (f+7*(k:Nat)) (show(36:Int)≠0 by decide);have a1:=hCo (f+7*(k:Nat)) (show(0:Int)<36 by decide);exact(Sm.app (λc hc=>by
  have hc:c∈[112]:=hc;rw[hAd.mp hc];decide) (Sm.one (qJ7 (by omega)))).ok
section
variable(nm spot:Nat->Str)
noncomputable def rowN(R:List (List Nat))(i k:Nat):List (Str×Str):=(List.range k).map λj=>(nm ((atR R (i,j)).getD 0),spot i)
noncomputable def scN(R:List (List Nat))(n:Nat):List (Str×Str):=(List.range n).flatMap λi=>rowN nm spot R i (lenR R i)
theorem qNw(R:List (List Nat))(n:Nat):scN nm spot R (n+1)=scN nm spot R n++rowN nm spot R n (lenR R n):=by
 unfold scN;rw[hBv,hCi];simp
theorem qQl(R:List (List Nat))(i k:Nat):rowN nm spot R i (k+1)=rowN nm spot R i k++[(nm ((atR R (i,k)).getD 0),spot i)]:=by
 unfold rowN;rw[hBv,hAf];rfl
theorem qNz(R:List (List Nat))(i k:Nat):(rowN nm spot R i k).length=k:=by unfold rowN;simp
theorem qL3(R:List (List Nat)):∀n,(scN nm spot R n).length=(qJv R n).length
 |0=>rfl
 |n+1=>by
  rw[qNw,qDg,hAk,hAk,qL3 R n,qNz];unfold endQ;rw[hA4,hB1]
theorem qIr(R:List (List Nat)):scN nm spot R R.length=(ends R).map λe=>(nm ((atR R e).getD 0),spot e.1):=by
 unfold scN ends rowN;rw[List.map_flatMap];congr 1
 funext i
 rw[hBi];rfl
theorem qI2{R:List (List Nat)}(tw:Tw R){t:Nat}(h:∃e∈ends R,atR R e=some t):∃a b,occ R t=[a,b]:=by
 obtain⟨e,he,q⟩:=h;obtain⟨f1,f2,f3,f4⟩:=qAw tw he;have nd:(occ R t).Nodup:=(qAy R).sublist hDm;have pm:(occ R t).Perm [e,farR R e]:=(hBm nd (by simp[Ne.symm f2])).mpr λu=>by
  rw[qCo];constructor
  ·rintro⟨hu,qu⟩;rcases f4 u hu (by rw[qu,q]) with z|z
   ·rw[z];simp
   ·rw[z];simp
  ·intro z;rcases hAg.mp z with z|z
   ·rw[z];exact⟨he,q⟩
   ·rw[hAd.mp z];exact⟨f1,by rw[f3,q]⟩
 have l:=pm.length_eq
 match hm:occ R t,l with
 |[a,b],_=>exact⟨a,b,rfl⟩
variable{R:List (List Nat)}{n:Nat}(gw:Gw R n)(ni:∀i<n,∀j<n,nm i=nm j->i=j)
include gw ni
theorem qWl{t:Nat}(ht:t<n):((scN nm spot R R.length).filter λu=>decide (u.1=nm t)).map (·.2)=(occ R t).map λe=>spot e.1:=by
 rw[qIr,List.filter_map,hBi];unfold occ;have:(ends R).filter ((λu:Str×Str=>decide (u.1=nm t))∘λe=>(nm ((atR R e).getD 0),spot e.1))=(ends R).filter λe=>decide (atR R e=some t):=hEk λe he=>by
  obtain⟨x,hx⟩:=qCw.mp he;have xn:=(gw.ties x).mp ⟨e,he,hx⟩;show decide (nm ((atR R e).getD 0)=nm t)=_;rw[hx];refine decide_eq_decide.mpr ⟨λz=>by rw[ni x xn t ht z],λz=>by rw[hAh z];rfl⟩
 rw[this];rfl
theorem qHv:∀p∈grp (scN nm spot R R.length),∃t<n,p.1=nm t/\p.2=((occ R t).map λe=>spot e.1)/\∃a b,p.2=[a,b]:=λp hp=>by
 have m:=hAr (f:=Prod.fst) hp;obtain⟨u,hu,e⟩:=((qCi _).2 p.1).mp m;rw[qIr]at hu;obtain⟨x,hx,rfl⟩:=hAm.mp hu;obtain⟨t,ht⟩:=qCw.mp hx;rw[ht]at e;have e:nm t=p.1:=e;have tn:=(gw.ties t).mp ⟨x,hx,ht⟩;have v:=qFw _ p hp;rw[<-e,qWl nm spot gw ni tn]at v;obtain⟨a,b,ab⟩:=qI2 gw.tw ⟨x,hx,ht⟩;exact⟨t,tn,e.symm,v,spot a.1,spot b.1,by rw[v,ab];rfl⟩
end
noncomputable def loL:List Str->Str
 |[a,b]=>if b.cps.toList<a.cps.toList then b else a
 |_=>""
noncomputable def hiL:List Str->Str
 |[a,b]=>if a.cps.toList<b.cps.toList then b else a
 |_=>""
theorem zCv(a b:Str):[loL [a,b],hiL [a,b]].Perm [a,b]:=by
 show [if b.cps.toList<a.cps.toList then b else a,if a.cps.toList<b.cps.toList then b else a].Perm [a,b];rcases qD6 a b with h|h|h
 ·have h1:=hEz h;have h2:¬b.cps.toList<a.cps.toList:=λz=>by
   have:=qCb h (hEt z);rw[qCm]at this;cases this
  rw[hEr h2,hEs h1]
 ·subst h;rw[hEr (List.lt_irrefl _)]
 ·have h1:=hEz h;have h2:¬a.cps.toList<b.cps.toList:=λz=>by
   have:=qCb h (hEt z);rw[qCm]at this;cases this
  rw[hEs h1,hEr h2];exact List.Perm.swap _ _ _
def qH5(nm spot:Nat->Str)(R:List (List Nat)):List Tr:=(grp (scN nm spot R R.length)).map λp=>(p.1,loL p.2,hiL p.2)
theorem qWd{nm spot:Nat->Str}{R:List (List Nat)}{n:Nat}(gw:Gw R n)(ni:∀i<n,∀j<n,nm i=nm j->i=j)(si:∀i<R.length,∀j<R.length,spot i=spot j->i=j){net:List Tr}(hp:net.Perm (qH5 nm spot R)) :
  Told R n spot nm (λt=>loL ((occ R t).map λe=>spot e.1)) (λt=>hiL ((occ R t).map λe=>spot e.1)) (List.range n) net:=by
 refine⟨gw,si,ni,hCt,λt=>hAw,hp.trans ?_,λt ht=>?_⟩
 ·have tp:=qHv nm spot gw ni;refine(hBm ?_ ?_).mpr λu=>?_
  ·have:=(qCi (scN nm spot R R.length)).1;unfold qH5;rw[List.Nodup,hC3]at this ⊢;exact this.imp λh q=>h (hDa q).1
  ·rw[List.Nodup,hC3];exact hCh (λha hb h q=>h (ni _ (hAw.mp ha) _ (hAw.mp hb) (congrArg Prod.fst q))) hCt
  ·unfold qH5;rw[hAm,hAm];constructor
   ·rintro⟨p,hp,rfl⟩;obtain⟨t,ht,e1,e2,_⟩:=tp p hp;exact⟨t,hAw.mpr ht,by rw[e1,e2]⟩
   ·rintro⟨t,ht,rfl⟩;have ht:=hAw.mp ht;obtain⟨e,he,q⟩:=(gw.ties t).mpr ht;have:nm t∈(grp (scN nm spot R R.length)).map (·.1):=((qCi _).2 _).mpr ⟨(nm t,spot e.1),by rw[qIr];exact hAm.mpr ⟨e,he,by rw[q];rfl⟩,rfl⟩;obtain⟨p,hp,e1⟩:=hAm.mp this;obtain⟨t',ht',e2,e3,_⟩:=tp p hp;have:=ni t ht t' ht' (e1.symm.trans e2);subst this;exact⟨p,hp,by rw[e2,e3]⟩
 ·obtain⟨e,he,q⟩:=(gw.ties t).mpr ht;obtain⟨a,b,ab⟩:=qI2 gw.tw ⟨e,he,q⟩;rw[ab];exact zCv _ _
end My
namespace L2
open PySem PySem.Spec PyProof.Rows
end L2
namespace My
open PySem L2
theorem qUu{xs:List V}{k:Nat}(h:k<=xs.length):qV7 xs (some (k:Nat)) none=xs.drop k:=by
 unfold qV7;rw[HT.sIx_nat,HT.sIx_none,Nat.min_eq_left h];exact hBw (by rw[hC8];exact hAj _)
theorem zAm{xs:List V}{k:Nat}(h:k<=xs.length):qV7 xs none (some (k:Nat))=xs.take k:=by
 unfold qV7;rw[HT.sIx_nat,HT.sIx_none,Nat.min_eq_left h,List.drop_zero,Nat.sub_zero]
def qWb(d:Addr)(H:Hp)(t:Addr)(R:List (List Nat)):Prop:=t≠d/\∃as:List Addr,H t=some (.lst (as.map V.ref))/\Paired (λa r=>H a=some (.lst (r.map nV))/\a≠d) as R
theorem GrS.turnsD{d t:Addr}{H0 H:Hp}{R:List (List Nat)}(h:GrS d t H0 H R):qWb d H t R:=by
 obtain⟨as,h1,h2,h3⟩:=h.tu;exact⟨h.td,as,h2,Paired.mapP h3 λ_ _ z=>⟨z.1,z.2.2.1⟩⟩
def qYk(H0 H:Hp)(a:Addr)(l:Str×List Str):Prop:=∃r,H a=some (.tup [.str l.1,.ref r])/\LsS H r l.2/\H0 r=none
structure TdS(d eD lsR:Addr)(H0 H:Hp)(kvs:List (Key×V))(P:List (Str×List Str))(lsA:List Addr)(L:List (Str×List Str)):Prop where
 d0:∃q:Int,H0 d=some (.lst [.int q])
 e0:H0 eD=some (.dK [])
 l0:H0 lsR=some (.lst [])
 dq:∃q:Int,H d=some (.lst [.int q])
 fr:∀b o,b≠d->b≠eD->b≠lsR->H0 b=some o->H b=some o
 he:H eD=some (.dK kvs)
 hp:PD H0 H kvs P
 hl:H lsR=some (.lst (lsA.map V.ref))
 hx:Paired (qYk H0 H) lsA L
section
variable{d eD lsR:Addr}{H0 H H1:Hp}{kvs:List (Key×V)}{P:List (Str×List Str)}{lsA:List Addr}{L:List (Str×List Str)}
theorem TdS.ext(h:TdS d eD lsR H0 H kvs P lsA L)(e:Ext H H1):TdS d eD lsR H0 H1 kvs P lsA L :=
 ⟨h.d0,h.e0,h.l0,let ⟨q,z⟩:=h.dq;⟨q,e _ _ z⟩,λb o n1 n2 n3 z=>e _ _ (h.fr b o n1 n2 n3 z),e _ _ h.he,h.hp.ext e,e _ _ h.hl,Paired.mapP h.hx λ_ _ ⟨r,q1,q2,q3⟩=>⟨r,e _ _ q1,e _ _ q2,q3⟩⟩
theorem TdS.nd(h:TdS d eD lsR H0 H kvs P lsA L):d≠eD/\d≠lsR/\eD≠lsR:=by
 obtain⟨q,z⟩:=h.d0;exact⟨λy=>(by rw[y,h.e0]at z;cases z),λy=>(by rw[y,h.l0]at z;cases z),λy=>(by have:=h.e0;rw[y,h.l0]at this;cases this)⟩
theorem qN9{c:Addr}{o0:HO}(hc:H0 c=some o0)(o:HO)(h:PD H0 H kvs P):PD H0 (upd H c o) kvs P:=Paired.mapP h λ_ _ ⟨h1,a,h2,h3,h4⟩=>⟨h1,a,h2,by
 have na:a≠c:=λz=>by rw[z,hc]at h4;cases h4
 unfold LsS;rw[qAb na];exact h3,h4⟩
theorem qOh{c:Addr}{o0:HO}(hc:H0 c=some o0)(nt:∀ys,H c≠some (.tup ys))(o:HO)(h:Paired (qYk H0 H) lsA L):Paired (qYk H0 (upd H c o)) lsA L:=Paired.mapP h λ_ _ ⟨r,q1,q2,q3⟩=>⟨r,by rw[qAb (λz=>nt _ (z▸q1))];exact q1,by
 have nr:r≠c:=λz=>by rw[z,hc]at q3;cases q3
 unfold LsS;rw[qAb nr];exact q2,q3⟩
theorem TdS.take(h:TdS d eD lsR H0 H kvs P lsA L)(q:Int):TdS d eD lsR H0 (upd H d (.lst [.int q])) kvs P lsA L:=by
 obtain⟨n1,n2,n3⟩:=h.nd;obtain⟨q0,z0⟩:=h.d0;obtain⟨q1,z1⟩:=h.dq;exact⟨h.d0,h.e0,h.l0,⟨q,upd_same⟩,λb o m1 m2 m3 z=>by rw[qAb m1];exact h.fr b o m1 m2 m3 z,by rw[qAb (Ne.symm n1)];exact h.he,qN9 z0 _ h.hp,by rw[qAb (Ne.symm n2)];exact h.hl,qOh z0 (λys y=>by rw[z1]at y;cases y) _ h.hx⟩
theorem TdS.put(h:TdS d eD lsR H0 H kvs P lsA L){kvs':List (Key×V)}{P':List (Str×List Str)}(hp':PD H0 H kvs' P'):TdS d eD lsR H0 (upd H eD (.dK kvs')) kvs' P' lsA L:=by
 obtain⟨n1,n2,n3⟩:=h.nd;obtain⟨q1,z1⟩:=h.dq;exact⟨h.d0,h.e0,h.l0,⟨q1,by rw[qAb n1];exact z1⟩,λb o m1 m2 m3 z=>by rw[qAb m2];exact h.fr b o m1 m2 m3 z,upd_same,qN9 h.e0 _ hp',by rw[qAb (Ne.symm n3)];exact h.hl,qOh h.e0 (λys y=>by rw[h.he]at y;cases y) _ h.hx⟩
theorem TdS.app(h:TdS d eD lsR H0 H kvs P lsA L){a:Addr}{l:Str×List Str}(ha:qYk H0 H a l):TdS d eD lsR H0 (upd H lsR (.lst (lsA.map V.ref++[V.ref a]))) kvs P (lsA++[a]) (L++[l]):=by
 obtain⟨n1,n2,n3⟩:=h.nd;obtain⟨q1,z1⟩:=h.dq;have nt:∀ys,H lsR≠some (.tup ys):=λys y=>by rw[h.hl]at y;cases y
 refine⟨h.d0,h.e0,h.l0,⟨q1,by rw[qAb n2];exact z1⟩,λb o m1 m2 m3 z=>by rw[qAb m3];exact h.fr b o m1 m2 m3 z,by rw[qAb n3];exact h.he,qN9 h.l0 _ h.hp,by rw[upd_same,hAf];rfl,?_⟩;exact qOh h.l0 nt _ (Paired.snc h.hx ha)
end
theorem qKy{α β:Type}(f:α->β)(l:List α)(i:Nat)(d:α):(l.map f).getD i (f d)=f (l.getD i d):=by
 rw[hAa,hAa,hAc];cases l[i]? <;> rfl
theorem qH1{α:Type}(l:List α)(d:α){o:List Nat}(p:o.Perm (List.range l.length)):(o.map λi=>l.getD i d).Perm l:=by
 refine(p.map _).trans (List.Perm.of_eq ?_);refine List.ext_getElem (by simp) λi h1 h2=>?_
 rw[hEa,List.getElem_range,hAa,hA8 h2];rfl
theorem qFp{β:Type}{F:Addr->β->Prop}{as:List Addr}{bs:List β}(pr:Paired F as bs)(d:β):∀ {o:List Nat},(∀i∈o,i<as.length)->Paired F (o.map λi=>as.getD i 0) (o.map λi=>bs.getD i d)
 |[],_=>.nil
 |i :: o,h=>by
  have hi:=h i hAb;obtain⟨b,hb,hF⟩:=qAo pr (hA8 hi);refine .cons ?_ (qFp pr d λj hj=>h j (hAe _ hj));have e1:as.getD i 0=as[i]:=by rw[hAa,hA8 hi];rfl
  have e2:bs.getD i d=b:=by rw[hAa,hb];rfl
  show F (as.getD i 0) (bs.getD i d);rw[e1,e2];exact hF
theorem qKd{ks:List Str}(nd:ks.Nodup){o:List Nat}{n:Nat}(hn:ks.length=n)(p:o.Perm (List.range n))(h:∀i j,i<j->j<n->qHn (ks.getD (o.getD j 0) "") (ks.getD (o.getD i 0) "")=false):qIh (o.map λi=>ks.getD i ""):=by
 have lo:o.length=n:=by rw[p.length_eq,hB1]
 have ndo:o.Nodup:=p.nodup_iff.mpr hCt;refine List.pairwise_iff_getElem.mpr λi j hi hj hij=>?_
 rw[hA4]at hi hj;have q:=h i j hij (by omega);have gi:o.getD i 0=o[i]:=by rw[hAa,hA8 hi];rfl
 have gj:o.getD j 0=o[j]:=by rw[hAa,hA8 hj];rfl
 rw[gi,gj]at q;rw[hEa,hEa];have li:o[i] < ks.length:=by rw[hn];exact hAw.mp (p.mem_iff.mp (hBy hi))
 have lj:o[j] < ks.length:=by rw[hn];exact hAw.mp (p.mem_iff.mp (hBy hj))
 rcases qD6 (ks.getD o[i] "") (ks.getD o[j] "") with z|z|z
 ·exact z
 ·exfalso;rw[hAa,hAa,hA8 li,hA8 lj]at z;have e1:=qGe nd (hA8 li) (by rw[hA8 lj];exact congrArg some z.symm);have e2:i=j:=(List.getElem_inj ndo).mp e1;omega
 ·rw[q]at z;cases z
structure LOk(net:List Tr)(L:List (Str×List Str)):Prop where
 ok:NetOk net
 rise:qIh (L.map (·.1))
 rnd:Rnd net (L.map (·.1)) (L.map (·.2))
 flat:qLv (L.map (·.2))
 few:L.length<=16
 row:∀l∈L,l.2≠[]/\l.2.length<=24
def qU7:Sp:=λvs H Q _=>∃(d t:Addr) (q:Int) (R:List (List Nat)) (n:Nat),vs=[.ref d,.ref t,.int (n:Nat)]/\H d=some (.lst [.int q])/\qWb d H t R/\Gw R n/\n<=12/\R.length<=16/\(ends R).length=2*n /\
 ∀(T N M:Addr) (H':Hp) (net:List Tr) (L:List (Str×List Str)),Dr d H H'->H T=none->H' T=some (.tup [.ref N,.ref M])->qEl H' N net->qF4 H' M L->LOk net L->Q (.ref T) H'
section
variable{P:Program}{w:World}{K:PySem.W.Frag}{mg:Str->Option Value}{base:Heap}{f f1 f2 f3 f4:Addr}{fd fd1 fd2 fd3 fd4:FuncData}
noncomputable abbrev tdN:List Str:=["_law_draw","_law_turns","_law_count","_law_signs","_law_first","_law_spots","_law_ties","_law_ends","_law_lists","_law_point","_law_tie","_law_turn","_law_some"]
theorem qDv:FnScope tdN ["_law_draw","_law_turns","_law_count"] (qAc qL4):=fsk
theorem qHh:bootBuiltins "min"=some (.builtin "min"):=by decide +kernel
theorem qHi:bootBuiltins "max"=some (.builtin "max"):=by decide +kernel
def zCs(K:PySem.W.Frag):List V->Hp->VK->Prop:=λxs H Q=>∃(p:Addr) (a b:Str),xs=[.ref p]/\SqL K H p [.str a,.str b]/\Q (.str (if b.cps.toList<a.cps.toList then b else a)) H
def zCr(K:PySem.W.Frag):List V->Hp->VK->Prop:=λxs H Q=>∃(p:Addr) (a b:Str),xs=[.ref p]/\SqL K H p [.str a,.str b]/\Q (.str (if a.cps.toList<b.cps.toList then b else a)) H
theorem qXb(F:Fun K "_law_told" "_law_told" qL4 f fd)(G1:Cl P w K mg base CX0 1 f1 fd1 ["_law_draw","_law_many"] qNk "_law_take")
  (mr:mg "range"=none) (ml:mg "len"=none) (mso:mg "sorted"=none) (mmi:mg "min"=none) (mma:mg "max"=none):FnOk P w K mg base CX0 2 f fd ["_law_draw","_law_turns","_law_count"] qU7:=by
 refine F.okA qDv λcdv A outer s H vs Q E hr h=>?_
 obtain⟨d,t,q0,R,n,rfl,hd,⟨ntd,as,ht,pr⟩,gw,n12,lR,lE,Q0⟩:=h;refine⟨_,qAa (qAr (i:=3) qDv.nd rfl (Or.inr rfl) qKh)
  (qAa (qAr (i:=4) qDv.nd rfl (Or.inr rfl) (qBf G1 hr rfl .nil qBg (qAe (pv 0) (pa1 qAk))))
  (qAa (qZj (i:=5) (N:=tdN) (sc:=qAc qL4) (N':=["_law_k","_law_signs","_law_first"]) (sub:=[none,some 3,some 4]) (qBz rfl mr (pa1 (qAh qAj rfl ml hBd (pa1 (pv 1))))) (λC s H fp=>⟨qBk,qA5 qPc qKh (qAt qV1 (pv 1) (qA5 qEa (qA5 qCq (pv 2) (qA5 qEz qAk (pv 0))) qAk) (λ_ _=>rfl))⟩) qDv.nd rfl (Or.inl rfl))
  (qAa (qAr (i:=6) qDv.nd rfl (Or.inr rfl) (qKi (N:=tdN) (sc:=qAc qL4) (N':=["_law_k","_law_signs","_law_first"]) (sub:=[none,some 3,some 4]) (qBz rfl mr (pa1 (pv 2))) (λC s H fp=>⟨qBk,qAt qV1 (pv 1) (qA5 qEa (qA5 qCq (pv 2) (qA5 qEz qAk (pv 0))) qAk) (λ_ _=>rfl)⟩)))
  (qAa (qAr (i:=7) qDv.nd rfl (Or.inr rfl) qEy)
  (qAa (qAr (i:=8) qDv.nd rfl (Or.inl rfl) (qBo qC3))
  (qAa (qB3 PassesOwn.never rfl (qBz rfl mr (pa1 (qAh qAj rfl ml hBd (pa1 (pv 1))))) (qAf (i:=9) qDv.nd rfl (Or.inl rfl))
   (qAa (qB3 PassesOwn.never rfl (qA1 (qAt qAm (pv 1) (pv 9) (λ_ _=>rfl))) (qAf (i:=10) qDv.nd rfl (Or.inl rfl))
    (qAi (qDi (qCh hr) (pv 7) (qAt qAm (pv 6) (pv 10) (λ_ _=>rfl)) (qA5 qE1 (qGd (qCh hr) (pv 7) (qAt qAm (pv 6) (pv 10) (λ_ _=>rfl)) (qBo qC3) ⟨rfl,rfl,rfl,rfl⟩) (qBo (pa1 (qAt qAm (pv 5) (pv 9) (λ_ _=>rfl))))) rfl)))
   (qAa (qAr (i:=11) qDv.nd rfl (Or.inl rfl) (qBf G1 hr rfl .nil qBg (qAe (pv 0) (pa1 (qAh qAj rfl ml hBd (pa1 (qAt qAm (pv 1) (pv 9) (λ_ _=>rfl))))))))
   (qAa (qAr (i:=12) qDv.nd rfl (Or.inl rfl) (qA5 qE1 (qN8 qP8 (qAt qAm (pv 1) (pv 9) (λ_ _=>rfl)) (qQz (pv 11)) qQ0) (qN8 qP8 (qAt qAm (pv 1) (pv 9) (λ_ _=>rfl)) qQ0 (qQz (pv 11)))))
   (qAi (qDa (qF8 hBo hE1 hE2 qE3 (pv 8) (pa1 (qB4 (qAe (qAt qAm (pv 5) (pv 9) (λ_ _=>rfl)) (pa1 (qKi (N:=tdN) (sc:=qAc qL4) (N':=["_law_tie","_law_ties"]) (sub:=[none,some 6]) (qA1 (pv 12)) (λC s H fp=>⟨qBk,qAt (show IxR _ (qWw K) from qAm) (pv 1) (pv 0) (λ_ _=>rfl)⟩)))))))))))))
  (qAi (qA2 (qB4 (qAe (qAh qFd rfl mso qBi (pa1 (qKi (N:=tdN) (sc:=qAc qL4) (N':=["_law_tie","_law_ends"]) (sub:=[none,some 7]) (qW1 (pv 7)) (λC s H fp=>⟨qBk,qB4 (qAe (pv 0) (qAe (qAh (show qCa _ _ (zCs K) from qSx rfl) rfl mmi qHh (pa1 (qCv (qCh hr) (pv 1) (pv 0) (λ_ _=>rfl)))) (pa1 (qAh (show qCa _ _ (zCr K) from qSy rfl) rfl mma qHi (pa1 (qCv (qCh hr) (pv 1) (pv 0) (λ_ _=>rfl)))))))⟩)))) (pa1 (qAh qFd rfl mso qBi (pa1 (pv 8)))))))))))))),?_⟩
 refine⟨_,rfl,d,q0,36,rfl,hd,by decide,by decide,λq1 fi f0 f1=>?_⟩;have dr1:Dr d H (upd H d (.lst [.int q1])):=(Dr.refl hd).take q1;revert dr1;generalize upd _ _ _=H1;intro dr1;have lA:as.length=R.length:=pr.length;have kp:∀ {H':Hp},Dr d H H'->H' t=some (.lst (as.map V.ref))/\Paired (λa r=>H' a=some (.lst (r.map nV))/\a≠d) as R:=λx=>⟨x.2 _ _ ntd ht,Paired.mapP pr λ_ _ z=>⟨x.2 _ _ z.2 z.1,z.2⟩⟩
 have mem36:∀m k:Nat,0<=(fi+(m:Nat)*(k:Nat)) % 36/\(fi+(m:Nat)*(k:Nat)) % 36<36:=λm k=>⟨hD5 _ (by decide),hCo _ (by decide)⟩
 refine⟨_,rfl,t,_,rfl,.inl (SqL.of (kp dr1).1),_,rfl,by rw[hA4];omega,by rw[hA4];omega,?_⟩;rw[hB8,hA4,lA];refine qDh (λj ys H2=>H2=H1/\ys=((List.range j).map (spF fi)).map V.str) ⟨rfl,rfl⟩ ?_ ?_
 ·rintro j ys H2 hj ⟨rfl,rfl⟩;rw[hDt];obtain⟨c1,c2⟩:=mem36 7 j;refine⟨sls,iteT (B:=False) ⟨_,rfl,_,rfl,_,rfl,_,_,rfl,rfl,.inl ⟨by decide,by decide⟩,_,_,rfl,rfl,_,_,rfl,rfl,(by show(0:Int)<_;decide),sg,_,_,rfl,rfl,by decide +kernel,qY2 c1 c2,"p",_,rfl,rfl,(by show 2<=sizeLine;decide),?_,nxt hj ⟨rfl,?_⟩⟩⟩
  ·rw[hA4,hA4,hB1];exact qAd (by omega)
  ·rw[hBv,hAf,hAf];rfl
 rintro ys H2 ⟨rfl,rfl⟩ spA hspA;have dr2:=dr1.ext (Ext.new hspA (.lst (((List.range R.length).map (spF fi)).map V.str)));have hsp2:LsS (upd H2 spA (.lst (((List.range R.length).map (spF fi)).map V.str))) spA ((List.range R.length).map (spF fi)):=upd_same;have nsp:=dr1.ne hspA;revert dr2 hsp2;generalize upd _ _ _=H3;intro dr2 hsp2;refine⟨_,rfl,_,rfl,by omega,by omega,?_⟩;rw[hB8];refine qDh (λj ys H2=>H2=H3/\ys=((List.range j).map (tiF fi)).map V.str) ⟨rfl,rfl⟩ ?_ ?_
 ·rintro j ys H2 hj ⟨rfl,rfl⟩;rw[hDt];obtain⟨c1,c2⟩:=mem36 5 j;refine⟨sls,iteT (B:=False) ⟨_,rfl,_,rfl,_,rfl,_,_,rfl,rfl,.inl ⟨by decide,by decide⟩,_,_,rfl,rfl,_,_,rfl,rfl,(by show(0:Int)<_;decide),sg,_,_,rfl,rfl,by decide +kernel,qY2 c1 c2,?_,nxt hj ⟨rfl,?_⟩⟩⟩
  ·rw[hA4,hA4,hB1];exact qAd (by omega)
  ·rw[hBv,hAf,hAf];rfl
 rintro ys H2 ⟨rfl,rfl⟩ tiA htiA;have x4:=Ext.new htiA (.lst (((List.range n).map (tiF fi)).map V.str));have dr4:=dr2.ext x4;have hti4:LsS (upd H2 tiA (.lst (((List.range n).map (tiF fi)).map V.str))) tiA ((List.range n).map (tiF fi)):=upd_same;have hsp4:LsS (upd H2 tiA (.lst (((List.range n).map (tiF fi)).map V.str))) spA ((List.range R.length).map (spF fi)):=x4 _ _ hsp2;have nti:=dr2.ne htiA;revert dr4 hti4 hsp4;generalize upd _ _ _=H4;intro dr4 hti4 hsp4 eD heD;have x5:=Ext.new heD (.dK []);refine⟨(by show 0<=sizeLine;exact hAy _),λlsR hlsR=>?_⟩;have x6:=Ext.new hlsR (.lst []);have dr6:=(dr4.ext x5).ext x6;have heD0:=dr4.none heD;have hls0:=(dr4.ext x5).none hlsR;have hsp6:LsS (upd (upd H4 eD (.dK [])) lsR (.lst [])) spA ((List.range R.length).map (spF fi)):=(x5.trans x6) _ _ hsp4;have hti6:LsS (upd (upd H4 eD (.dK [])) lsR (.lst [])) tiA ((List.range n).map (tiF fi)):=(x5.trans x6) _ _ hti4;have nsl:spA≠lsR:=λz=>by rw[<-z,x5 _ _ hsp4]at hlsR;cases hlsR
 have ntl:tiA≠lsR:=λz=>by rw[<-z,x5 _ _ hti4]at hlsR;cases hlsR
 have nse:spA≠eD:=λz=>by rw[<-z]at heD;unfold LsS at hsp4;rw[hsp4]at heD;cases heD
 have nte:tiA≠eD:=λz=>by rw[<-z]at heD;unfold LsS at hti4;rw[hti4]at heD;cases heD
 have td0:TdS d eD lsR (upd (upd H4 eD (.dK [])) lsR (.lst [])) (upd (upd H4 eD (.dK [])) lsR (.lst [])) [] [] [] []:=by
  have he6:upd (upd H4 eD (.dK [])) lsR (.lst []) eD=some (.dK []):=x6 _ _ upd_same;exact⟨dr6.1,he6,upd_same,dr6.1,λb o _ _ _ z=>z,he6,.nil,upd_same,.nil⟩
 revert dr6 hsp6 hti6 td0;generalize upd _ _ _=H6;intro dr6 hsp6 hti6 td0;obtain⟨ht6,pr6⟩:=kp dr6;have keepD:∀ {kvs:List (Key×V)} {P:List (Str×List Str)} {lsA:List Addr} {L:List (Str×List Str)} {H':Hp},TdS d eD lsR H6 H' kvs P lsA L->Dr d H H':=λx=>⟨x.dq,λb o nb z=>x.fr b o nb (λy=>by rw[y,heD0]at z;cases z) (λy=>by rw[y,hls0]at z;cases z) (dr6.2 b o nb z)⟩
 have keepS:∀ {kvs:List (Key×V)} {P:List (Str×List Str)} {lsA:List Addr} {L:List (Str×List Str)} {H':Hp},TdS d eD lsR H6 H' kvs P lsA L->LsS H' spA ((List.range R.length).map (spF fi)):=λx=>x.fr _ _ nsp nse nsl hsp6
 have keepT:∀ {kvs:List (Key×V)} {P:List (Str×List Str)} {lsA:List Addr} {L:List (Str×List Str)} {H':Hp},TdS d eD lsR H6 H' kvs P lsA L->LsS H' tiA ((List.range n).map (tiF fi)):=λx=>x.fr _ _ nti nte ntl hti6
 have lS:(scN (tiF fi) (spF fi) R R.length).length=2*n:=by rw[qL3];exact lE
 have scle:∀i,i<=R.length->(scN (tiF fi) (spF fi) R i).length<=2*n:=λi hi=>by rw[qL3,<-lE];exact qMz hi
 have rowlt:∀ {i j:Nat} {t:Nat},atR R (i,j)=some t->t<n:=λ{i j t} h=>(gw.ties t).mp ⟨(i,j),qCw.mpr ⟨t,h⟩,h⟩
 have l24:∀j,lenR R j<=24:=λj=>hBa (qRu R j) (by omega)
 refine⟨_,rfl,t,_,rfl,.inl (SqL.of ht6),_,rfl,by rw[hA4];omega,by rw[hA4];omega,?_⟩;rw[hB8,hA4,lA];refine qCs (λi σ H7=>∃(x9 xa xb xc:Option V) (kvs:List (Key×V)) (lsA:List Addr) (k:Nat->Nat),σ=[some (.ref d),some (.ref t),some (.int (n:Nat)),some (.str sg),some (.int fi),some (.ref spA),some (.ref tiA),some (.ref eD),some (.ref lsR),x9,xa,xb,xc]/\TdS d eD lsR H6 H7 kvs (grp (scN (tiF fi) (spF fi) R i)) lsA ((List.range i).map λj=>(spF fi j,(qCu R k j).map (tiF fi)))/\∀j,j<i->k j<=lenR R j)
  ⟨_,_,_,_,[],[],λ_=>0,rfl,td0,λj h=>absurd h (hD6 j)⟩ ?_ ?_
 ·rintro i σ H7 hi ⟨x9,xa,xb,xc,kvs,lsA,k,rfl,td7,hk⟩;rw[hDt];have hia:i<as.length:=by rw[lA];exact hi
  obtain⟨ht7,pr7⟩:=kp (keepD td7);obtain⟨row,hrow,hra,_⟩:=qAo pr7 (hA8 hia);have er:qAx R i=row:=by unfold qAx;rw[hAa,hrow];rfl
  have elen:lenR R i=row.length:=by unfold lenR;rw[er]
  have atA:atI (as.map V.ref) ((i:Nat):Int)=some (.ref as[i]):=qAq (by rw[hAc,hA8 hia];rfl);have atS:atI (((List.range R.length).map (spF fi)).map V.str) ((i:Nat):Int)=some (.str (spF fi i)):=qAq (by rw[hAc,hAc,hCb hi];rfl);have l24i:=l24 i;refine⟨_,rfl,_,rfl,t,_,_,_,rfl,rfl,SqL.of ht7,atA,as[i],rfl,⟨_,SqL.of hra⟩,?_⟩;refine qC6 (xs:=row.map nV) (λj σ H8=>∃(xa:Option V) (kvs:List (Key×V)),σ=[some (.ref d),some (.ref t),some (.int (n:Nat)),some (.str sg),some (.int fi),some (.ref spA),some (.ref tiA),some (.ref eD),some (.ref lsR),some (.int (i:Nat)),xa,xb,xc]/\TdS d eD lsR H6 H8 kvs (grp (scN (tiF fi) (spF fi) R i++rowN (tiF fi) (spF fi) R i j)) lsA ((List.range i).map λj=>(spF fi j,(qCu R k j).map (tiF fi))))
   ⟨_,kvs,rfl,by rw[show rowN (tiF fi) (spF fi) R i 0=[] from rfl,hBr];exact td7⟩ ?_ ?_ ?_
  ·rintro j σ H8 _ ⟨_,_,_,td8⟩;obtain⟨_,pr8⟩:=kp (keepD td8);obtain⟨row',hrow',hra',_⟩:=qAo pr8 (hA8 hia);rw[hrow]at hrow';cases hAh hrow';exact SqL.of hra'
  ·rintro j x σ H8 hx ⟨xa,kvs,rfl,td8⟩;obtain⟨tv,htv,rfl⟩:∃tv,row[j]?=some tv/\nV tv=x:=by
    rw[hAc]at hx;cases e:row[j]? with
    |none=>rw[e]at hx;cases hx
    |some y=>rw[e]at hx;exact⟨y,rfl,hAh hx⟩
   have qa:atR R (i,j)=some tv:=by unfold atR;rw[er];exact htv
   have tn:=rowlt qa;have hj:j<row.length:=qBj htv;have atT:atI (((List.range n).map (tiF fi)).map V.str) ((tv:Nat):Int)=some (.str (tiF fi tv)):=qAq (by rw[hAc,hAc,hCb tn];rfl);have ll:(scN (tiF fi) (spF fi) R i++rowN (tiF fi) (spF fi) R i j).length<=48:=by
    rw[hAk,qNz];have:=scle i (by omega);omega
   have lg:=qR9 (scN (tiF fi) (spF fi) R i++rowN (tiF fi) (spF fi) R i j);have lgs:=qKx (scN (tiF fi) (spF fi) R i++rowN (tiF fi) (spF fi) R i j);have lkv:kvs.length<=48:=by rw[td8.hp.length];omega
   have snoc:=qE7 (scN (tiF fi) (spF fi) R i++rowN (tiF fi) (spF fi) R i j) (tiF fi tv,spF fi i);have rs:rowN (tiF fi) (spF fi) R i (j+1)=rowN (tiF fi) (spF fi) R i j++[(tiF fi tv,spF fi i)]:=by rw[qQl,qa];rfl
   rw[hCk,<-rs]at snoc;have gkn:=(qCi (scN (tiF fi) (spF fi) R i++rowN (tiF fi) (spF fi) R i j)).1;have gvl:=qFw (scN (tiF fi) (spF fi) R i++rowN (tiF fi) (spF fi) R i j);revert td8 lg lgs snoc gkn gvl;generalize grp (scN (tiF fi) (spF fi) R i++rowN (tiF fi) (spF fi) R i j)=PP;intro td8 lg lgs snoc gkn gvl;have hti8:=keepT td8;have hsp8:=keepS td8;refine⟨_,rfl,eD,rfl,.inl ⟨kvs,.inl td8.he⟩,_,rfl,_,rfl,tiA,_,_,_,rfl,rfl,SqL.of hti8,atT,hAy _,λl0 hl0=>?_⟩;have m0:=Ext.new hl0 (.lst []);refine⟨_,qD3.k (k:=Sum.inr (tiF fi tv)) (m0 _ _ td8.he),?_⟩;refine⟨_,rfl,_,rfl,spA,_,_,_,rfl,rfl,SqL.of (m0 _ _ hsp8),atS,(by show 1<=sizeLine;decide),λl1 hl1=>?_⟩;have m1:=m0.trans (Ext.new hl1 (.lst [V.str (spF fi i)]));by_cases m:tiF fi tv∈PP.map (·.1)
   ·obtain⟨pp,hpp,ep,lv,ev,hlv⟩:=td8.hp.some m;have lz:=lgs pp hpp;unfold qG7 at snoc;rw[hEs (show(tiF fi tv,_).1∈_ from m)]at snoc;refine⟨lv,l1,_,_,by rw[ev];rfl,rfl,m1 _ _ hlv,upd_same,?_,λl2 hl2=>?_⟩
    ·rw[hA4];show _+1<=sizeLine;exact hBz (qAd (by omega))
    have m2:=m1.trans (Ext.new hl2 (.lst (pp.2.map V.str++[V.str (spF fi i)])));have td9:=td8.ext m2;have l20:H6 l2=none:=by
     cases z:H6 l2 with
     |none=>rfl
     |some o =>
      exfalso;have:∃o',H8 l2=some o':=by
       by_cases n1:l2=d
       ·rw[n1];obtain⟨q,y⟩:=td8.dq;exact⟨_,y⟩
       ·by_cases n2:l2=eD
        ·rw[n2];exact⟨_,td8.he⟩
        ·by_cases n3:l2=lsR
         ·rw[n3];exact⟨_,td8.hl⟩
         ·exact⟨_,td8.fr l2 o n1 n2 n3 z⟩
      obtain⟨o',y⟩:=this;have:=m1 _ _ y;rw[this]at hl2;cases hl2
    have hl2':LsS (upd (upd (upd H8 l0 (.lst [])) l1 (.lst [V.str (spF fi i)])) l2 (.lst (pp.2.map V.str++[V.str (spF fi i)]))) l2 (pp.2++[spF fi i]):=by unfold LsS;rw[upd_same,hAf];rfl
    refine⟨_,rfl,_,rfl,_,rfl,tiA,_,_,_,rfl,rfl,SqL.of (m2 _ _ hti8),atT,eD,_,rfl,qJx.k (k:=Sum.inr (tiF fi tv)) td9.he (qAd (by omega)),?_⟩;refine⟨_,qCz kvs (Sum.inr (tiF fi tv)) (.ref l2),rfl,?_⟩;rw[snoc];have pk:qCz kvs (Sum.inr (tiF fi tv)) (.ref l2)=kvs.map λkv=>if kv.1=Sum.inr (tiF fi tv) then (kv.1,V.ref l2) else kv:=by
     unfold qCz;rw[qCl,ev,hEe,hEs rfl]
    rw[pk];refine td9.put (PD.put (old:=pp.2) hl2' l20 td9.hp gkn λp' hp' ep'=>?_);rw[gvl p' hp',gvl pp hpp,ep',ep]
   ·have ev:=td8.hp.none m;unfold qG7 at snoc;rw[hEr (show ¬(tiF fi tv,_).1∈_ from m)]at snoc;refine⟨l0,l1,[],_,by rw[ev];rfl,rfl,(Ext.new hl1 _) _ _ upd_same,upd_same,(by show 1<=sizeLine;decide),λl2 hl2=>?_⟩;have m2:=m1.trans (Ext.new hl2 (.lst ([]++[V.str (spF fi i)])));have td9:=td8.ext m2;have l20:H6 l2=none:=by
     cases z:H6 l2 with
     |none=>rfl
     |some o =>
      exfalso;have:∃o',H8 l2=some o':=by
       by_cases n1:l2=d
       ·rw[n1];obtain⟨q,y⟩:=td8.dq;exact⟨_,y⟩
       ·by_cases n2:l2=eD
        ·rw[n2];exact⟨_,td8.he⟩
        ·by_cases n3:l2=lsR
         ·rw[n3];exact⟨_,td8.hl⟩
         ·exact⟨_,td8.fr l2 o n1 n2 n3 z⟩
      obtain⟨o',y⟩:=this;have:=m1 _ _ y;rw[this]at hl2;cases hl2
    refine⟨_,rfl,_,rfl,_,rfl,tiA,_,_,_,rfl,rfl,SqL.of (m2 _ _ hti8),atT,eD,_,rfl,qJx.k (k:=Sum.inr (tiF fi tv)) td9.he (qAd (by omega)),?_⟩;refine⟨_,qCz kvs (Sum.inr (tiF fi tv)) (.ref l2),rfl,?_⟩;rw[snoc,qCn _ ev];exact td9.put (Paired.snc td9.hp ⟨rfl,l2,rfl,upd_same,l20⟩)
  ·rintro σ H8 ⟨xa,kvs,rfl,td8⟩;rw[hA4,<-elen,<-qNw]at td8;obtain⟨ht8,pr8⟩:=kp (keepD td8);obtain⟨row',hrow',hra8,_⟩:=qAo pr8 (hA8 hia);rw[hrow]at hrow';cases hAh hrow';obtain⟨q8,hd8⟩:=td8.dq;have pos:0<row.length:=by rw[<-elen];exact gw.full i hi
   refine⟨_,rfl,_,rfl,_,rfl,t,_,_,_,rfl,rfl,SqL.of ht8,atA,as[i],_,rfl,.inl (SqL.of hra8),d,q8,_,rfl,hd8,by rw[hA4];omega,by rw[hA4];omega,λq9 tu u0 u1=>?_⟩;obtain⟨ku,rfl⟩:=hCc u0;rw[hA4]at u1;have hku:ku<=row.length:=by omega
   have hku':ku<=(row.map nV).length:=by rw[hA4];exact hku
   have td9:=td8.take q9;revert td9;generalize upd _ _ _=H9;intro td9;obtain⟨ht9,pr9⟩:=kp (keepD td9);obtain⟨row',hrow',hra9,_⟩:=qAo pr9 (hA8 hia);rw[hrow]at hrow';cases hAh hrow';refine⟨_,rfl,_,rfl,t,_,_,_,rfl,rfl,SqL.of ht9,atA,_,rfl,_,rfl,as[i],_,rfl,SqL.of hra9,λs1 hs1=>?_⟩;rw[qUu hku'];have xa1:=Ext.new hs1 (.lst ((row.map nV).drop ku));refine⟨_,rfl,_,rfl,t,_,_,_,rfl,rfl,SqL.of (xa1 _ _ ht9),atA,_,rfl,_,rfl,as[i],_,rfl,SqL.of (xa1 _ _ hra9),λs2 hs2=>?_⟩;rw[zAm hku'];have xa2:=Ext.new hs2 (.lst ((row.map nV).take ku));refine⟨s1,s2,_,_,rfl,rfl,xa2 _ _ upd_same,upd_same,?_,λs3 hs3=>?_⟩
   ·rw[hC8,hB2,hA4];exact hBz (qAd (by omega))
   have xa3:=Ext.new hs3 (.lst ((row.map nV).drop ku++(row.map nV).take ku));have td10:=td9.ext ((xa1.trans xa2).trans xa3);have hs3':upd (upd (upd H9 s1 (.lst ((row.map nV).drop ku))) s2 (.lst ((row.map nV).take ku))) s3 (.lst ((row.map nV).drop ku++(row.map nV).take ku)) s3=some (.lst ((row.drop ku++row.take ku).map nV)):=by rw[upd_same,hAf,List.map_drop,List.map_take]
   revert td10 hs3';generalize upd _ _ _=Ha;intro td10 hs3';have atSp:=keepS td10;have atTi:=keepT td10;have rown:∀x∈row.drop ku++row.take ku,x<n:=λx hx=>by
    have m:x∈row:=by
     rcases hAp.mp hx with z|z
     ·exact hEl z
     ·exact hDf z
    obtain⟨j,hj,e⟩:=hCx m;exact rowlt (i:=i) (j:=j) (by unfold atR;rw[er,hA8 hj,e])
   have lsm:(row.drop ku++row.take ku).length<=24:=by
    rw[hAk,hC8,hB2];omega
   have hLen:=td10.hx.length;rw[hA4,hB1]at hLen;refine⟨_,rfl,.inl ⟨rfl,_,SqL.of td10.hl⟩,_,rfl,_,rfl,spA,_,_,_,rfl,rfl,SqL.of atSp,atS,_,rfl,s3,rfl,⟨_,SqL.of hs3'⟩,?_⟩;refine qA0 (xs:=(row.drop ku++row.take ku).map nV) (λj ys H2=>H2=Ha/\ys=(((row.drop ku++row.take ku).take j).map (tiF fi)).map V.str) ⟨rfl,rfl⟩ (λj ys H2 _ h=>by rw[h.1];exact SqL.of hs3') ?_ ?_
   ·rintro j x ys H2 hx ⟨rfl,rfl⟩;obtain⟨tv,htv,rfl⟩:∃tv,(row.drop ku++row.take ku)[j]?=some tv/\nV tv=x:=by
     rw[hAc]at hx;cases e:(row.drop ku++row.take ku)[j]? with
     |none=>rw[e]at hx;cases hx
     |some y=>rw[e]at hx;exact⟨y,rfl,hAh hx⟩
    have tn:=rown tv (hAs htv);have atT:atI (((List.range n).map (tiF fi)).map V.str) ((tv:Nat):Int)=some (.str (tiF fi tv)):=qAq (by rw[hAc,hAc,hCb tn];rfl);refine⟨sls,iteT (B:=False) ⟨_,rfl,_,rfl,tiA,_,_,_,rfl,rfl,SqL.of atTi,atT,?_,nxt (qBj hx) ⟨rfl,?_⟩⟩⟩
    ·rw[hA4,hA4,hB2];exact qAd (by omega)
    ·rw[qAl htv,hAf,hAf];rfl
   rintro ys H2 ⟨rfl,rfl⟩ s4 hs4;rw[hA4,hBh];have xb1:=Ext.new hs4 (.lst (((row.drop ku++row.take ku).map (tiF fi)).map V.str));refine⟨(by show 2<=sizeLine;decide),λT hT=>?_⟩;have xb2:=Ext.new hT (.tup [V.str (spF fi i),V.ref s4]);have td11:=td10.ext (xb1.trans xb2);have h60:H6 s4=none:=by
    cases z:H6 s4 with
    |none=>rfl
    |some o =>
     exfalso;have:∃o',H2 s4=some o':=by
      by_cases n1:s4=d
      ·rw[n1];obtain⟨q,y⟩:=td10.dq;exact⟨_,y⟩
      ·by_cases n2:s4=eD
       ·rw[n2];exact⟨_,td10.he⟩
       ·by_cases n3:s4=lsR
        ·rw[n3];exact⟨_,td10.hl⟩
        ·exact⟨_,td10.fr s4 o n1 n2 n3 z⟩
     obtain⟨o',y⟩:=this;rw[y]at hs4;cases hs4
   have hl4:qYk H6 (upd (upd H2 s4 (.lst (((row.drop ku++row.take ku).map (tiF fi)).map V.str))) T (.tup [V.str (spF fi i),V.ref s4])) T (spF fi i,(row.drop ku++row.take ku).map (tiF fi)):=⟨s4,upd_same,xb2 _ _ upd_same,h60⟩;refine⟨lsR,_,_,rfl,rfl,td11.hl,by rw[hA4,hLen];exact qAd (by omega),?_⟩;refine⟨_,_,_,_,kvs,lsA++[T],λj=>if j=i then ku else k j,rfl,?_,λj hj=>?_⟩
   ·have e:(List.range (i+1)).map (λj=>(spF fi j,(qCu R (λj=>if j=i then ku else k j) j).map (tiF fi)))=(List.range i).map (λj=>(spF fi j,(qCu R k j).map (tiF fi)))++[(spF fi i,(row.drop ku++row.take ku).map (tiF fi))]:=by
     rw[hBv,hAf];congr 1
     ·refine hC9 λj hj=>?_
      have ne:j≠i:=hAt (hAw.mp hj);unfold qCu;simp only[ne,hFg]
     ·show [_]=[_];unfold qCu;simp only[hG3,er]
    rw[e];exact td11.app hl4
   ·by_cases z:j=i
    ·simp only[z,hG3];rw[elen];exact hku
    ·simp only[z,hFg];exact hk j (by omega)
 ·rintro σ H7 ⟨x9,xa,xb,xc,kvs,lsA,k,rfl,td7,hk⟩;have tp:=qHv (tiF fi) (spF fi) gw (λi hi j hj e=>qPz (by omega) (by omega) e);have ln:(grp (scN (tiF fi) (spF fi) R R.length)).length<=24:=by
   have:=qR9 (scN (tiF fi) (spF fi) R R.length);omega
  have lkv:=td7.hp.length;refine⟨_,rfl,eD,kvs,rfl,td7.he,λo=>?_⟩;have hpF:=qN9 td7.e0 (.frz o (.dK kvs)) td7.hp;have hxF:=qOh td7.e0 (λys y=>by rw[td7.he]at y;cases y) (.frz o (.dK kvs)) td7.hx;obtain⟨nd1,nd2,nd3⟩:=td7.nd;have hlF:upd H7 eD (.frz o (.dK kvs)) lsR=some (.lst (lsA.map V.ref)):=by rw[qAb (Ne.symm nd3)];exact td7.hl
  have drF:Dr d H (upd H7 eD (.frz o (.dK kvs))):=(keepD td7).over heD0 (Ne.symm nd1) _;have heF:upd H7 eD (.frz o (.dK kvs)) eD=some (.frz o (.dK kvs)):=upd_same;revert hpF hxF hlF drF heF;generalize upd _ _ _=HF;intro hpF hxF hlF drF heF;refine qOy (λj ys H8=>Ext HF H8/\∃cs:List Addr,ys=cs.map V.ref/\Paired (λa t=>H8 a=some (.tup (trV t))) cs ((qH5 (tiF fi) (spF fi) R).take j)) ⟨Ext.refl _,[],rfl,.nil⟩ (λj ys H8 _ h=>h.1 _ _ heF) ?_ ?_
  ·rintro j kv ys H8 hkv ⟨e8,cs,rfl,pc⟩;obtain⟨pp,hpp,k1,a,ev,hla,_⟩:=qAo hpF hkv;obtain⟨tt,htt,ep1,ep2,c1,c2,ec⟩:=tp pp (hAs hpp);rw[ec]at hla;have hla8:=e8 _ _ hla;have vk:valV kvs (Sum.inr pp.1)=some (.ref a):=by
    obtain⟨p',hp',e',a',va,la'⟩:=hpF.some (x:=pp.1) (hAr (hAs hpp));have nk:=qCi (scN (tiF fi) (spF fi) R R.length);rw[va];have ndk:(kvs.map (·.1)).Nodup:=by
     have:kvs.map (·.1)=((grp (scN (tiF fi) (spF fi) R R.length)).map (·.1)).map Sum.inr:=by
      have go:∀ {kvs:List (Key×V)} {P:List (Str×List Str)},PD H6 HF kvs P->kvs.map (·.1)=(P.map (·.1)).map Sum.inr:=λp=>by
       induction p with
       |nil=>rfl
       |cons h t ih=>rw[hAn,hAn,hAn,ih,h.1]
      exact go hpF
     rw[this,List.Nodup,hC3];exact nk.1.imp λh q=>h (Sum.inr.inj q)
    have m1:(Sum.inr pp.1,V.ref a)∈kvs:=by
     have:=hAs hkv;have e:kv=(Sum.inr pp.1,V.ref a):=Prod.ext k1 ev
     rwa [e]at this
    have val:∀ {kvs:List (Key×V)},(kvs.map (·.1)).Nodup->(Sum.inr pp.1,V.ref a)∈kvs->valV kvs (Sum.inr pp.1)=some (.ref a):=λ{kvs} nd m=>by
     induction kvs with
     |nil=>cases m
     |cons q r ih =>
      rw[hAn,hB7]at nd;rcases hAg.mp m with z|z
      ·subst z;exact qBc rfl
      ·rw[qAz (λy=>nd.1 (by rw[y];exact hAr (f:=Prod.fst) z))];exact ih nd.2 z
    rw[<-va];exact val ndk m1
   have dg:qD3 H8 eD (kV kv.1) (some (.ref a)):=by
    rw[k1,<-vk];exact .inl ⟨kvs,Sum.inr pp.1,.inr ⟨o,e8 _ _ heF⟩,rfl,rfl⟩
   have lc:=pc.length;rw[hB2]at lc;have hjk:=qBj hkv;have hnj:(qH5 (tiF fi) (spF fi) R)[j]?=some (pp.1,loL pp.2,hiL pp.2):=by unfold qH5;rw[hAc,hpp];rfl
   refine⟨sls,iteT (B:=False) ⟨_,rfl,_,rfl,_,rfl,eD,_,rfl,dg,a,c1,c2,rfl,SqL.of hla8,_,rfl,_,rfl,eD,_,rfl,dg,a,c1,c2,rfl,SqL.of hla8,(by show 3<=sizeLine;decide),λT hT=>⟨by rw[hA4];exact qAd (by omega),nxt (qBj hkv) ⟨e8.trans (Ext.new hT _),cs++[T],by rw[hAf];rfl,?_⟩⟩⟩⟩;rw[qAl hnj];refine Paired.snc (Paired.mapP pc λ_ _ z=>Ext.new hT _ _ _ z) ?_;rw[upd_same,k1,ec];rfl
  ·rintro ys H8 ⟨e8,cs,rfl,pc⟩ r8 hr8;have lnN:(qH5 (tiF fi) (spF fi) R).length=(grp (scN (tiF fi) (spF fi) R R.length)).length:=by unfold qH5;rw[hA4]
   rw[lkv,<-lnN,hBh]at pc;have x9':=Ext.new hr8 (.lst (cs.map V.ref));have lc:=pc.length;have pc9:Paired (λa t=>upd H8 r8 (.lst (cs.map V.ref)) a=some (.tup (trV t))) cs (qH5 (tiF fi) (spF fi) R):=Paired.mapP pc λ_ _ z=>x9' _ _ z
   have ndN:((qH5 (tiF fi) (spF fi) R).map (·.1)).Nodup:=by
    unfold qH5;rw[hBi];exact(qCi (scN (tiF fi) (spF fi) R R.length)).1
   have txN:Paired (TxI (upd H8 r8 (.lst (cs.map V.ref)))) cs ((qH5 (tiF fi) (spF fi) R).map (·.1)):=by
    have go:∀ {cs':List Addr} {N:List Tr},Paired (λa t=>upd H8 r8 (.lst (cs.map V.ref)) a=some (.tup (trV t))) cs' N->Paired (TxI (upd H8 r8 (.lst (cs.map V.ref)))) cs' (N.map (·.1)):=λp=>by
     induction p with
     |nil=>exact .nil
     |cons h t ih=>exact .cons ⟨_,h⟩ ih
    exact go pc9
   refine⟨r8,cs,_,rfl,SqL.of upd_same,txN,ndN,by omega,λN o1 hN pmN spN'=>?_⟩;have x10:=Ext.new hN (.lst ((o1.map λi=>cs.getD i 0).map V.ref));have x810:=(e8.trans x9').trans x10;have hl10:=x810 _ _ hlF;have lK:=hxF.length;rw[hA4,hB1]at lK;have kse:((List.range R.length).map λj=>(spF fi j,(qCu R k j).map (tiF fi))).map (·.1)=(List.range R.length).map (spF fi):=by rw[hBi];rfl
   have spi:∀i<R.length,∀j<R.length,spF fi i=spF fi j->i=j:=λi hi j hj e=>qWk (by omega) (by omega) e
   have ndS:((List.range R.length).map (spF fi)).Nodup:=by
    rw[List.Nodup,hC3];exact hCh (λha hb h q=>h (spi _ (hAw.mp ha) _ (hAw.mp hb) q)) hCt
   have txs:Paired (TxI (upd (upd H8 r8 (.lst (cs.map V.ref))) N (.lst ((o1.map λi=>cs.getD i 0).map V.ref)))) lsA ((List.range R.length).map (spF fi)):=by
    rw[<-kse];have go:∀ {as:List Addr} {L:List (Str×List Str)},Paired (qYk H6 HF) as L->Paired (TxI (upd (upd H8 r8 (.lst (cs.map V.ref))) N (.lst ((o1.map λi=>cs.getD i 0).map V.ref)))) as (L.map (·.1)):=λp=>by
     induction p with
     |nil=>exact .nil
     |cons h t ih =>
      obtain⟨r,q1,_⟩:=h;exact .cons ⟨_,x810 _ _ q1⟩ ih
    exact go hxF
   refine⟨_,rfl,lsR,lsA,_,rfl,SqL.of hl10,txs,ndS,by omega,λM o2 hM pmM spM=>?_⟩;have x11:=Ext.new hM (.lst ((o2.map λi=>lsA.getD i 0).map V.ref));refine⟨(by show 2<=sizeLine;decide),λT hT=>?_⟩;have x12:=Ext.new hT (.tup [V.ref N,V.ref M]);have xall:=(x810.trans x11).trans x12;rw[lK]at pmM spM;have lN:cs.length=(qH5 (tiF fi) (spF fi) R).length:=lc;rw[lN]at pmN spN';have pmN2:(o1.map λi=>(qH5 (tiF fi) (spF fi) R).getD i ("","","")).Perm (qH5 (tiF fi) (spF fi) R):=qH1 _ _ pmN;have ti:∀i<n,∀j<n,tiF fi i=tiF fi j->i=j:=λi hi j hj e=>qPz (by omega) (by omega) e
   have told:=qWd gw ti spi pmN2;have lL:((List.range R.length).map λj=>(spF fi j,(qCu R k j).map (tiF fi))).length=R.length:=by rw[hA4,hB1]
   have pmL:(o2.map λi=>((List.range R.length).map λj=>(spF fi j,(qCu R k j).map (tiF fi))).getD i ("",[])).Perm ((List.range R.length).map λj=>(spF fi j,(qCu R k j).map (tiF fi))):=qH1 _ _ (by rw[lL];exact pmM);obtain⟨rnd,flat⟩:=Told.told told (λi hi=>hk i hi) pmL;have netK:(o1.map λi=>(qH5 (tiF fi) (spF fi) R).getD i ("","","")).map (·.1)=o1.map λi=>List.getD (α:=Str) ((qH5 (tiF fi) (spF fi) R).map (·.1)) i "":=by
    rw[hBi];exact hC9 λi _=>(qKy (λx:Tr=>x.1) (qH5 (tiF fi) (spF fi) R) i ("","","")).symm
   have lisK:(o2.map λi=>((List.range R.length).map λj=>(spF fi j,(qCu R k j).map (tiF fi))).getD i ("",[])).map (·.1)=o2.map λi=>List.getD (α:=Str) ((List.range R.length).map (spF fi)) i "":=by
    rw[hBi,<-kse];exact hC9 λi _=>(qKy (λx:Str×List Str=>x.1) _ i ("",[])).symm
   have rN:qIh ((o1.map λi=>(qH5 (tiF fi) (spF fi) R).getD i ("","","")).map (·.1)):=by
    rw[netK];exact qKd ndN (n:=(qH5 (tiF fi) (spF fi) R).length) (hA4 _) pmN spN'
   have rL:qIh ((o2.map λi=>((List.range R.length).map λj=>(spF fi j,(qCu R k j).map (tiF fi))).getD i ("",[])).map (·.1)):=by
    rw[lisK];exact qKd ndS (by rw[hA4,hB1]) pmM spM
   refine Q0 T N M _ _ _ (drF.ext xall) (drF.none ((x810.trans x11).none hT)) upd_same ?_ ?_ ⟨⟨rN,?_,?_⟩,rL,rnd,flat,?_,?_⟩
   ·refine⟨_,x12 _ _ (x11 _ _ upd_same),?_⟩;exact Paired.mapP (qFp pc9 ("","","") λi hi=>by rw[lN];exact hAw.mp (pmN.mem_iff.mp hi)) λ_ _ z=>((x10.trans x11).trans x12) _ _ z
   ·refine⟨_,x12 _ _ upd_same,?_⟩;exact Paired.mapP (qFp hxF ("",[]) λi hi=>by rw[lK];exact hAw.mp (pmM.mem_iff.mp hi)) λ_ _ ⟨r,q1,q2,_⟩=>⟨r,xall _ _ q1,xall _ _ q2⟩
   ·rw[pmN2.length_eq,lnN];have:(grp (scN (tiF fi) (spF fi) R R.length)).length<=n:=by
     have nk:=(qCi (scN (tiF fi) (spF fi) R R.length)).1;have:=hBe nk (l₂:=(List.range n).map (tiF fi)) λx hx=>by
      obtain⟨p,hp,rfl⟩:=hAm.mp hx;obtain⟨t',ht',e1,_⟩:=tp p hp;exact hAm.mpr ⟨t',hAw.mpr ht',e1.symm⟩
     rwa [hA4,hA4,hB1]at this
    omega
   ·intro u hu;obtain⟨t',ht',rfl⟩:=told.mem.mp hu;obtain⟨e,he,q⟩:=(gw.ties t').mpr ht';obtain⟨a,b,ab⟩:=qI2 gw.tw ⟨e,he,q⟩;refine⟨qYp fi t',?_,?_⟩
    ·show PyData.strOk (loL ((occ R t').map λe=>spF fi e.1))=true;rw[ab];show PyData.strOk (if _ then _ else _)=true;split <;> exact qVe fi _
    ·show PyData.strOk (hiL ((occ R t').map λe=>spF fi e.1))=true;rw[ab];show PyData.strOk (if _ then _ else _)=true;split <;> exact qVe fi _
   ·rw[pmL.length_eq,lL];exact lR
   ·intro l hl;have:=pmL.mem_iff.mp hl;obtain⟨j,hj,rfl⟩:=hAm.mp this;have hj:=hAw.mp hj;have l1:(qCu R k j).length=lenR R j:=by
     unfold qCu;rw[hAk,hC8,hB2];have:=hk j hj;show _=(qAx R j).length;have e:lenR R j=(qAx R j).length:=rfl;omega
    have l2:=gw.full j hj;have l3:=l24 j;refine⟨λz=>?_,?_⟩
    ·have:=congrArg List.length z;rw[hA4,l1]at this;simp at this;omega
    ·rw[hA4,l1];exact l3
end
end My
open PySem PySem.Spec PyProof.Rows
namespace L2
structure PEx(X:Cx)(e:Expr)(t:TE):Prop where
 h:PE X e t
structure PAx(X:Cx)(es:List Expr)(t:TA):Prop where
 h:PA X es t
section
variable{X:Cx}{e:Expr}{es:List Expr}{te:TE}{t:TA}{pos:Pos}
theorem qEh:PAx X [] zA0:=⟨qC3⟩
theorem qD7(ha:PEx X e te)(hr:PAx X es t)(hs:starEach (e :: es) X.env=(false,eval e X.env) :: starEach es X.env:=by rfl):PAx X (e :: es) (qIi te t):=⟨qAe ha.h hr.h hs⟩
theorem qPa{k:Const}{j:Nat}{p:Pos}(ha:PEx X (.Constant k j p) te)(hr:PAx X es t):PAx X (.Constant k j p :: es) (qIi te t):=qD7 ha hr rfl
theorem qZo{x:Str}{p:Pos}(ha:PEx X (.Name x p) te)(hr:PAx X es t):PAx X (.Name x p :: es) (qIi te t):=qD7 ha hr rfl
theorem qT0{a b:Expr}{p:Pos}(ha:PEx X (.Subscript a b p) te)(hr:PAx X es t):PAx X (.Subscript a b p :: es) (qIi te t):=qD7 ha hr rfl
theorem qZp{as:List Expr}{p:Pos}(ha:PEx X (.List as p) te)(hr:PAx X es t):PAx X (.List as p :: es) (qIi te t):=qD7 ha hr rfl
theorem qW7{as:List Expr}{c:Nat}{p:Pos}(ha:PEx X (.Tuple as c p) te)(hr:PAx X es t):PAx X (.Tuple as c p :: es) (qIi te t):=qD7 ha hr rfl
theorem qZq{a:Expr}{as:List Expr}{kw:List Keyword}{p:Pos}(ha:PEx X (.Call a as kw p) te)(hr:PAx X es t):PAx X (.Call a as kw p :: es) (qIi te t):=qD7 ha hr rfl
theorem qN2(h:PAx X es t):PEx X (.List es pos) (zB5 t):=⟨qBo h.h⟩
theorem qQs{x1}(h:PAx X es t):PEx X (.Tuple es x1 pos) (zB3 t):=⟨qB4 h.h⟩
end
structure PSx(X:Cx)(st:Stmt)(t:TS):Prop where
 h:PS X st t
structure PSsx(X:Cx)(st:List Stmt)(t:TS):Prop where
 h:PSs X st t
section
variable{X:Cx}{st:Stmt}{sts a b:List Stmt}{c:Expr}{tc:TT}{t u:TS}{pos:Pos}
theorem qCf(h:PSx X st t):PSsx X [st] t:=⟨qAi h.h⟩
theorem qTr(h:PSx X st t)(r:PSsx X sts u):PSsx X (st :: sts) (zB4 t u):=⟨qAa h.h r.h⟩
theorem qGx(hc:PT X c tc)(ha:PSsx X a t)(hb:PSsx X b u):PSx X (.If c a b pos) (zB6 tc t u):=⟨qC9 hc ha.h hb.h⟩
end
end L2
namespace My
open PySem L2
abbrev M3:=Addr×Addr×(Str×List Str)
structure Md(d mA:Addr)(H0 H:Hp)(ms:List M3):Prop where
 dr:Dr d H0 H
 ma:H mA=some (.lst (ms.map λm=>V.ref m.1))
 tp:∀m∈ms,H m.1=some (.tup [.str m.2.2.1,.ref m.2.1])/\LsS H m.2.1 m.2.2.2
 nd:(ms.map (·.2.1)).Nodup
 nm:∀m∈ms,m.2.1≠mA/\m.2.1≠d/\H0 m.2.1=none
 md:mA≠d
 m0:H0 mA=none
theorem Md.ext{d mA:Addr}{H0 H H1:Hp}{ms:List M3}(h:Md d mA H0 H ms)(e:Ext H H1):Md d mA H0 H1 ms :=
 ⟨h.dr.ext e,e _ _ h.ma,λm hm=>⟨e _ _ (h.tp m hm).1,e _ _ (h.tp m hm).2⟩,h.nd,h.nm,h.md,h.m0⟩
theorem Md.take{d mA:Addr}{H0 H:Hp}{ms:List M3}(h:Md d mA H0 H ms)(q:Int):Md d mA H0 (upd H d (.lst [.int q])) ms:=by
 obtain⟨q0,hd⟩:=h.dr.1;refine⟨h.dr.take q,by rw[qAb h.md];exact h.ma,λm hm=>⟨?_,?_⟩,h.nd,h.nm,h.md,h.m0⟩
 ·rw[qAb (λz=>by have:=(h.tp m hm).1;rw[z,hd]at this;cases this)];exact(h.tp m hm).1
 ·unfold LsS;rw[qAb (h.nm m hm).2.1];exact(h.tp m hm).2
theorem qJl{H:Hp}:∀ {vs:List V} {ds:List PyData},vs.length=ds.length->(∀(j:Nat) (v:V) (D:PyData),vs[j]?=some v->ds[j]?=some D->Dh H v D)->Dhs H vs ds
 |[],[],_,_=>.nil
 |[],_ :: _,h,_=>by simp at h
 |_ :: _,[],h,_=>by simp at h
 |v :: vs,D :: ds,h,k=>.cons (k 0 v D rfl rfl) (qJl (by simpa using h) λj v' D' h1 h2=>k (j+1) v' D' (by simpa using h1) (by simpa using h2))
theorem qE8{H:Hp}{a r:Addr}{l:Str×List Str}(h1:H a=some (.tup [.str l.1,.ref r]))(h2:LsS H r l.2):Dh H (.ref a) (dtE l):=.tup h1 (.cons (.str _) (.cons (qYb h2) .nil))
theorem Md.dhs{d mA:Addr}{H0 H:Hp}{ms:List M3}(h:Md d mA H0 H ms):Dhs H (ms.map λm=>V.ref m.1) (ms.map λm=>dtE m.2.2):=by
 refine qJl (by simp) λj v D h1 h2=>?_
 rw[hAc]at h1 h2;cases hm:ms[j]? with
 |none=>rw[hm]at h1;cases h1
 |some m =>
  rw[hm]at h1 h2;cases hAh h1;cases hAh h2;have:=h.tp m (hAs hm);exact qE8 this.1 this.2
theorem Md.spoil{d mA:Addr}{H0 H H1:Hp}{ms:List M3}(h:Md d mA H0 H ms){i:Nat}{m:M3}(hi:ms[i]?=some m)(k:∀b o,b≠m.2.1->H b=some o->H1 b=some o){vs:List V}{is:List PyData}(hv:H1 m.2.1=some (.lst vs))(hd:Dhs H1 vs is) :
  Dr d H0 H1/\Dh H1 (.ref mA) (.list ((ms.map λm=>dtE m.2.2).set i (.tuple [.str m.2.2.1,.list is]))):=by
 have hm:=hAs hi;obtain⟨n1,n2,n3⟩:=h.nm m hm;obtain⟨q,hq⟩:=h.dr.1;refine⟨⟨⟨q,k _ _ (Ne.symm n2) hq⟩,λb o nb z=>k b o (λy=>by rw[y,n3]at z;cases z) (h.dr.2 b o nb z)⟩,.lst (k _ _ (Ne.symm n1) h.ma) (qJl (by simp) λj v D h1 h2=>?_)⟩;rw[hAc]at h1;cases hmj:ms[j]? with
 |none=>rw[hmj]at h1;cases h1
 |some m' =>
  rw[hmj]at h1;cases hAh h1;have hm':=hAs hmj;have ht:=h.tp m' hm';by_cases e:i=j
  ·subst e;rw[hi]at hmj;cases hAh hmj;rw[hEb (by rw[hA4];exact qBj hi)]at h2;cases hAh h2;have nt:m.1≠m.2.1:=λz=>by
    have h1:=ht.1;have h2:=ht.2;unfold LsS at h2;rw[z,h2]at h1;cases h1
   exact .tup (k _ _ nt ht.1) (.cons (.str _) (.cons (.lst hv hd) .nil))
  ·rw[hDv e,hAc,hmj]at h2;cases hAh h2;have nr:m'.2.1≠m.2.1:=λz=>e (by
    have a1:(ms.map (·.2.1))[i]?=some m.2.1:=by rw[hAc,hi];rfl
    have a2:(ms.map (·.2.1))[j]?=some m.2.1:=by rw[hAc,hmj,<-z];rfl
    obtain⟨l1,e1⟩:=hAz.mp a1;obtain⟨l2,e2⟩:=hAz.mp a2;exact(List.getElem_inj h.nd).mp (e1.trans e2.symm))
   have nt:m'.1≠m.2.1:=λz=>by
    have h1:=ht.1;have h2:=(h.tp m hm).2;unfold LsS at h2;rw[z,h2]at h1;cases h1
   exact qE8 (k _ _ nt ht.1) (k _ _ nr ht.2)
def EOk(e:PyData):Prop:=(e.canLay0=true/\e.depth<=5)/\∀x y,e = .tuple [x,y]->((∃s,x = .str s)\/∃is,x = .list is)/\∀is,y = .list is->is.length<=30
theorem qIe{es:List PyData}(l:es.length<=24)(h:∀e∈es,EOk e):DOk (.list es):=by
 refine⟨⟨?_,?_⟩,λds e=>by cases e;exact l,λds e x hx=>by cases e;exact(h x hx).2⟩
 ·exact(qF1 (n:=5) λe he=>(h e he).1).1
 ·show PyData.depthAll es+1<=8;have:=(qF1 (n:=5) λe he=>(h e he).1).2;omega
def IOk(i:PyData):Prop:=i.canLay0=true/\i.depth<=2
theorem qCp{n:Nat}{is:List PyData}(h:∀i∈is,i.canLay0=true/\i.depth<=n):(PyData.list is).canLay0=true/\(PyData.list is).depth<=n+1:=by
 have:=qF1 h;exact⟨this.1,hDw this.2 1⟩
theorem qEj{n:Nat}{is:List PyData}(h:∀i∈is,i.canLay0=true/\i.depth<=n):(PyData.tuple is).canLay0=true/\(PyData.tuple is).depth<=n+1:=by
 have:=qF1 h;exact⟨this.1,hDw this.2 1⟩
theorem qCe{s:Str}(h:PyData.strOk s=true)(n:Nat):(PyData.str s).canLay0=true/\(PyData.str s).depth<=n:=⟨h,hAy _⟩
theorem qDm{D:PyData}{m n:Nat}(h:D.canLay0=true/\D.depth<=m)(l:m<=n):D.canLay0=true/\D.depth<=n:=⟨h.1,hBa h.2 l⟩
theorem qG9{p:Str}{is:List PyData}(hp:PyData.strOk p=true)(h:∀i∈is,IOk i)(l:is.length<=30):EOk (.tuple [.str p,.list is]):=by
 refine⟨qDm (qEj (n:=3) λi hi=>?_) (by decide),λx y e=>?_⟩
 ·rcases hAg.mp hi with z|z
  ·rw[z];exact qCe hp 3
  ·rw[hAd.mp z];exact qCp (n:=2) h
 ·have e:=PyData.tuple.inj e;rw[hB4,hB4]at e;refine⟨.inl ⟨p,e.1.symm⟩,λis' e'=>?_⟩;have:=e.2.1.trans e';cases PyData.list.inj this;exact l
theorem qIl{ss:List Str}(h:SOk ss):∀i∈ss.map PyData.str,IOk i:=λi hi=>by
 obtain⟨s,hs,rfl⟩:=hAm.mp hi;exact qCe (h s hs) 2
theorem qSg{l:Str×List Str}(hp:PyData.strOk l.1=true)(h:SOk l.2)(n:l.2.length<=30):EOk (dtE l):=qG9 hp (qIl h) (by rw[hA4];exact n)
theorem LOk.strs{net:List Tr}{L:List (Str×List Str)}(h:LOk net L):∀l∈L,PyData.strOk l.1=true/\SOk l.2:=λl hl=>by
 refine⟨qQu h.ok h.rnd.pts l.1 (hAr hl),λx hx=>?_⟩;have:=(qGu h.rnd l hl).mem_iff.mp hx;exact qL2 h.ok l.1 x this
theorem qG8{α β:Type}(f:α->β):∀(l:List α) (i:Nat),(l.map f).eraseIdx i=(l.eraseIdx i).map f
 |[],_=>rfl
 |_ :: _,0=>rfl
 |a :: l,i+1=>congrArg (f a :: ·) (qG8 f l i)
theorem Dhs.erase{H:Hp}:∀ {vs:List V} {ds:List PyData} (i:Nat),Dhs H vs ds->Dhs H (vs.eraseIdx i) (ds.eraseIdx i)
 |_,_,_,.nil=>.nil
 |_,_,0,.cons _ t=>t
 |_,_,i+1,.cons h t=>.cons h (Dhs.erase i t)
theorem Dhs.setAt{H:Hp}{v:V}{D:PyData}(h:Dh H v D):∀ {vs:List V} {ds:List PyData} (i:Nat),Dhs H vs ds->Dhs H (vs.set i v) (ds.set i D)
 |_,_,_,.nil=>.nil
 |_,_,0,.cons _ t=>.cons h t
 |_,_,i+1,.cons a t=>.cons a (Dhs.setAt h i t)
theorem qE4{α:Type}{l:List α}{i:Nat}{x:α}(h:x∈l.eraseIdx i):x∈l:=(List.eraseIdx_sublist l i).subset h
theorem Md.kept{d mA:Addr}{H0 H H1:Hp}{ms:List M3}(h:Md d mA H0 H ms)(k:∀b o,b≠d->b≠mA->H b=some o->H1 b=some o):Dhs H1 (ms.map λm=>V.ref m.1) (ms.map λm=>dtE m.2.2):=by
 obtain⟨q,hq⟩:=h.dr.1;refine qJl (by simp) λj v D h1 h2=>?_
 rw[hAc]at h1 h2;cases hm:ms[j]? with
 |none=>rw[hm]at h1;cases h1
 |some m =>
  rw[hm]at h1 h2;cases hAh h1;cases hAh h2;have mm:=hAs hm;obtain⟨t1,t2⟩:=h.tp m mm;obtain⟨n1,n2,_⟩:=h.nm m mm;exact qE8 (k _ _ (λz=>by rw[z,hq]at t1;cases t1) (λz=>by rw[z,h.ma]at t1;cases t1) t1) (k _ _ n2 n1 t2)
def qNm:Sp:=λvs H Q _=>∃(d M:Addr) (q:Int) (net:List Tr) (L:List (Str×List Str)),vs=[.ref d,.ref M]/\H d=some (.lst [.int q])/\qF4 H M L/\LOk net L/\L≠[] /\
 ∀(r:Addr) (H':Hp) (D:PyData),Dr d H H'->Dh H' (.ref r) D->DOk D->Q (.ref r) H'
def zB7(K:PySem.W.Frag):List V->Hp->VK->Prop:=λxs H Q=>∃p ys,xs=[.ref p]/\(SqL K H p ys\/SqT K H p ys)/\∀l,H l=none->Q (.ref l) (upd H l (.lst ys))
section
variable{P:Program}{w:World}{K:PySem.W.Frag}{mg:Str->Option Value}{base:Heap}{f f1 f2 f3 f4:Addr}{fd fd1 fd2 fd3 fd4:FuncData}
noncomputable abbrev spN:List Str:=["_law_draw","_law_lists","_law_made","_law_at","_law_some","_law_one","_law_other","_law_way","_law_things"]
theorem qCy:FnScope spN ["_law_draw","_law_lists"] (qAc qIt):=fsk
theorem qRg(F:Fun K "_law_spoilt" "_law_spoilt" qIt f fd)(G1:Cl P w K mg base CX0 1 f1 fd1 ["_law_draw","_law_many"] qNk "_law_take")
  (ml:mg "len"=none) (mL:mg "list"=none) (mT:mg "tuple"=none):FnOk P w K mg base CX0 2 f fd ["_law_draw","_law_lists"] qNm:=by
 refine F.okA qCy λcdv A outer s H vs Q E hr h=>?_
 obtain⟨d,M,q0,net,L,rfl,hd,⟨as,hM,pr⟩,lok,neL,Q0⟩:=h;refine⟨_,(qAa (qTs (i:=2) (N:=spN) (sc:=qAc qIt) (N':=["_law_point","_law_ties"]) (sub:=[none,none]) rfl rfl (CmpOk.of (by decide +kernel)) rfl (qA1 (pv 1)) (λC s H fp=>⟨(show PG _ _ (qPt K 2 _) from qBt rfl (qAg (qAf (i:=0) (by show(["_law_point","_law_ties"]:List Str).Nodup;decide) rfl (Or.inl rfl)) (qAg (qAf (i:=1) (by show(["_law_point","_law_ties"]:List Str).Nodup;decide) rfl (Or.inl rfl)) qA3))),qBk,qB4 (qAe (pv 0) (pa1 (qA7 (show qCa _ _ (zB7 K) from qB1) rfl mL qBa (pa1 (pv 1)))))⟩) qCy.nd rfl (Or.inl rfl)) (qAa (qAr (i:=3) qCy.nd rfl (Or.inl rfl) (qBf G1 hr rfl .nil qBg (qAe (pv 0) (pa1 (qAh qAj rfl ml hBd (pa1 (pv 2))))))) (qAa (qAr (i:=4) qCy.nd rfl (Or.inl rfl) (qAt qCk (qAt qAm (pv 2) (pv 3) (λ_ _=>rfl)) qAk (λ_ _=>rfl))) (qAa (qAr (i:=5) qCy.nd rfl (Or.inl rfl) (qBf G1 hr rfl .nil qBg (qAe (pv 0) (pa1 (qAh qAj rfl ml hBd (pa1 (pv 4))))))) (qAa (qAr (i:=6) qCy.nd rfl (Or.inl rfl) (qBf G1 hr rfl .nil qBg (qAe (pv 0) (pa1 (qAh qAj rfl ml hBd (pa1 (pv 4))))))) (qAa (qAr (i:=7) qCy.nd rfl (Or.inl rfl) (qBf G1 hr rfl .nil qBg (qAe (pv 0) (pa1 qAk)))) (qAa (PSx.h (qGx (qAv qPb (pv 7) qAk (qA6 _)) (qCf ⟨(qEx (qB4 (qAe (qAt qAm (pv 4) (pv 6) (λ_ _=>rfl)) (pa1 (qAt qAm (pv 4) (pv 5) (λ_ _=>rfl))))) (qBt rfl (qAg (qKe (pv 4) (pv 5) qEt) (qAg (qKe (pv 4) (pv 6) qEt) qA3))))⟩) (qCf (qGx (qAv qPb (pv 7) qAk (qA6 _)) (qCf ⟨(qDa (qF8 hBo hE3 hE4 qE2 (pv 4) (qAe (pv 6) (pa1 (qF8 hBo PySem.F.slot_list_pop PySem.F.type_list_pop qI7 (pv 4) (pa1 (pv 5)))))))⟩) (qCf (qGx (qAv qE0 (pv 7) qAk (qA6 _)) (qCf ⟨(qDa (qF8 hBo PySem.F.slot_list_pop PySem.F.type_list_pop qI7 (pv 4) (pa1 (pv 5))))⟩) (qCf (qGx (qAv qE0 (pv 7) qAk (qA6 _)) (qCf ⟨(qDa (qF8 hBo hE3 hE4 qE2 (pv 4) (qAe (pv 6) (pa1 (qAt qAm (pv 4) (pv 5) (λ_ _=>rfl))))))⟩) (qCf (qGx (qAv qE0 (pv 7) qAk (qA6 _)) (qCf ⟨(qEx (qAt qAm (PEx.h (qN2 (qPa ⟨qKh⟩ (qPa ⟨qKh⟩ (qPa ⟨qAk⟩ (qPa ⟨qRa⟩ (qPa ⟨qKh⟩ (qZp (qN2 (qT0 ⟨(qAt qAm (pv 4) (pv 5) (λ_ _=>rfl))⟩ qEh)) qEh)))))))) (qBf G1 hr rfl .nil qBg (qAe (pv 0) (pa1 qAk))) (λ_ _=>rfl)) (qKe (pv 4) (pv 5) qEt))⟩) (qCf (qGx (qAv qE0 (pv 7) qAk (qA6 _)) (qCf ⟨(qDa (qF8 hBo PySem.F.slot_list_pop PySem.F.type_list_pop qI7 (pv 2) (pa1 (pv 3))))⟩) (qCf (qGx (qAv qE0 (pv 7) qAk (qA6 _)) (qCf ⟨(qAr (i:=2) qCy.nd rfl (Or.inl rfl) (qZl (pv 2) (zBb qYn qAk)))⟩) (qTr ⟨(qAr (i:=8) qCy.nd rfl (Or.inl rfl) (PEx.h (qN2 (qW7 (qQs (qT0 ⟨(qAt qCk (qAt qAm (pv 2) (pv 3) (λ_ _=>rfl)) qAk (λ_ _=>rfl))⟩ (qZq ⟨(qA7 qFc rfl mT qDr (pa1 (pv 4)))⟩ qEh))) (qZq ⟨(qA7 qB1 rfl mL qBa (pa1 (qAt qAm (pv 2) (pv 3) (λ_ _=>rfl))))⟩ (qPa ⟨qRa⟩ (qW7 (qQs (qZo ⟨(pv 4)⟩ (qT0 ⟨(qAt qCk (qAt qAm (pv 2) (pv 3) (λ_ _=>rfl)) qAk (λ_ _=>rfl))⟩ qEh))) (qW7 (qQs (qZp (qN2 (qT0 ⟨(qAt qCk (qAt qAm (pv 2) (pv 3) (λ_ _=>rfl)) qAk (λ_ _=>rfl))⟩ qEh)) (qZo ⟨(pv 4)⟩ qEh))) qEh))))))))⟩ (qCf ⟨(qEx (qAt qAm (pv 8) (qBf G1 hr rfl .nil qBg (qAe (pv 0) (pa1 qAk))) (λ_ _=>rfl)) (qKe (pv 2) (pv 3) qEt))⟩)))))))))))))))) (qAi (qA2 (pv 2)))))))))),?_⟩;have lA:as.length=L.length:=pr.length;have lp:0<L.length:=List.length_pos_iff.mpr neL;have stL:=lok.strs;refine⟨_,rfl,M,rfl,⟨_,SqL.of hM⟩,?_⟩;refine qA0 (xs:=as.map V.ref) (λj ys H2=>Ext H H2/\∃ms:List M3,ys=ms.map (λm=>V.ref m.1)/\ms.map (·.2.2)=L.take j/\(∀m∈ms,H2 m.1=some (.tup [.str m.2.2.1,.ref m.2.1])/\LsS H2 m.2.1 m.2.2.2)/\(ms.map (·.2.1)).Nodup/\∀m∈ms,H m.2.1=none) ⟨Ext.refl _,[],rfl,rfl,λm h=>(by cases h),hCf,λm h=>(by cases h)⟩ (λj ys H2 _ h=>SqL.of (h.1 _ _ hM)) ?_ ?_
 ·rintro j x ys H2 hx ⟨e2,ms,rfl,hms,tp,nd,nw⟩;obtain⟨a,rfl,ha⟩:=qFm hx;obtain⟨l,hl,r,h1,h2⟩:=qAo pr ha;have lj:=qBj hl;have lm:ms.length=j:=by
   have:=congrArg List.length hms;rw[hA4,hB2]at this;omega
  refine⟨a,_,rfl,SqT.of (e2 _ _ h1),rfl,_,_,rfl,_,_,rfl,rfl,?_⟩;refine⟨Sle.set _ (sls) (λu z=>by cases z),iteT (B:=False) ⟨_,rfl,_,rfl,r,_,rfl,.inl (SqL.of (e2 _ _ h2)),λr2 hr2=>⟨(by show 2<=sizeLine;decide),λT hT=>⟨by rw[hA4];exact qAd (by have:=lok.few;omega),nxt (qBj hx) ?_⟩⟩⟩⟩;have x3:=Ext.new hr2 (.lst (l.2.map V.str));have x4:=Ext.new hT (.tup [V.str l.1,V.ref r2]);have x34:=x3.trans x4;refine⟨e2.trans x34,ms++[(T,r2,l)],by rw[hAf];rfl,?_,λm hm=>?_,?_,λm hm=>?_⟩
  ·rw[hAf,hms,qAl hl];rfl
  ·rcases hAp.mp hm with z|z
   ·exact⟨x34 _ _ (tp m z).1,x34 _ _ (tp m z).2⟩
   ·rw[hAd.mp z];exact⟨upd_same,x4 _ _ upd_same⟩
  ·rw[hAf,hB6];refine⟨nd,by simp,λb hb c hc z=>?_⟩;obtain⟨m,hm,rfl⟩:=hAm.mp hb;have hc:c=r2:=hAd.mp hc;have:=(tp m hm).2;unfold LsS at this;rw[z,hc,hr2]at this;cases this
  ·rcases hAp.mp hm with z|z
   ·exact nw m z
   ·rw[hAd.mp z];exact e2.none hr2
 rintro ys H2 ⟨e2,ms,rfl,hms,tp,nd,nw⟩ mA hmA;have lz:(as.map V.ref).length=L.length:=by rw[hA4,lA]
 rw[lz,hBh]at hms;have lm:ms.length=L.length:=by have:=congrArg List.length hms;rwa [hA4]at this
 have x3:=Ext.new hmA (.lst (ms.map λm=>V.ref m.1));have dr2:Dr d H H2:=(Dr.refl hd).ext e2;have md3:Md d mA H (upd H2 mA (.lst (ms.map λm=>V.ref m.1))) ms:=by
  refine⟨dr2.ext x3,upd_same,λm hm=>⟨x3 _ _ (tp m hm).1,x3 _ _ (tp m hm).2⟩,nd,λm hm=>⟨λz=>?_,λz=>?_,nw m hm⟩,dr2.ne hmA,e2.none hmA⟩
  ·have:=(tp m hm).2;unfold LsS at this;rw[z,hmA]at this;cases this
  ·have:=nw m hm;rw[z,hd]at this;cases this
 revert md3;generalize upd _ _ _=H3;intro md3;have few:=lok.few;have dE:∀m∈ms,EOk (dtE m.2.2)/\PyData.strOk m.2.2.1=true/\SOk m.2.2.2/\m.2.2.2≠[]/\m.2.2.2.length<=24:=λm hm=>by
  have hL:m.2.2∈L:=by rw[<-hms];exact hAr (f:=λm:M3=>m.2.2) hm
  have h1:=stL _ hL;have h2:=lok.row _ hL;exact⟨qSg h1.1 h1.2 (by omega),h1.1,h1.2,h2.1,h2.2⟩
 obtain⟨q3,hd3⟩:=md3.dr.1;refine⟨_,rfl,_,rfl,mA,_,rfl,.inl (SqL.of md3.ma),d,q3,_,rfl,hd3,by rw[hA4];omega,by rw[hA4];omega,λq4 at_ a0 a1=>?_⟩;obtain⟨ia,rfl⟩:=hCc a0;rw[hA4]at a1;have hia:ia<ms.length:=by omega
 have md4:=md3.take q4;revert md4;generalize upd _ _ _=H4;intro md4;have hm:=hA8 hia;generalize ms[ia]=m at hm;have mm:=hAs hm;have atM:atI (ms.map λm=>V.ref m.1) ((ia:Nat):Int)=some (.ref m.1):=qAq (by rw[hAc,hm];rfl);obtain⟨t4,l4⟩:=md4.tp m mm;refine⟨_,rfl,_,rfl,mA,_,_,_,rfl,rfl,SqL.of md4.ma,atM,m.1,_,1,_,rfl,rfl,SqT.of t4,(by exact qAq (j:=1) rfl),?_⟩;obtain⟨eE,sP,sR,nR,lR⟩:=dE m mm;have lr:0<m.2.2.2.length:=List.length_pos_iff.mpr nR;obtain⟨q5,hd4⟩:=md4.dr.1;refine⟨_,rfl,_,rfl,m.2.1,_,rfl,.inl (SqL.of l4),d,q5,_,rfl,hd4,by rw[hA4];omega,by rw[hA4];omega,λq6 one o0 o1=>?_⟩;obtain⟨k1,rfl⟩:=hCc o0;rw[hA4]at o1;have md5:=md4.take q6;revert md5;generalize upd _ _ _=H5;intro md5;obtain⟨t5,l5⟩:=md5.tp m mm;obtain⟨q7,hd5⟩:=md5.dr.1;refine⟨_,rfl,_,rfl,m.2.1,_,rfl,.inl (SqL.of l5),d,q7,_,rfl,hd5,by rw[hA4];omega,by rw[hA4];omega,λq8 oth p0 p1=>?_⟩;obtain⟨k2,rfl⟩:=hCc p0;rw[hA4]at p1;have md6:=md5.take q8;revert md6;generalize upd _ _ _=H6;intro md6;obtain⟨q9,hd6⟩:=md6.dr.1;refine⟨_,rfl,d,q9,12,rfl,hd6,by decide,by decide,λqa wy w0 w1=>?_⟩;have md7:=md6.take qa;revert md7;generalize upd _ _ _=H7;intro md7;clear md3 md4 md5 md6 t4 l4 t5 l5 hd3 hd4 hd5 hd6;obtain⟨t7,l7⟩:=md7.tp m mm;obtain⟨qb,hd7⟩:=md7.dr.1;have h1k:k1<m.2.2.2.length:=by omega
 have h2k:k2<m.2.2.2.length:=by omega
 have e1k:=hA8 h1k;have e2k:=hA8 h2k;generalize m.2.2.2[k1]=x1 at e1k;generalize m.2.2.2[k2]=x2 at e2k;have at1:atI (m.2.2.2.map V.str) ((k1:Nat):Int)=some (.str x1):=qAq (by rw[hAc,e1k];rfl);have at2:atI (m.2.2.2.map V.str) ((k2:Nat):Int)=some (.str x2):=qAq (by rw[hAc,e2k];rfl);have s1:=sR x1 (hAs e1k);have s2:=sR x2 (hAs e2k);have ix1:ixN (m.2.2.2.map V.str).length ((k1:Nat):Int)=some k1:=by
  unfold ixN;rw[hEs (by omega),hEs (by rw[hA4];omega),hB8]
 have ix2:ixN (m.2.2.2.map V.str).length ((k2:Nat):Int)=some k2:=by
  unfold ixN;rw[hEs (by omega),hEs (by rw[hA4];omega),hB8]
 have fin:∀(H8:Hp) (ss:List Str),(∀b o,b≠m.2.1->H7 b=some o->H8 b=some o)->LsS H8 m.2.1 ss->SOk ss->ss.length<=30->Q (.ref mA) H8:=λH8 ss k hs ok l=>by
  obtain⟨d8,h8⟩:=md7.spoil hm k hs (qC7 ss);refine Q0 mA H8 _ d8 h8 (qIe (by rw[hCz,hA4];omega) λe he=>?_);rcases hCs he with z|z
  ·obtain⟨m',hm',rfl⟩:=hAm.mp z;exact(dE m' hm').1
  ·rw[z];exact qG9 sP (qIl ok) (by rw[hA4];exact l)
 refine⟨_,rfl,_,_,rfl,rfl,_,rfl,qGi (λc=>?_) λc=>?_⟩
 ·refine⟨_,rfl,_,rfl,m.2.1,_,_,_,rfl,rfl,SqL.of l7,at2,_,rfl,_,rfl,m.2.1,_,_,_,rfl,rfl,SqL.of l7,at1,(by show 2<=sizeLine;decide),λT hT=>⟨T,_,rfl,SqT.of upd_same,rfl,_,_,rfl,?_⟩⟩;have x8:=Ext.new hT (.tup [V.str x2,V.str x1]);have l8:=x8 _ _ l7;refine⟨_,rfl,_,rfl,m.2.1,_,_,_,rfl,rfl,l8,ix1,_,_,rfl,_,rfl,_,rfl,m.2.1,_,_,_,rfl,rfl,upd_same,by rw[hCz];exact ix2,rfl,?_⟩;refine⟨_,rfl,fin _ ((m.2.2.2.set k1 x2).set k2 x1) (λb o nb z=>by rw[qAb nb,qAb nb];exact x8 _ _ z) ?_ (λx hx=>?_) (by rw[hCz,hCz];omega)⟩
  ·unfold LsS;rw[upd_same,List.map_set,List.map_set]
  ·rcases hCs hx with z|z
   ·rcases hCs z with y|y
    ·exact sR x y
    ·rw[y];exact s2
   ·rw[z];exact s1
 refine⟨_,rfl,_,_,rfl,rfl,_,rfl,qGi (λc=>?_) λc=>?_⟩
 ·refine⟨_,rfl,.inl ⟨rfl,_,SqL.of l7⟩,_,rfl,_,rfl,.inl ⟨rfl,_,SqL.of l7⟩,_,rfl,m.2.1,_,_,k1,_,rfl,rfl,l7,by omega,by omega,(qG2 ix1).1,by rw[hAc,e1k];rfl,m.2.1,_,k2,_,rfl,rfl,upd_same,?_,?_,?_⟩
  ·rw[List.length_eraseIdx_of_lt (by rw[hA4];exact h1k),hA4];omega
  ·have:=hE8 (m.2.2.2.map V.str) k1;rw[hA4]at this;omega
  refine⟨_,rfl,fin _ ((m.2.2.2.eraseIdx k1).take k2++x1 :: (m.2.2.2.eraseIdx k1).drop k2) (λb o nb z=>by rw[qAb nb,qAb nb];exact z) ?_ (λx hx=>?_) ?_⟩
  ·unfold LsS;rw[upd_same,qG8,hAf,hAn,List.map_take,List.map_drop]
  ·rcases hAp.mp hx with z|z
   ·exact sR x (qE4 (hDf z))
   ·rcases hAg.mp z with y|y
    ·rw[y];exact s1
    ·exact sR x (qE4 (hEl y))
  ·have:=hE8 m.2.2.2 k1;rw[hAk,hBg,hB2,hC8];omega
 refine⟨_,rfl,rfl,_,rfl,qGi (λc=>?_) λc=>?_⟩
 ·refine⟨_,rfl,.inl ⟨rfl,_,SqL.of l7⟩,_,rfl,m.2.1,_,_,k1,_,rfl,rfl,l7,by omega,by omega,(qG2 ix1).1,by rw[hAc,e1k];rfl,?_⟩;refine⟨_,rfl,fin _ (m.2.2.2.eraseIdx k1) (λb o nb z=>by rw[qAb nb];exact z) ?_ (λx hx=>sR x (qE4 hx)) ?_⟩
  ·unfold LsS;rw[upd_same,qG8]
  ·have:=hE8 m.2.2.2 k1;omega
 refine⟨_,rfl,rfl,_,rfl,qGi (λc=>?_) λc=>?_⟩
 ·refine⟨_,rfl,.inl ⟨rfl,_,SqL.of l7⟩,_,rfl,_,rfl,_,rfl,m.2.1,_,_,_,rfl,rfl,SqL.of l7,at1,m.2.1,_,k2,_,rfl,rfl,l7,by rw[hA4];omega,by rw[hA4];omega,?_⟩;refine⟨_,rfl,fin _ (m.2.2.2.take k2++x1 :: m.2.2.2.drop k2) (λb o nb z=>by rw[qAb nb];exact z) ?_ (λx hx=>?_) ?_⟩
  ·unfold LsS;rw[upd_same,hAf,hAn,List.map_take,List.map_drop]
  ·rcases hAp.mp hx with z|z
   ·exact sR x (hDf z)
   ·rcases hAg.mp z with y|y
    ·rw[y];exact s1
    ·exact sR x (hEl y)
  ·rw[hAk,hBg,hB2,hC8];omega
 refine⟨_,rfl,rfl,_,rfl,qGi (λc=>?_) λc=>?_⟩
 ·refine⟨_,rfl,_,rfl,m.2.1,_,_,_,rfl,rfl,SqL.of l7,at1,(by show 1<=sizeLine;decide),λlA hlA=>⟨(by show 6<=sizeLine;decide),λlB hlB=>?_⟩⟩;have y1:=Ext.new hlA (.lst [V.str x1]);have y2:=Ext.new hlB (.lst [.str "a",.str "zz",.int 7,.non,.str "",.ref lA]);have y12:=y1.trans y2;have eA:=y2 _ _ (upd_same (H:=H7) (a:=lA) (o:=.lst [V.str x1]));have eB:upd (upd H7 lA (.lst [V.str x1])) lB (.lst [.str "a",.str "zz",.int 7,.non,.str "",.ref lA]) lB=some (.lst [.str "a",.str "zz",.int 7,.non,.str "",.ref lA]):=upd_same;have md8:=md7.ext y12;revert eA eB md8;generalize upd _ _ _=H8;intro eA eB md8;obtain⟨q8,hd8⟩:=md8.dr.1;have nAd:lA≠d:=λz=>by rw[z,hd7]at hlA;cases hlA
  have nAr:lA≠m.2.1:=λz=>by unfold LsS at l7;rw[z,l7]at hlA;cases hlA
  have nBd:lB≠d:=λz=>by rw[z,hd8]at eB;cases eB
  refine⟨_,rfl,d,q8,6,rfl,hd8,by decide,by decide,λq9 r r0 r1=>?_⟩;have md9:=md8.take q9;have eB9:upd H8 d (.lst [.int q9]) lB=some (.lst [.str "a",.str "zz",.int 7,.non,.str "",.ref lA]):=by rw[qAb nBd];exact eB
  have eA9:upd H8 d (.lst [.int q9]) lA=some (.lst [V.str x1]):=by rw[qAb nAd];exact eA
  revert md9 eA9 eB9;generalize upd _ _ _=H9;intro md9 eB9 eA9;obtain⟨t9,l9⟩:=md9.tp m mm;obtain⟨ir,rfl⟩:=hCc r0;have hv:∃v D,[V.str "a",.str "zz",.int 7,.non,.str "",.ref lA][ir]?=some v/\(∀H':Hp,H' lA=some (.lst [V.str x1])->Dh H' v D)/\IOk D:=by
   match ir,r1 with
   |0,_=>exact⟨_,.str "a",rfl,λ_ _=>.str _,qCe (by decide +kernel) 2⟩
   |1,_=>exact⟨_,.str "zz",rfl,λ_ _=>.str _,qCe (by decide +kernel) 2⟩
   |2,_=>exact⟨_,.int 7,rfl,λ_ _=>.int _,rfl,hAy _⟩
   |3,_=>exact⟨_,.none,rfl,λ_ _=>.non,rfl,hAy _⟩
   |4,_=>exact⟨_,.str "",rfl,λ_ _=>.str _,qCe (by decide +kernel) 2⟩
   |5,_=>exact⟨_,.list [.str x1],rfl,λ_ h=>.lst h (.cons (.str _) .nil),qDm (qCp (n:=0) λi hi=>by rw[hAd.mp hi];exact qCe s1 0) (by decide)⟩
   |n+6,h=>exfalso;omega
  obtain⟨v,D,hv1,hv2,hv3⟩:=hv;refine⟨lB,_,_,v,rfl,rfl,SqL.of eB9,qAq hv1,_,rfl,_,rfl,m.2.1,_,_,_,rfl,rfl,l9,ix1,?_⟩;have eA':upd H9 m.2.1 (.lst ((m.2.2.2.map V.str).set k1 v)) lA=some (.lst [V.str x1]):=by rw[qAb nAr];exact eA9
  obtain⟨d8,h8⟩:=md9.spoil (H1:=upd H9 m.2.1 (.lst ((m.2.2.2.map V.str).set k1 v))) hm (λb o nb z=>by rw[qAb nb];exact z) upd_same (Dhs.setAt (hv2 _ eA') k1 (qC7 m.2.2.2));refine⟨_,rfl,Q0 mA _ _ d8 h8 (qIe (by rw[hCz,hA4];omega) λe he=>?_)⟩;rcases hCs he with z|z
  ·obtain⟨m',hm',rfl⟩:=hAm.mp z;exact(dE m' hm').1
  ·rw[z];refine qG9 sP (λi hi=>?_) (by rw[hCz,hA4];omega);rcases hCs hi with y|y
   ·exact qIl sR i y
   ·rw[y];exact hv3
 refine⟨_,rfl,rfl,_,rfl,qGi (λc=>?_) λc=>?_⟩
 ·have im:ixN (ms.map λm=>V.ref m.1).length ((ia:Nat):Int)=some ia:=by
   unfold ixN;rw[hEs (by omega),hEs (by rw[hA4];omega),hB8]
  refine⟨_,rfl,.inl ⟨rfl,_,SqL.of md7.ma⟩,_,rfl,mA,_,_,ia,_,rfl,rfl,md7.ma,by omega,by omega,(qG2 im).1,by rw[hAc,hm];rfl,?_⟩;have k:∀b o,b≠d->b≠mA->H7 b=some o->upd H7 mA (.lst ((ms.map λm=>V.ref m.1).eraseIdx ia)) b=some o:=λb o _ nb z=>by rw[qAb nb];exact z
  refine⟨_,rfl,Q0 mA _ _ (md7.dr.over md7.m0 md7.md _) (.lst upd_same ((md7.kept k).erase ia)) (qIe ?_ λe he=>?_)⟩
  ·have:=hE8 (ms.map λm=>dtE m.2.2) ia;rw[hA4]at this;omega
  ·obtain⟨m',hm',rfl⟩:=hAm.mp (qE4 he);exact(dE m' hm').1
 refine⟨_,rfl,rfl,_,rfl,qGi (λc=>?_) λc=>?_⟩
 ·refine⟨_,rfl,_,rfl,mA,_,rfl,rfl,SqL.of md7.ma,λr hr'=>?_⟩;have x8:=Ext.new hr' (.lst (ms.map λm=>V.ref m.1).reverse);refine⟨_,rfl,Q0 r _ _ (md7.dr.ext x8) (.lst upd_same ((md7.ext x8).dhs.rev)) (qIe (by rw[hEo,hA4];omega) λe he=>?_)⟩;obtain⟨m',hm',rfl⟩:=hAm.mp (List.mem_reverse.mp he);exact(dE m' hm').1
 have nm1:=md7.nm m mm;have ss0:∀i∈m.2.2.2.map PyData.str,i.canLay0=true/\i.depth<=1:=λi hi=>by
  obtain⟨s,hs,rfl⟩:=hAm.mp hi;exact qCe (sR s hs) 1
 refine⟨_,rfl,_,rfl,mA,_,_,_,rfl,rfl,SqL.of md7.ma,atM,m.1,_,0,_,rfl,rfl,SqT.of t7,(by exact qAq (j:=0) rfl),_,rfl,m.2.1,_,rfl,.inl ⟨SqL.of l7,λtA htA=>⟨(by show 2<=sizeLine;decide),λT1 hT1=>?_⟩⟩⟩;have y1:=Ext.new htA (.tup (m.2.2.2.map V.str));have y2:=Ext.new hT1 (.tup [V.str m.2.2.1,V.ref tA]);have y12:=y1.trans y2;have hA2:upd (upd H7 tA (.tup (m.2.2.2.map V.str))) T1 (.tup [V.str m.2.2.1,V.ref tA]) tA=some (.tup (m.2.2.2.map V.str)):=y2 _ _ upd_same;have hT2:upd (upd H7 tA (.tup (m.2.2.2.map V.str))) T1 (.tup [V.str m.2.2.1,V.ref tA]) T1=some (.tup [V.str m.2.2.1,V.ref tA]):=upd_same;revert y12 hA2 hT2;generalize upd _ _ _=H8;intro y12 hA2 hT2;refine⟨_,rfl,_,rfl,mA,_,_,_,rfl,rfl,SqL.of (y12 _ _ md7.ma),atM,m.1,_,rfl,.inr (SqT.of (y12 _ _ t7)),λlB hlB=>?_⟩;have y3:=Ext.new hlB (.lst [V.str m.2.2.1,V.ref m.2.1]);have hB3:upd H8 lB (.lst [V.str m.2.2.1,V.ref m.2.1]) lB=some (.lst [V.str m.2.2.1,V.ref m.2.1]):=upd_same;have hA3:=y3 _ _ hA2;have hT3:=y3 _ _ hT2;have y13:=y12.trans y3;have nB:H7 lB=none:=y12.none hlB;revert y13 hA3 hT3 hB3;generalize upd _ _ _=H9;intro hB3 hA3 hT3 y13;refine⟨_,rfl,_,rfl,_,rfl,mA,_,_,_,rfl,rfl,SqL.of (y13 _ _ md7.ma),atM,m.1,_,0,_,rfl,rfl,SqT.of (y13 _ _ t7),(by exact qAq (j:=0) rfl),(by show 2<=sizeLine;decide),λT4 hT4=>?_⟩;have y4:=Ext.new hT4 (.tup [V.ref m.2.1,V.str m.2.2.1]);have y14:=y13.trans y4;refine⟨_,rfl,_,rfl,mA,_,_,_,rfl,rfl,SqL.of (y14 _ _ md7.ma),atM,m.1,_,0,_,rfl,rfl,SqT.of (y14 _ _ t7),(by exact qAq (j:=0) rfl),(by show 1<=sizeLine;decide),λlC hlC=>?_⟩;have y5:=Ext.new hlC (.lst [V.str m.2.2.1]);have nC:H7 lC=none:=y14.none hlC;refine⟨_,rfl,(by show 2<=sizeLine;decide),λT5 hT5=>?_⟩;have y6:=Ext.new hT5 (.tup [V.ref lC,V.ref m.2.1]);refine⟨(by show 5<=sizeLine;decide),λlD hlD=>?_⟩;have y7:=Ext.new hlD (.lst [.ref T1,.ref lB,.non,.ref T4,.ref T5]);have y17:=((y14.trans y5).trans y6).trans y7;have e1:=(((y4.trans y5).trans y6).trans y7) _ _ hT3;have e2:=(((y4.trans y5).trans y6).trans y7) _ _ hA3;have e3:=(((y4.trans y5).trans y6).trans y7) _ _ hB3;have e4:=((y5.trans y6).trans y7) _ _ (upd_same (H:=H9) (a:=T4) (o:=.tup [V.ref m.2.1,V.str m.2.2.1]));have e5:=(y6.trans y7) _ _ (upd_same (H:=upd H9 T4 (.tup [V.ref m.2.1,V.str m.2.2.1])) (a:=lC) (o:=.lst [V.str m.2.2.1]));have e6:=y7 _ _ (upd_same (H:=upd (upd H9 T4 (.tup [V.ref m.2.1,V.str m.2.2.1])) lC (.lst [V.str m.2.2.1])) (a:=T5) (o:=.tup [V.ref lC,V.ref m.2.1]));have e7:upd (upd (upd (upd H9 T4 (.tup [V.ref m.2.1,V.str m.2.2.1])) lC (.lst [V.str m.2.2.1])) T5 (.tup [V.ref lC,V.ref m.2.1])) lD (.lst [.ref T1,.ref lB,.non,.ref T4,.ref T5]) lD=some (.lst [.ref T1,.ref lB,.non,.ref T4,.ref T5]):=upd_same;have mdA:=md7.ext y17;revert mdA e1 e2 e3 e4 e5 e6 e7;generalize upd _ _ _=HA;intro e1 e2 e3 e4 e5 e6 e7 mdA;obtain⟨qA,hdA⟩:=mdA.dr.1;obtain⟨tAm,lAm⟩:=mdA.tp m mm;have nBd:lB≠d:=λz=>by rw[z,hd7]at nB;cases nB
 have nBm:lB≠mA:=λz=>by rw[z,md7.ma]at nB;cases nB
 have nCd:lC≠d:=λz=>by rw[z,hd7]at nC;cases nC
 have nCm:lC≠mA:=λz=>by rw[z,md7.ma]at nC;cases nC
 refine⟨_,rfl,_,rfl,d,qA,5,rfl,hdA,by decide,by decide,λqB r r0 r1=>?_⟩;have mdB:=mdA.take qB;have nlD:lD≠d:=λz=>by rw[z,hdA]at e7;cases e7
 have e7':upd HA d (.lst [.int qB]) lD=some (.lst [.ref T1,.ref lB,.non,.ref T4,.ref T5]):=by rw[qAb nlD];exact e7
 have im:ixN (ms.map λm=>V.ref m.1).length ((ia:Nat):Int)=some ia:=by
  unfold ixN;rw[hEs (by omega),hEs (by rw[hA4];omega),hB8]
 have put:∀(v:V) (D:PyData),(∀H':Hp,(∀b o,b≠d->b≠mA->HA b=some o->H' b=some o)->Dh H' v D)->EOk D->Q (.ref mA) (upd (upd HA d (.lst [.int qB])) mA (.lst ((ms.map λm=>V.ref m.1).set ia v))):=λv D hD ok=>by
  have k:∀b o,b≠d->b≠mA->HA b=some o->upd (upd HA d (.lst [.int qB])) mA (.lst ((ms.map λm=>V.ref m.1).set ia v)) b=some o:=λb o n1 n2 z=>by rw[qAb n2,qAb n1];exact z
  refine Q0 mA _ _ (mdB.dr.over md7.m0 md7.md _) (.lst upd_same (Dhs.setAt (hD _ k) ia (mdA.kept k))) (qIe (by rw[hCz,hA4];omega) λe he=>?_);rcases hCs he with z|z
  ·obtain⟨m',hm',rfl⟩:=hAm.mp z;exact(dE m' hm').1
  ·rw[z];exact ok
 have nt:∀ {a:Addr} {ys:List V},HA a=some (.tup ys)->a≠d/\a≠mA:=λh=>⟨λz=>(by rw[z,hdA]at h;cases h),λz=>(by rw[z,mdA.ma]at h;cases h)⟩
 obtain⟨ir,rfl⟩:=hCc r0;have hv:∃v D,[V.ref T1,.ref lB,.non,.ref T4,.ref T5][ir]?=some v/\(∀H':Hp,(∀b o,b≠d->b≠mA->HA b=some o->H' b=some o)->Dh H' v D)/\EOk D:=by
  match ir,r1 with
  |0,_ =>
   refine⟨_,.tuple [.str m.2.2.1,.tuple (m.2.2.2.map .str)],rfl,λH' k=>.tup (k _ _ (nt e1).1 (nt e1).2 e1) (.cons (.str _) (.cons (.tup (k _ _ (nt e2).1 (nt e2).2 e2) (qC7 _)) .nil)),qDm (qEj (n:=2) λi hi=>?_) (by decide),λx y e=>?_⟩
   ·rcases hAg.mp hi with z|z
    ·rw[z];exact qCe sP 2
    ·rw[hAd.mp z];exact qEj (n:=1) ss0
   ·have e:=PyData.tuple.inj e;rw[hB4,hB4]at e;exact⟨.inl ⟨_,e.1.symm⟩,λis e'=>by have:=e.2.1.trans e';cases this⟩
  |1,_ =>
   refine⟨_,.list [.str m.2.2.1,.list (m.2.2.2.map .str)],rfl,λH' k=>.lst (k _ _ nBd nBm e3) (.cons (.str _) (.cons (.lst (k _ _ nm1.2.1 nm1.1 lAm) (qC7 _)) .nil)),qDm (qCp (n:=2) λi hi=>?_) (by decide),λx y e=>(by cases e)⟩;rcases hAg.mp hi with z|z
   ·rw[z];exact qCe sP 2
   ·rw[hAd.mp z];exact qCp (n:=1) ss0
  |2,_=>exact⟨_,.none,rfl,λH' k=>.non,⟨rfl,hAy _⟩,λx y e=>(by cases e)⟩
  |3,_ =>
   refine⟨_,.tuple [.list (m.2.2.2.map .str),.str m.2.2.1],rfl,λH' k=>.tup (k _ _ (nt e4).1 (nt e4).2 e4) (.cons (.lst (k _ _ nm1.2.1 nm1.1 lAm) (qC7 _)) (.cons (.str _) .nil)),qDm (qEj (n:=2) λi hi=>?_) (by decide),λx y e=>?_⟩
   ·rcases hAg.mp hi with z|z
    ·rw[z];exact qCp (n:=1) ss0
    ·rw[hAd.mp z];exact qCe sP 2
   ·have e:=PyData.tuple.inj e;rw[hB4,hB4]at e;exact⟨.inr ⟨_,e.1.symm⟩,λis e'=>by have:=e.2.1.trans e';cases this⟩
  |4,_ =>
   refine⟨_,.tuple [.list [.str m.2.2.1],.list (m.2.2.2.map .str)],rfl,λH' k=>.tup (k _ _ (nt e6).1 (nt e6).2 e6) (.cons (.lst (k _ _ nCd nCm e5) (.cons (.str _) .nil)) (.cons (.lst (k _ _ nm1.2.1 nm1.1 lAm) (qC7 _)) .nil)),qDm (qEj (n:=2) λi hi=>?_) (by decide),λx y e=>?_⟩
   ·rcases hAg.mp hi with z|z
    ·rw[z];refine qCp (n:=1) λj hj=>?_
     rw[hAd.mp hj];exact qCe sP 1
    ·rw[hAd.mp z];exact qCp (n:=1) ss0
   ·have e:=PyData.tuple.inj e;rw[hB4,hB4]at e;refine⟨.inr ⟨_,e.1.symm⟩,λis e'=>?_⟩;have:=e.2.1.trans e';cases PyData.list.inj this;rw[hA4];omega
  |n+5,h=>exfalso;omega
 obtain⟨v,D,hv1,hv2,hv3⟩:=hv;refine⟨lD,_,_,v,rfl,rfl,SqL.of e7',qAq hv1,_,rfl,_,rfl,mA,_,_,_,rfl,rfl,mdB.ma,im,?_⟩;exact⟨_,rfl,put v D hv2 hv3⟩
end
noncomputable def qX8(net:List Tr)(x:Str):List Str:=(net.filter λt=>decide (t.2.1=x)).map (·.1)++(net.filter λt=>decide (t.2.2=x)).map (·.1)
theorem qGj(x:Str):∀net:List Tr,(qX8 net x).Perm (starF net x)
 |[]=>.nil
 |t :: net=>by
  have ih:=qGj x net;rw[qGq];refine List.Perm.trans ?_ (List.Perm.append_left _ ih);unfold qX8 stT;rw[hCd,hCd];by_cases a:t.2.1=x
  ·rw[hEs a,hEs (hEt a),hAn];by_cases b:t.2.2=x
   ·rw[hEs b,hEs (hEt b),hAn];show(t.1 :: (_++t.1 :: _)).Perm (t.1 :: t.1 :: _);exact List.Perm.cons _ List.perm_middle
   ·rw[hEr b,hEr (by rw[hEu b];exact hAo)];exact hDc _
  ·rw[hEr a,hEr (by rw[hEu a];exact hAo)];by_cases b:t.2.2=x
   ·rw[hEs b,hEs (hEt b),hAn];exact List.perm_middle
   ·rw[hEr b,hEr (by rw[hEu b];exact hAo)];exact hDc _
def zAu(net:List Tr)(p:Str)(e:PyData):Prop:=∃ss:List Str,e=dtE (p,ss)/\ss.Perm (starF net p)
theorem qOd{net:List Tr}:∀ {ps:List Str} {ds:List PyData},ds.length=ps.length->(∀i,i<ps.length->zAu net (ps.getD i "") (ds.getD i .none))->∃L:List (Str×List Str),ds=L.map dtE/\L.map (·.1)=ps/\∀l∈L,l.2.Perm (starF net l.1)
 |[],[],_,_=>⟨[],rfl,rfl,λl h=>by cases h⟩
 |[],_ :: _,h,_=>by simp at h
 |_ :: _,[],h,_=>by simp at h
 |p :: ps,e :: ds,h,k=>by
  obtain⟨L,rfl,rfl,hL⟩:=qOd (ps:=ps) (ds:=ds) (by simpa using h) λi hi=>k (i+1) (by simpa using hi)
  obtain⟨ss,he,hp⟩:=k 0 (by simp);have he:e=dtE (p,ss):=he;subst he;exact⟨(p,ss) :: L,rfl,rfl,λl hl=>by
   rcases hAg.mp hl with rfl|z
   ·exact hp
   ·exact hL l z⟩
theorem qSa{net:List Tr}{ps:List Str}{ds:List PyData}(pt:qGa net ps)(rp:qIh ps)(h:qU4 net (.list ds)):ds.length=ps.length/\∀i,i<ps.length->zAu net (ps.getD i "") (ds.getD i .none):=by
 obtain⟨L,e,rL,G⟩:=h;have e:=PyData.list.inj e;have el:L.map (·.1)=ps:=qN3 G.pts pt rL rp;subst e;refine⟨by rw[hA4,<-el,hA4],λi hi=>?_⟩;have hl:i<L.length:=by rw[<-el,hA4]at hi;exact hi
 have h1:ps.getD i ""=(L[i]).1:=by rw[<-el,hAa,hAc,hA8 hl];rfl
 have h2:(L.map dtE).getD i .none=dtE L[i]:=by rw[hAa,hAc,hA8 hl];rfl
 rw[h1,h2];exact⟨(L[i]).2,rfl,qGu G _ (hBy hl)⟩
section
variable{α:Type}[DecidableEq α]
theorem zAp(h:Nat->Nat)(v:Nat)(R:List (List α)):cE h v R=(((List.range R.length).filter λi=>decide (h i=v)).map (lenR R)).sum:=by
 have go:∀n,((qJv R n).countP (pF h v))=(((List.range n).filter λi=>decide (h i=v)).map (lenR R)).sum:=λn=>by
  induction n with
  |zero=>rfl
  |succ n ih =>
   rw[qDg,List.countP_append,ih,hBv,hBk,hAf,List.sum_append];congr 1;by_cases z:h n=v
   ·rw[hCl (by exact hEt z),hCr,List.map_singleton,List.sum_singleton];have:∀e∈endQ n (lenR R n),pF h v e=true:=λe he=>by
     obtain⟨j,_,rfl⟩:=hAm.mp he;show(h n == v)=true;rw[z];simp
    rw[List.countP_eq_length.mpr this];unfold endQ;rw[hA4,hB1]
   ·rw[hCm (by rw[hEu z];exact hAo),hCr];have:∀e∈endQ n (lenR R n),¬pF h v e=true:=λe he=>by
     obtain⟨j,_,rfl⟩:=hAm.mp he;show ¬(h n == v)=true
     simpa using z
    rw[List.countP_eq_zero.mpr this];rfl
 exact go R.length
theorem qYd{net:List Tr}{ps:List Str}{R:List (List Str)}(G:Rnd net ps R){h:Nat->Nat}(La:Lab R h){i:Nat}(hi:i<R.length):∃m,cE h (h i) R=2*m:=by
 have M:=qIw G;have hp:ps.getD i ""∈ps:=qGw G hi;have e:cE h (h i) R=cE (hmI net ps) (hmI net ps i) R:=by
  unfold cE;refine hCa λe he=>?_
  unfold pF;rw[hG6,hG6];constructor
  ·intro q;exact(La.one i e.1 hi (qAs he) q.symm (λk=>hmI net ps k=hmI net ps i) (λe he q=>by
    have:=M.tie e he;exact this.trans q) rfl)
  ·intro q;exact(M.one i e.1 hi (qAs he) q.symm (λk=>h k=h i) (λe he q=>by rw[La.tie e he];exact q) rfl)
 rw[e];exact⟨_,qVk G (qKv G hp)⟩
noncomputable def fcn(h:Nat->Nat)(v:Nat)(Fs:List (List Ps)):Nat:=Fs.countP λF=>decide (F.head?.map (λe=>h e.1)=some v)
theorem qUo(h:Nat->Nat)(v:Nat)(Fs:List (List Ps))(e:Ps)(l:List Ps):fcn h v (Fs++[e :: l])=fcn h v Fs+if h e.1=v then 1 else 0:=by
 unfold fcn;rw[List.countP_append,List.countP_singleton];congr 1;show(if decide (some (h e.1)=some v)=true then 1 else 0)=_;by_cases z:h e.1=v
 ·rw[hEs z,hEs (by rw[z];simp)]
 ·rw[hEr z,hEr (by simpa using z)]
theorem qSe{R:List (List α)}(tw:Tw R){h:Nat->Nat}(La:Lab R h){Fs:List (List Ps)}(hF:IsF R Fs)(hn:∀F∈Fs,F≠[])(v:Nat):fcn h v Fs=qDo (pF h v) Fs:=by
 unfold fcn qDo;rw[hDh];congr 1;refine hEk λF hFm=>?_
 cases F with
 |nil=>exact absurd rfl (hn _ hFm)
 |cons x l =>
  have c:=hF.cyc _ hFm;have cst:=c.all (S:=λe=>pF h v e=pF h v x) (λe he q=>by rw[qT1 tw La v e (qB7 hF hFm he),q]) hAb rfl;show decide (some (h x.1)=some v)=_;rw[hBq,hC5,hEv];constructor
  ·intro z;exact⟨x,hAb,by unfold pF;rw[hAh z];simp⟩
  ·rintro⟨e,he,q⟩;rw[cst e he]at q;unfold pF at q;rw[beq_iff_eq.mp q]
end
theorem qUp{net:List Tr}{ps:List Str}{R:List (List Str)}(G:Rnd net ps R):(ends R).length=2*net.length:=by
 rw[(qOr G).length_eq];have go:∀l:List Tr,(∀t∈l,t∈net)->(l.flatMap λt=>occ R t.1).length=2*l.length:=λl=>by
  induction l with
  |nil=>intro _;rfl
  |cons t l ih =>
   intro h;have:=(qI1 G (h t hAb)).length_eq;rw[hA4]at this;rw[hDb,hAk,ih λu hu=>h u (hAe _ hu),this];show 2+2*l.length=2*(l.length+1);omega
 exact go net λt h=>h
noncomputable def RS(R:List (List Str)):List (List Key):=R.map (List.map (Sum.inr:Str->Key))
theorem qJf(a b:Str)(h:(Sum.inr a:Key)=Sum.inr b):a=b:=Sum.inr.inj h
theorem qTq{net:List Tr}{L:List (Str×List Str)}(G:Rnd net (L.map (·.1)) (L.map (·.2))){i:Nat}(hi:i<L.length):0<lenR (L.map (·.2)) i:=by
 have h1:(L[i]).1∈L.map (·.1):=hAr (hBy hi);obtain⟨t,ht,z⟩:=(G.pts.2 _).mp h1;have h2:=qGu G _ (hBy hi);have e:lenR (L.map (·.2)) i=(L[i]).2.length:=by unfold lenR qAx;rw[hAa,hAc,hA8 hi];rfl
 rw[e,h2.length_eq];refine List.length_pos_iff.mpr λq=>?_
 have m:t.1∈starF net (L[i]).1:=by
  unfold starF;refine hCe.mpr ⟨_,hAr ht,?_⟩;unfold stT;rcases z with z|z
  ·rw[hEs z.symm];exact hAx _ (by simp)
  ·rw[hEs (c:=t.2.2=_) z.symm];exact hAq _ (by simp)
 rw[q]at m;cases m
theorem qYa{R:List (List Str)}{Fs:List (List Ps)}(D:Dn (onR R) (ends R) Fs){e:Ps}{l:List Ps}(w:Wk (onR R) (ends R) [] e l e)(ne:e∉Fs.flatten):Dn (onR R) (ends R) (Fs++[e :: l]):=by
 refine D.more ⟨w.lk,w.nd,w.inE,λu hu hm=>ne ?_⟩;have c:Cyc (onR R) (e :: l):=w.lk;refine c.all (S:=λu=>u∈Fs.flatten) (λx _ hx=>?_) hu hm e hAb;obtain⟨F,hF,hxF⟩:=hCe.mp hx;exact hCe.mpr ⟨F,hF,(D.cyc F hF).closed x hxF⟩
theorem qX6{h:Nat->Nat}{Fs:List (List Ps)}{R:List (List Str)}(tw:Tw R)(La:Lab R h)(hF:IsF R Fs)(hn:∀F∈Fs,F≠[]){i:Nat}(hi:0<lenR R i):fcn h (h i) Fs≠0:=by
 rw[qSe tw La hF hn];have he:((i,0):Ps)∈ends R:=qAn.mpr hi;obtain⟨F,hFm,hx⟩:=hCe.mp (hF.all.mem_iff.mpr he);unfold qDo;intro z;have:F∈Fs.filter λF=>F.any (pF h (h i)):=hC0.mpr ⟨hFm,hC5.mpr ⟨_,hx,by unfold pF;simp⟩⟩
 rw[hD2.mp z]at this;cases this
theorem qUv{net:List Tr}{ps:List Str}{R:List (List Str)}(G:Rnd net ps R){h:Nat->Nat}(La:Lab R h){Fs:List (List Ps)}(hF:IsF R Fs)(hn:∀F∈Fs,F≠[]):qLv R↔∀i,i<R.length->((fcn h (h i) Fs:Nat):Int)=(cE h (h i) R:Nat) / 2-(cP h (h i) R.length:Nat)+2:=by
 have tw:=qC2 G;have one:∀i,i<R.length->((2*qDo (pF h (h i)) Fs+2*cP h (h i) R.length=cE h (h i) R+4)↔((fcn h (h i) Fs:Nat):Int)=(cE h (h i) R:Nat) / 2-(cP h (h i) R.length:Nat)+2):=λi hi=>by
  obtain⟨m,hm⟩:=qYd G La hi;rw[qSe tw La hF hn,hm];omega
 constructor
 ·rintro⟨g,Gs,hG,Lg,C⟩ i hi;exact(one i hi).mp (qK8 tw hG hF Lg La C i hi)
 ·intro q;exact⟨h,Fs,hF,La,λi hi=>(one i hi).mpr (q i hi)⟩
end My
namespace L2
open PySem PySem.Spec PyProof.Rows
def Ris(xs:Array Nat):Prop:=xs.toList.Pairwise (· < ·)
theorem Ris.lt(h:Ris xs)(hij:i<j)(hj:j<xs.size):xs.getD i 0<xs.getD j 0:=by
 have hi:i<xs.size:=by omega
 have e:=List.pairwise_iff_getElem.mp h i j (by simpa using hi) (by simpa using hj) hij;simp only[Array.getElem_toList]at e;rw[hB9,hB9,hAv hi,hAv hj];exact e
theorem qX1{xs:Array Nat}{i:Nat}(hi:i<xs.size)(a b:Nat):xs.getD i a=xs.getD i b:=by
 rw[hB9,hB9,hAv hi];rfl
theorem qJs{xs:Array Nat}(hr:Ris xs)(j:Nat):∀fuel lo hi,hi<=xs.size->hi-lo<=fuel->lo<=hi->(∀i,i<lo->xs.getD i 0<j)->(∀i,hi<=i->i<xs.size->j<=xs.getD i 0) ->
  SetTable.below.go xs j fuel lo hi<=xs.size/\(∀i,i<SetTable.below.go xs j fuel lo hi->xs.getD i 0<j)/\∀i,SetTable.below.go xs j fuel lo hi<=i->i<xs.size->j<=xs.getD i 0
 |0,lo,hi,h1,h2,h3,a,b=>by
  have e:lo=hi:=by omega
  subst e;exact⟨h1,a,b⟩
 |fuel+1,lo,hi,h1,h2,h3,a,b=>by
  unfold SetTable.below.go;by_cases c:lo<hi
  ·rw[hEs c];dsimp only;have hm:(lo+hi) / 2<xs.size:=by omega
   rw[qX1 hm j 0];by_cases d:xs.getD ((lo+hi) / 2) 0<j
   ·rw[hEs d];refine qJs hr j fuel _ hi h1 (by omega) (by omega) (λi hi'=>?_) b;rcases Nat.lt_or_ge i ((lo+hi) / 2) with z|z
    ·exact Nat.lt_trans (hr.lt z hm) d
    ·have:i=(lo+hi) / 2:=by omega
     rw[this];exact d
   ·rw[hEr d];refine qJs hr j fuel lo _ (by omega) (by omega) (by omega) a λi hi' hs=>?_
    rcases Nat.lt_or_ge ((lo+hi) / 2) i with z|z
    ·exact hBa (Nat.le_of_not_lt d) (hBz (hr.lt z hs))
    ·have:i=(lo+hi) / 2:=by omega
     rw[this];exact Nat.le_of_not_lt d
  ·rw[hEr c];have e:lo=hi:=by omega
   subst e;exact⟨h1,a,b⟩
theorem qFz(hr:Ris xs)(j:Nat):SetTable.below xs j<=xs.size/\(∀i,i<SetTable.below xs j->xs.getD i 0<j)/\∀i,SetTable.below xs j<=i->i<xs.size->j<=xs.getD i 0 :=
 qJs hr j xs.size 0 xs.size (hAj _) (by omega) (hAy _) (λi h=>absurd h (hD6 _)) λi h1 h2=>by omega
theorem qPp(hr:Ris xs):SetTable.below xs 0=0:=by
 obtain⟨_,a,_⟩:=qFz hr 0;rcases Nat.eq_zero_or_pos (SetTable.below xs 0) with z|z
 ·exact z
 ·exact absurd (a 0 z) (hD6 _)
theorem qPq(hr:Ris xs)(hi:i<xs.size):SetTable.below xs (xs.getD i 0+1)=i+1:=by
 obtain⟨p,a,b⟩:=qFz hr (xs.getD i 0+1);rcases Nat.lt_trichotomy (SetTable.below xs (xs.getD i 0+1)) (i+1) with z|z|z
 ·have:=b i (by omega) hi;omega
 ·exact z
 ·have h1:=a (i+1) z;have h2:=hr.lt (show i<i+1 by omega) (show i+1<xs.size by omega);omega
theorem Ris.put(hr:Ris xs)(n:xs[SetTable.below xs j]?≠some j):Ris (SetTable.insertAt xs (SetTable.below xs j) j):=by
 obtain⟨p,a,b⟩:=qFz hr j;generalize SetTable.below xs j=k at *;unfold Ris;rw[SetTable.toList_insertAt];have gx:∀i,i<xs.size->xs.toList[i]?=some (xs.getD i 0):=λi hi=>by
  rw[hB0,hB9,hAv hi];rfl
 have dr:∀y∈xs.toList.drop k,j<y:=λy hy=>by
  obtain⟨i,hi⟩:=hDp.mp hy;rw[List.getElem?_drop]at hi;have hl:k+i<xs.size:=by
   have:=(hAz.mp hi).1
   simpa using this
  rw[gx _ hl]at hi;have e:=hAh hi;have h1:=b (k+i) (Nat.le_add_right _ _) hl;rcases Nat.eq_zero_or_pos i with z|z
  ·subst z;rcases Nat.lt_or_ge j y with q|q
   ·exact q
   ·exfalso;refine n ?_;have hk:k<xs.size:=by omega
    have:=gx k hk;rw[hB0]at this;rw[this];have e2:xs.getD (k+0) 0=xs.getD k 0:=rfl;exact congrArg some (by omega)
  ·have:=hr.lt (show k<k+i by omega) hl;have:=b k (hAj _) (by omega);omega
 have tk:∀y∈xs.toList.take k,y<j:=λy hy=>by
  obtain⟨i,hi⟩:=hDp.mp hy;rw[List.getElem?_take]at hi;by_cases c:i<k
  ·rw[hEs c]at hi;rw[gx _ (by omega)]at hi;have e:=hAh hi;have:=a i c;omega
  ·rw[hEr c]at hi;cases hi
 refine List.pairwise_append.mpr ⟨hr.sublist (List.take_sublist _ _),hD4.mpr ⟨dr,hr.sublist (List.drop_sublist _ _)⟩,λx hx y hy=>?_⟩;rcases hAg.mp hy with rfl|hy
 ·exact tk x hx
 ·exact Nat.lt_trans (tk x hx) (dr y hy)
theorem Ris.range(n:Nat):Ris (Array.range n):=by
 unfold Ris;rw[Array.toList_range];exact List.pairwise_lt_range
theorem Ris.stand{t:SetTable}{n:Nat}(h:Ris t.place):Ris (t.orStandIn n).place:=by
 unfold SetTable.orStandIn;split
 ·exact h
 ·exact Ris.range n
theorem qFf(t:SetTable)(p:SetTable.Probe):(t.advance p).dummy=p.dummy:=by
 unfold SetTable.advance;split <;> rfl
theorem qFo:∀(fuel:Nat) (p:SetTable.Probe),(∀d,p.dummy=some d->t.slot d = .dummy)->SetTable.probe.go t f h fuel p=some (.empty j dm)->t.slot j = .empty/\∀d,dm=some d->t.slot d = .dummy
 |0,p,_,e=>by cases e
 |fuel+1,p,hd,e=>by
  unfold SetTable.probe.go at e;cases hs:t.slot p.j with
  |empty =>
   rw[hs]at e;injection e with e
   injection e with e1 e2
   subst e1 e2;exact⟨hs,hd⟩
  |dummy =>
   rw[hs]at e;refine qFo fuel _ (λd q=>?_) e;rw[qFf]at q;have q':p.j=d:=hAh q;rw[<-q'];exact hs
  |live i =>
   rw[hs]at e;dsimp only at e;split at e
   ·cases e
   ·refine qFo fuel _ (λd q=>?_) e;rw[qFf]at q;exact hd d q
theorem qNp{t:SetTable}{j:Nat}(h:∀i,t.slot j≠.live i):t.place[SetTable.below t.place j]?≠some j:=λe=>by
 refine h (SetTable.below t.place j) ?_;unfold SetTable.slot;dsimp only;rw[hEs (by rw[e];exact hFf _)]
theorem qUj{t:SetTable}{h:Int}{j:Nat}{b:Bool}(e:t.freeSlot h=some (j,b)):t.place[SetTable.below t.place j]?≠some j:=by
 unfold SetTable.freeSlot at e;split at e
 ·rename_i k dm q;obtain⟨a1,a2⟩:=qFo _ _ (λd z=>by cases z) q;injection e with e
  injection e with e1 e2
  cases dm with
  |none =>
   have:k=j:=e1;subst this;exact qNp λi z=>by rw[a1]at z;cases z
  |some d =>
   have:d=j:=e1;subst this;exact qNp λi z=>by rw[a2 d rfl]at z;cases z
 ·cases e
theorem qPf{t:SetTable}(hr:Ris t.place)(es:Array (Int×Value))(h:Int)(x:Value):Ris (layNew t es h x).2.1.place:=by
 unfold layNew;split
 ·rename_i sl wd q;exact Ris.stand (hr.put (qUj q))
 ·exact Ris.range _
theorem qQp(es:Array (Int×Value))(k:Nat):Ris (relayAll t es k).2.1.place:=by
 unfold relayAll;split
 ·rename_i u order e;have eu:Ris u.place:=by
   unfold SetTable.relaid SetTable.laid at e;cases hc:SetTable.layClean (SetTable.sizeAbove k-1) (es.map (·.1)) with
   |none=>rw[hc]at e;cases e
   |some o =>
    rw[hc]at e;injection e with e
    injection e with e1 e2
    rw[<-e1];unfold Ris;dsimp only;rw[hC3];refine List.pairwise_filterMap.mpr (List.pairwise_lt_range.imp λ{a b} lt c hc d hd=>?_);cases oa:o.getD a none with
    |none=>rw[oa]at hc;cases hc
    |some va =>
     cases ob:o.getD b none with
     |none=>rw[ob]at hd;cases hd
     |some vb =>
      rw[oa]at hc;rw[ob]at hd;cases hc;cases hd;exact lt
  dsimp only;split
  ·exact eu
  ·exact Ris.range _
 ·exact Ris.range _
def qCd(P:Program)(w:World)(h:Heap)(a:Addr)(ss:List Int):Prop :=
 ∃(es:Array (Int×Value)) (ep:Nat) (t:SetTable),h.get? a=some { cls:=.type "set",dict:=none,data:=.set es ep t,slots:=#[] }/\ElemsOf (PySem.intKind P w) es.toList /\
  IntsAre (es.toList.map (·.2)) ss/\es.size<scanBound/\t.fits es.size=true/\t.led=!w.params.followText "set-order"/\Ris t.place
theorem qJb:∀ {vs:List Value} {ss:List Int},IntsAre vs ss->((∃v∈vs,Value.isInt x v=true)↔x∈ss)
 |_,_,.nil=>by simp
 |_,_,.cons y t r=>by
  have ih:=qJb (x:=x) r;have hy:Value.isInt x (.int y t)=true↔x=y:=by
   constructor
   ·intro h;obtain⟨u,e⟩:=Value.isInt_shape h;cases e;rfl
   ·rintro rfl;simp[Value.isInt]
  constructor
  ·rintro⟨v,hv,hp⟩;rcases hAg.mp hv with rfl|hv
   ·rw[hy.mp hp];exact hAb
   ·exact hAe _ (ih.mp ⟨v,hv,hp⟩)
  ·intro h;rcases hAg.mp h with h|h
   ·exact⟨_,hAb,hy.mpr h⟩
   ·obtain⟨v,hv,hp⟩:=ih.mpr h;exact⟨v,hAe _ hv,hp⟩
theorem qR4{es es1:List (Int×Value)}{ss:List Int}{k:Int}{x:Int}{t:Tok}(hS:IntsAre (es.map (·.2)) ss)(p:es1.Perm (es++[(k,.int x t)])):∃ss1,IntsAre (es1.map (·.2)) ss1/\ss1.Perm (ss++[x]):=by
 have hall:∀v,v∈es1.map (·.2)->∃y u,v = .int y u:=by
  intro v hv;obtain⟨e,he,rfl⟩:=hAm.mp hv;rcases hAp.mp (p.mem_iff.mp he) with z|z
  ·exact hS.all _ (hAr z)
  ·rw[hAd]at z;subst z;exact⟨x,t,rfl⟩
 refine⟨_,intsAre_map _ hall,?_⟩;have q:=(p.map (·.2)).map numOf;rw[hAf,hAf,hS.nums]at q;exact q
theorem qFt{es es1:List (Int×Value)}{ss:List Int}(hS:IntsAre (es.map (·.2)) ss)(p:es1.Perm es):∃ss1,IntsAre (es1.map (·.2)) ss1/\ss1.Perm ss:=by
 have hall:∀v,v∈es1.map (·.2)->∃y u,v = .int y u:=by
  intro v hv;obtain⟨e,he,rfl⟩:=hAm.mp hv;exact hS.all _ (hAr (p.mem_iff.mp he))
 refine⟨_,intsAre_map _ hall,?_⟩;have q:=(p.map (·.2)).map numOf;rw[hS.nums]at q;exact q
section
variable{P:Program}{w:World}{A:Around}{E:Value->Shared->Prop}{s:Shared}{a:Addr}{ss:List Int}
theorem qH8(ho:s.heap.get? a=some { cls:=.type "set",dict:=none,data:=.set es ep t,slots:=#[] }) :
  (s.heap.update a (Obj.putSet es' t')).get? a=some { cls:=.type "set",dict:=none,data:=.set es' (ep+1) t',slots:=#[] }:=by
 have q:=Heap.get?_update_self (Obj.putSet es' t') ho (by rw[putSet_of es' t' rfl];rfl);rw[putSet_of es' t' rfl]at q;exact q
theorem qKt{g:Bool->Sem Unit}(hg:∀(b:Bool) (s1:Shared) (Q':Unit->Shared->Prop),Q' () s1->wpAny (model P w) A (g b) Q' E s1){es es1:Array (Int×Value)}{ep:Nat}{t t2:SetTable}{ss1:List Int}
  (ho:s.heap.get? a=some { cls:=.type "set",dict:=none,data:=.set es ep t,slots:=#[] }) (e1:ElemsOf (PySem.intKind P w) es1.toList) (e2:IntsAre (es1.toList.map (·.2)) ss1) (e3:es1.size<scanBound) (e4:t2.fits es1.size=true)
  (e5:t2.led=!w.params.followText "set-order") (e6:Ris t2.place) {wasD:Bool} {R:Option Bool->Shared->Prop} (h:∀h' ss',Heap.SameBut a s.heap h'->qCd P w h' a ss'->ss'.Perm ss1->R (some true) { s with heap:=h' }) :
  wpAny (model P w) A (do
    storeSet a es1 t2
    if (!wasD && t2.tooFull)=true then do
      g (relayAll t2 es1 (SetTable.grown es1.size)).2.2
      storeSet a (relayAll t2 es1 (SetTable.grown es1.size)).1 (relayAll t2 es1 (SetTable.grown es1.size)).2.1
      pure (some true)
     else pure (some true)) R E s:=by
 refine hEp (hG4 ho rfl ?_ (hF6 e3));have o1:(s.heap.update a (Obj.putSet es1 t2)).get? a=_:=qH8 (s:=s) ho;have b1:=Heap.SameBut.update s.heap a (Obj.putSet es1 t2);split
 ·have p:=relayAll_perm t2 es1 (SetTable.grown es1.size);have f:=relayAll_fits t2 es1 (SetTable.grown es1.size);have l:=qKb t2 es1 (SetTable.grown es1.size);have pl:=qQp (t:=t2) es1 (SetTable.grown es1.size);generalize relayAll t2 es1 (SetTable.grown es1.size)=Rl at p f l pl ⊢;obtain⟨es2,t3,gv⟩:=Rl;dsimp only at p f l pl ⊢;have z2:es2.size=es1.size:=by rw[<-hBb,p.length_eq,hBb]
  obtain⟨ss2,q1,q2⟩:=qFt e2 p;refine hEp (hg _ _ _ (hEp (hG4 o1 rfl ?_ (hF6 (by rw[z2];exact e3)))));have o2:((s.heap.update a (Obj.putSet es1 t2)).update a (Obj.putSet es2 t3)).get? a=_:=qH8 (s:={ s with heap:=s.heap.update a (Obj.putSet es1 t2) }) o1;exact hEq (h _ ss2 (b1.trans (Heap.SameBut.update _ a _)) ⟨es2,_,t3,o2,e1.perm p,q1,by rw[z2];exact e3,f,l.trans e5,pl⟩ q2)
 ·exact hEq (h _ ss1 b1 ⟨es1,_,t2,o1,e1,e2,e3,e4,e5,e6⟩ (hDc _))
theorem qUa(hS:qCd P w s.heap a ss)(room:ss.length+1<scanBound)
  (h:∀h' ss',Heap.SameBut a s.heap h'->qCd P w h' a ss'->(if x∈ss then ss'=ss else ss'.Perm (ss++[x]))->Q (!decide (x∈ss)) { s with heap:=h' }) :
  wpAny (model P w) A (setAddHashed a (.int x tk) ((PySem.intKind P w).hash x)) Q E s:=by
 obtain⟨es,ep,t,ho,e1,e2,e3,e4,e5,e6⟩:=hS;have hk:(PySem.intKind P w).is x (.int x tk)=true:=intKind_is P w x tk;have hsc:Value.scannable (.int x tk)=true:=rfl;have hz:ss.length=es.size:=by rw[<-e2.nums,hA4,hA4,hBb]
 unfold setAddHashed setAddHashedIn;refine hEy (hEp (hF7 ho rfl e4 ?_));dsimp only;rw[byScan_of hsc e3 e1,hEs rfl];unfold setAddByScan;refine hEp (hEp (hFz (hEp (wpAny_setScan_of hk ho rfl e4 e1 ?_))));cases hr:List.findIdx? (λe=>(PySem.intKind P w).is x e.2) es.toList with
 |some j =>
  dsimp only;obtain⟨hj,hp,_⟩:=List.findIdx?_eq_some_iff_getElem.mp hr;have hm:x∈ss:=(qJb e2).mp ⟨_,hAr (hBy hj),hp⟩;have q:=h s.heap ss (Heap.SameBut.refl a _) ⟨es,ep,t,ho,e1,e2,e3,e4,e5,e6⟩ (by rw[hEs hm]);rw[hEt hm]at q;exact hEq (hEq q)
 |none =>
  dsimp only;have hm:¬x∈ss:=λz=>by
   obtain⟨v,hv,hp⟩:=(qJb e2).mpr z;obtain⟨e,he,rfl⟩:=hAm.mp hv;have q:=List.findIdx?_eq_none_iff.mp hr e he;rw[show(PySem.intKind P w).is x e.2=true from hp]at q;cases q
  have gw:∀(b:Bool) (s1:Shared) (Q':Unit->Shared->Prop),Q' () s1->wpAny (model P w) A (match b with|true=>rule "set.scan.the-table-gave-way" |false=>pure ()) Q' E s1:=λb s1 Q' hq=>by
   cases b
   ·exact hEq hq
   ·exact hFz hq
  have p:=layNew_perm t es ((PySem.intKind P w).hash x) (.int x tk);have f:=layNew_fits t es ((PySem.intKind P w).hash x) (.int x tk);have rs:=qPf e6 es ((PySem.intKind P w).hash x) (.int x tk);have l:=qH6 t es ((PySem.intKind P w).hash x) (.int x tk);generalize layNew t es ((PySem.intKind P w).hash x) (.int x tk)=L at p f l rs ⊢;obtain⟨es1,t1,wasD,gv⟩:=L;dsimp only at p f l rs ⊢;rw[Array.toList_push]at p;have d1:ElemsOf (PySem.intKind P w) es1.toList:=(e1.push hk hsc).perm p;obtain⟨ss1,d2,d3⟩:=qR4 e2 p;have z1:es1.size=es.size+1:=by rw[<-hBb,p.length_eq,hAk,hBb];rfl
  have d4:es1.size<scanBound:=by rw[z1,<-hz];exact room
  have fin:∀h' ss',Heap.SameBut a s.heap h'->qCd P w h' a ss'->ss'.Perm ss1->Q true { s with heap:=h' }:=λh' ss' b1 b2 b3=>by
   have q:=h h' ss' b1 b2 (by rw[hEr hm];exact b3.trans d3);rw[hEu hm]at q;exact q
  refine hEp (gw _ _ _ ?_);split
  ·rename_i hpl;refine hEp ?_;rw[hashByValue_scannable 8 hsc];refine hEq ?_;rw[show plainKind (.int x tk)=true from rfl,hEs rfl];refine qKt gw ho d1 d2 d4 f (l.trans e5) rs λh' ss' b1 b2 b3=>?_
   exact hEq (fin h' ss' b1 b2 b3)
  ·rename_i hpl;refine hEp (hEq ?_);rw[hEs rfl];refine qKt gw ho d1 d2 d4 f (l.trans e5) rs λh' ss' b1 b2 b3=>?_
   exact hEq (fin h' ss' b1 b2 b3)
end
theorem qCd.at(x:qCd P w h a ss)(k:∀o,h.get? a=some o->h'.get? a=some o):qCd P w h' a ss:=by
 obtain⟨es,ep,t,ho,r⟩:=x;exact⟨es,ep,t,k _ ho,r⟩
def qHr(val:Nat->Int)(i:Nat)(ss:List Int):Prop:=ss.Nodup/\ss.length<=i/\∀x,x∈ss↔∃j,j<i/\val j=x
theorem qHr.zero(val:Nat->Int):qHr val 0 []:=⟨hCf,hAj _,λx=>by simp⟩
theorem qHr.next(h:qHr val i ss)(e:if val i∈ss then ss'=ss else ss'.Perm (ss++[val i])):qHr val (i+1) ss':=by
 obtain⟨h1,h2,h3⟩:=h;by_cases hm:val i∈ss
 ·rw[hEs hm]at e;subst e;refine⟨h1,by omega,λx=>(h3 x).trans ⟨λ⟨j,a,b⟩=>⟨j,by omega,b⟩,λ⟨j,a,b⟩=>?_⟩⟩;by_cases hj:j<i
  ·exact⟨j,hj,b⟩
  ·have:j=i:=by omega
   subst this;subst b;exact(h3 _).mp hm
 ·rw[hEr hm]at e;refine⟨e.nodup_iff.mpr ?_,?_,λx=>?_⟩
  ·rw[hB6];exact⟨h1,by simp,λy hy z hz=>by rw[hAd]at hz;subst hz;rintro rfl;exact hm hy⟩
  ·rw[e.length_eq,hAk]
   simpa using h2
  ·rw[e.mem_iff,hAp,h3 x,hAd];constructor
   ·rintro(⟨j,a,b⟩|rfl)
    ·exact⟨j,by omega,b⟩
    ·exact⟨i,by omega,rfl⟩
   ·rintro⟨j,a,b⟩;by_cases hj:j<i
    ·exact .inl ⟨j,hj,b⟩
    ·have:j=i:=by omega
     subst this;exact .inr b.symm
section
variable{P:Program}{w:World}{A:Around}{R:Result->Shared->Prop}{I:Addr}{fp wr:List Addr}{G:Array GenState->Array GenState->Prop}{n:Nat}{Pv:Nat->Value->Prop}{St:Nat->Shared->Prop}
theorem qR0(W:WalksS P w A.in1 I fp wr G n Pv St)(S:Addr)(nS:S∉fp)(val:Nat->Int)(hv:∀i v,Pv i v->∃t,v = .int (val i) t)(nb:n+1<scanBound):∀(k i:Nat) (s:Shared) (ss:List Int),n-i=k->i<=n->St i s->qCd P w s.heap S ss->qHr val i ss ->
  (∀s' ss',Moved (S :: wr) G s s'->qCd P w s'.heap S ss'->qHr val n ss'->R (.ok (.ret .none)) s')->codeAny (model P w) A (.builtin "set.update.loop" ⟨[.ref S,.ref I],[]⟩) R s:=by
 have nw:S∉wr:=λz=>nS (W.sub _ z)
 have sub:∀b∈wr,b∈S :: wr:=λb z=>hAe _ z
 intro k
 induction k with
 |zero =>
  intro i s ss hk hi st hS ho r;have e:i=n:=by omega
  subst e;refine hF3 hCq ?_;rw[Around.under_plainId hC1 _];show wpAny _ A.in1 (pyNext (.ref I) >>= _) _ _ _;refine hEp (W.done s _ _ st λs1 m1=>hEq (r s1 ss (m1.mono sub) (hS.at λo z=>m1.heap S o nw z) ho))
 |succ k ih =>
  intro i s ss hk hi st hS ho r;have lt:i<n:=by omega
  refine hF3 hCq ?_;rw[Around.under_plainId hC1 _];show wpAny _ A.in1 (pyNext (.ref I) >>= _) _ _ _;refine hEp (W.item i s _ _ lt st λv s1 pv st1 m1=>?_);obtain⟨t,rfl⟩:=hv i v pv;have hS1:qCd P w s1.heap S ss:=hS.at λo z=>m1.heap S o nw z
  show wpAny _ A.in1 (holding [Value.int (val i) t] (setAdd S (.int (val i) t)) >>= _) _ _ s1;refine hEp (hEy ?_);unfold setAdd;refine hEy (hEp ((PySem.intKind P w).pyHash (intKind_is P w _ _) ?_));refine qUa (s:={ s1 with toks:=s1.toks+1 }) hS1 (by have:=ho.2.1;omega) λh2 ss2 sb2 hS2 q2=>?_
  refine hEq ⟨hFq hC1 _,ih (i+1) _ ss2 (by omega) lt (W.frame _ s1 _ _ st1 (hBl _) λb hb o e=>?_) hS2 (ho.next q2) λs3 ss3 m3 hS3 o3=>?_⟩
  ·rw[sb2.2 b (λz:b=S=>nS (by rw[<-z];exact hb))];exact e
  ·refine r s3 ss3 (Moved.trans W.gtrans ((m1.mono sub).then_heap (hBl _) λb o hb e=>?_) m3) hS3 o3;rw[sb2.2 b (λz:b=S=>hb (by rw[z];exact hAb))];exact e
end
section
variable{P:Program}{w:World}{A:Around}{E:Value->Shared->Prop}{s:Shared}
theorem qTj(P:Program)(w:World)(e:h.get? a=some (qGs w)):qCd P w h a []:=⟨#[],0,_,e,λe he=>by simp at he,.nil,by show 0<scanBound;decide,by rfl,rfl,List.Pairwise.nil⟩
theorem qPn(hh:A.handled=none)(hl:s.heap.IsList l items)(hi:IntsAre items.toList ss0)(hb:items.size+1<scanBound)
  (h:∀(h':Heap) (tk:Nat) (ss:List Int),qCd P w h' s.heap.objs.size ss->qHr (λi=>ss0.getD i 0) items.size ss->(∀b o,b<s.heap.objs.size->s.heap.get? b=some o->h'.get? b=some o)->Q (.ref s.heap.objs.size) { s with heap:=h',toks:=tk }) :
  wpAny (model P w) A (call (.type "set") [.ref l]) Q E s:=by
 obtain⟨c,tl,hmro⟩:=hBn.mro;have hmade:=hBn.made;have hsub:=hBn.sub;refine wpAny_call (hGb ?_);show wpAny _ _ (callAny (.type "set") _) _ _ _;refine hEq ⟨Code.quiet_builtin _ (by decide +kernel),hF3 PySem.F.entry_type_call ?_⟩;rw[Around.under_plain (weight_type_call_type "set" [.ref l] []) rfl];have h1:=hBn.notType;have h2:=hBn.canCreate;have hct:=PySem.F.typeCall_set_1 (.ref l)
 repeat (any_goals (first|assumption|wp_step))
 refine hFw (qLd (.ref l) (E:=E) (Q1:=λobj s1=>obj = .ref s.heap.objs.size/\s1={ s with heap:=s.heap.push (qGs w) }) ⟨rfl,rfl⟩) λr s1 hr=>?_
 cases r with
 |error e=>exact hr
 |ok fl =>
  cases fl with
  |ret obj =>
   obtain⟨rfl,rfl⟩:=hr;have hS:(s.heap.push (qGs w)).get? s.heap.objs.size=some (qGs w):=Heap.get?_push_size _ rfl;have hT:Shared.TypeIs { s with heap:=s.heap.push (qGs w) } (.ref s.heap.objs.size) "set":=⟨_,hS,rfl⟩;have hli:=hBn.init.lookup;have hbi:=hBn.init.bind (.ref s.heap.objs.size)
   repeat (any_goals (first|assumption|wp_step))
   refine hFw (codeAny_call_builtin (R:=wants (λr s2=>r = .none/\∃h' tk ss,s2={ s with heap:=h',toks:=tk }/\qCd P w h' s.heap.objs.size ss/\qHr (λi=>ss0.getD i 0) items.size ss /\
     (∀b o,b<s.heap.objs.size->s.heap.get? b=some o->h'.get? b=some o)) E) hBn.init.plain PySem.F.entry_set_init (check_set_init_1 hT ?_)) λr2 s2 hr2=>?_
   ·obtain⟨ol,hol,hcl,nl,hdl⟩:=hl;obtain⟨ocls,odict,odata,oslots⟩:=ol;simp only at hcl hdl;subst hcl;subst hdl;have hol':(s.heap.push (qGs w)).get? l=some { cls:=.type "list",dict:=odict,data:=.seq items nl,slots:=oslots }:=Heap.get?_push_of_some _ hol;have hsls:=PySem.F.sub_list_set;have hslf:=PySem.F.sub_list_frozenset;have hne:(Value.type "list" == Value.type "dict")=false:=by decide
    have hl1:(s.heap.push (qGs w)).IsList l items:=⟨_,hol',rfl,nl,rfl⟩;unfold Builtin.«set.__init__» noKeywords Builtin.Frozenset.updateFrom;generalize hPI:pyIter=PI
    wp_walk
    subst hPI;refine hFc hl1 (hEp (hG7 ?_));have lS:l<s.heap.objs.size:=Heap.lt_size hol;have h3:A.in1.in1.in1.handled=none:=by simp[hh]
    have nI:l≠(s.heap.push (qGs w)).objs.size:=by
     rw[Heap.size_push];exact hAt (hB5 lS)
    have nF:s.heap.objs.size∉[(s.heap.push (qGs w)).objs.size,l]:=by
     rw[Heap.size_push];simp only[hAg,hAd,hC6,hFv,not_or];exact⟨hAt (hBp _),hCn lS⟩
    have hval:∀(i:Nat) (v:Value),items[i]?=some v->∃t,v = .int ((λi=>ss0.getD i 0) i) t:=λi v hv=>by
     have hv':items.toList[i]?=some v:=by rw[hB0];exact hv
     obtain⟨x,t,rfl⟩:=hi.all v (hAs hv');refine⟨t,?_⟩;have e:=congrArg (λz=>z[i]?) hi.nums;simp only[hAc,hv']at e;show Value.int x t=Value.int (ss0.getD i 0) t;rw[hAa,<-e];rfl
    refine qR0 ((Walks.list h3 _ l nI items).toS) s.heap.objs.size nF (λi=>ss0.getD i 0) hval hb (items.size-0) 0 _ [] (by omega) (hAy _) ⟨⟨_,Heap.get?_push_size _ rfl,rfl,rfl⟩,(hl1.push _)⟩ (qTj P w (Heap.get?_push_of_some _ hS)) (qHr.zero _) λs' ss' hm hS' hO=>?_
    obtain⟨h',g',d',tk',os'⟩:=s';cases(show g'=s.gens from hm.gens);cases(show d'=s.drawn from hm.drawn);cases(show os'=s.os from hm.os);show wpAny _ _ _ _ _ _;refine hEq ?_;show wpAny _ _ (ret Value.none) _ _ _;refine hEq ⟨rfl,h',tk',ss',rfl,hS',hO,λb o hb e=>?_⟩;have b1:b≠s.heap.objs.size:=hAt hb;have b2:b≠(s.heap.push (qGs w)).objs.size:=by
     rw[Heap.size_push];exact hAt (hB5 hb)
    exact hm.heap b o (by simp only[hAg,hAd,hC6,hFv,not_or];exact⟨b1,b2⟩) (Heap.get?_push_of_some _ (Heap.get?_push_of_some _ e))
   ·cases r2 with
    |error e=>exact hr2
    |ok fl2 =>
     cases fl2 with
     |ret r =>
      obtain⟨rfl,h',tk,ss,rfl,hS',hO,hk'⟩:=hr2
      repeat (any_goals (first|assumption|wp_step))
      exact h _ _ _ hS' hO hk'
     |_=>exact hr2.elim
  |_=>exact hr.elim
end
section
variable{P:Program}{w:World}{A:Around}{E:Value->Shared->Prop}{s:Shared}{a:Addr}{es:Array (Int×Value)}{ep:Nat}{t:SetTable}
theorem qLw(ho:s.heap.get? a=some { cls:=.type "set",dict:=none,data:=.set es ep t,slots:=#[] })(hf:t.fits es.size=true)(hb:w.params.followText "set-order"=false)(h1:¬(!t.plain && decide (es.size > 1))=true)(hl:t.led=true)
  (h:Q (match es[SetTable.below t.place slot]?,t.place[SetTable.below t.place slot]? with|some (_,x),some j=>some (x,j+1)|_,_=>none) s):wpAny (model P w) A (setNext a slot i ep) Q E s:=by
 unfold setNext;refine hEp (hF7 ho rfl hf ?_);unfold setsByText;refine hEp (hEp (hF5 (hEq ?_)));show wpAny _ _ (if (w.params.followText "set-order")=true then _ else _) _ _ _;rw[hEr (by rw[hb];exact hAo)];show wpAny _ _ (if (!t.plain && decide (es.size > 1))=true then _ else _) _ _ _;rw[hEr h1];refine hEp ?_;show wpAny _ _ (if (!t.led && !es.isEmpty)=true then _ else _) _ _ _;rw[hEr (by rw[hl];simp)];exact hEq (hEq h)
end
section
variable{P:Program}{w:World}{A:Around}{E:Value->Shared->Prop}{s:Shared}{a:Addr}{ss:List Int}
theorem qPg(hS:qCd P w s.heap a ss)
  (h:∀(I:Addr) (fp:List Addr) (vs:List Value) (ss1:List Int) (St:Nat->Heap->Prop) (h1:Heap) (d:Drawn),IntsAre vs ss1->ss1.Perm ss->(∀b o,s.heap.get? b=some o->h1.get? b=some o)->(∀A:Around,A.handled=none->Walks P w A I fp [I] vs.length (λi v=>vs[i]?=some v) St) ->
   St 0 h1->I∈fp->(∀b∈fp,b<h1.objs.size/\(b=a\/s.heap.objs.size<=b))->s.heap.objs.size<=I->s.heap.objs.size<=h1.objs.size->Q (.ref I) { s with heap:=h1,drawn:=d }):wpAny (model P w) A (pyIter (.ref a)) Q E s:=by
 obtain⟨es,ep,t,ho,e1,e2,e3,e4,e5,e6⟩:=hS;have hT:s.TypeIs (.ref a) "set":=⟨_,ho,rfl⟩;have ha:a<s.heap.objs.size:=Heap.lt_size ho;have hp4:t.place.size=es.size:=by
  unfold SetTable.fits at e4;rw[hC4]at e4;exact eq_of_beq e4.1
 refine hF8 hT hEh (hEx hEh hT FS.entry_set_iter' ?_ (PySem.F.args_set_iter_1 _));unfold Builtin.«frozenset.__iter__» Builtin.Frozenset.slot0;refine hEp (hEp (hEq (hEq ?_)));unfold Builtin.Frozenset.sizeOf;refine hEp (hEp (hFe ho rfl e4 (hEq ?_)));refine hEp (qGm ho e4 ?_);dsimp only;cases hb:w.params.followText "set-order" with
 |true =>
  rw[hEr (by simp)];refine hEp (hEq (hEp (hFn ho rfl e4 ?_)));show wpAny _ _ (newFields "set_iterator" _ >>= _) _ _ _;refine hEp (hEw (hEq ⟨_,rfl,"set_iterator",_,⟨_,Heap.get?_push_size _ rfl,rfl⟩,FS.slot_sin.lookup,?_⟩) (by show 5<=_;decide));have p:=pick_perm (w.params.setOrder a ep) es;obtain⟨ss1,q1,q2⟩:=qFt e2 p;refine h s.heap.objs.size [s.heap.objs.size,a] _ ss1 _ _ s.drawn q1 q2 (λb o e=>Heap.get?_push_of_some _ e) (qEp (ep:=ep) (es:=es) (t:=t) (hAt ha) e4 _ (λ_=>0) ?_) ⟨Heap.get?_push_size _ rfl,Heap.get?_push_of_some _ ho⟩ (by simp) ?_ (hAj _) (by rw[Heap.size_push];exact hBl _)
  ·intro A' E' s' Q' i hi ho' hq;refine qGl ho' e4 hb ?_;rw[hAc,hB0,Option.map_map]at hq;exact hq
  ·intro b hbm;rw[Heap.size_push];simp at hbm;rcases hbm with rfl|rfl
   ·exact⟨hBp _,.inr (hAj _)⟩
   ·exact⟨hB5 ha,.inl rfl⟩
 |false =>
  have led:t.led=true:=by rw[e5,hb];rfl
  by_cases hz:(!t.plain && decide (es.size > 1))=true
  ·rw[hEs (by rw[Bool.not_false,Bool.true_and];exact hz)];refine hEp (qDu es.size (List.range es.size) s _ (by simp) λps d pp=>?_);refine hEp (hG8 (s:={ s with drawn:=d }) ?_ (by rw[hA4,pp.length_eq,hB1];exact hF6 e3));have ho1:(s.heap.push (tOb (ps.map λ(p:Nat)=>rawInt p).toArray)).get? a=some (sOb es ep t):=Heap.get?_push_of_some _ ho;refine hEp (hFn (s:={ s with heap:=s.heap.push (tOb (ps.map λ(p:Nat)=>rawInt p).toArray),drawn:=d }) ho1 rfl e4 ?_);show wpAny _ _ (newFields "set_iterator" _ >>= _) _ _ _;refine hEp (hEw (hEq ⟨_,rfl,"set_iterator",_,⟨_,Heap.get?_push_size _ rfl,rfl⟩,FS.slot_sin.lookup,?_⟩) (by show 5<=_;decide));have hlt:∀p∈ps,p<es.size:=λp hm=>hAw.mp (pp.mem_iff.mp hm)
   have ep1:(ps.filterMap λp=>es[p]?).Perm es.toList:=by
    have q:=pp.filterMap λp=>es[p]?
    rw[filterMap_getElem?_range]at q;exact q
   have hfm:∀l:List Nat,(∀p∈l,p<es.size)->(l.filterMap λp=>es[p]?).length=l.length/\∀(i p:Nat),l[i]?=some p->∃k x,es[p]?=some (k,x)/\((l.filterMap λp=>es[p]?).map (·.2))[i]?=some x:=by
    intro l
    induction l with
    |nil=>intro _;exact⟨rfl,λi p z=>by simp at z⟩
    |cons c l ih =>
     intro hm;obtain⟨i1,i2⟩:=ih λp hp=>hm p (hAe _ hp)
     have hcl:c<es.size:=hm c hAb;have hc:es[c]?=some es[c]:=hAv hcl;rw[hCv,hc];refine⟨by simp[i1],λi p z=>?_⟩;cases i with
     |zero =>
      have e:c=p:=by simpa using z
      subst e;exact⟨_,_,hc,by simp⟩
     |succ i =>
      obtain⟨k,x,a1,a2⟩:=i2 i p (by simpa using z);exact⟨k,x,a1,by simpa using a2⟩
   obtain⟨f1,f2⟩:=hfm ps hlt;obtain⟨ss1,q1,q2⟩:=qFt e2 ep1;have sz1:(s.heap.push (tOb (ps.map λ(p:Nat)=>rawInt p).toArray)).objs.size=s.heap.objs.size+1:=Heap.size_push ..;refine h (s.heap.push (tOb (ps.map λ(p:Nat)=>rawInt p).toArray)).objs.size [(s.heap.push (tOb (ps.map λ(p:Nat)=>rawInt p).toArray)).objs.size,a,s.heap.objs.size] _ ss1 _ _ d q1 q2 (λb o e=>Heap.get?_push_of_some _ (Heap.get?_push_of_some _ e))
    (qJ0 (ep:=ep) (es:=es) (t:=t) (T:=s.heap.objs.size) ?_ ?_ e4 ps _ (by rw[hA4,f1]) f2) ⟨Heap.get?_push_size _ rfl,Heap.get?_push_of_some _ ho1,Heap.get?_push_of_some _ (Heap.get?_push_size _ rfl)⟩ (by simp) ?_ ?_ ?_
   ·rw[sz1];exact hAt (hB5 ha)
   ·rw[sz1];exact hAt (hBp _)
   ·intro b hbm;rw[Heap.size_push,sz1];rw[sz1]at hbm;simp at hbm;rcases hbm with rfl|rfl|rfl
    ·exact⟨hBp _,.inr (hBl _)⟩
    ·exact⟨hB5 (hB5 ha),.inl rfl⟩
    ·exact⟨hB5 (hBp _),.inr (hAj _)⟩
   ·rw[sz1];exact hBl _
   ·rw[Heap.size_push,sz1];exact Nat.le_succ_of_le (hBl _)
  ·rw[hEr (by rw[Bool.not_false,Bool.true_and];exact hz)];refine hEp (hEq (hEp (hFn ho rfl e4 ?_)));show wpAny _ _ (newFields "set_iterator" _ >>= _) _ _ _;refine hEp (hEw (hEq ⟨_,rfl,"set_iterator",_,⟨_,Heap.get?_push_size _ rfl,rfl⟩,FS.slot_sin.lookup,?_⟩) (by show 5<=_;decide));refine h s.heap.objs.size [s.heap.objs.size,a] _ ss _ _ s.drawn e2 (hDc _) (λb o e=>Heap.get?_push_of_some _ e) (qEp (ep:=ep) (es:=es) (t:=t) (hAt ha) e4 _ (λi=>if i=0 then 0 else t.place.getD (i-1) 0+1) ?_) ⟨Heap.get?_push_size _ rfl,Heap.get?_push_of_some _ ho⟩ (by simp) ?_ (hAj _) (by rw[Heap.size_push];exact hBl _)
   ·intro A' E' s' Q' i hi ho' hq;refine qLw ho' e4 hb hz led ?_;rw[hA4,hBb]at hi;have eb:SetTable.below t.place (if i=0 then 0 else t.place.getD (i-1) 0+1)=i:=by
     by_cases i0:i=0
     ·subst i0;rw[hEs rfl];exact qPp e6
     ·rw[hEr i0,qPq e6 (by omega)];omega
    rw[eb];by_cases c:i<es.size
    ·have c2:i<t.place.size:=by omega
     rw[hAv c,hAv c2];rw[hAc,hB0,hAv c]at hq;have eg:(if i+1=0 then 0 else t.place.getD (i+1-1) 0+1)=t.place[i] + 1:=by
      rw[hEr (Nat.succ_ne_zero i),Nat.add_sub_cancel,hB9,hAv c2];rfl
     rw[eg]at hq;exact hq
    ·rw[hCg (by omega)];rw[hAc,hB0,hCg (by omega)]at hq;exact hq
   ·intro b hbm;rw[Heap.size_push];simp at hbm;rcases hbm with rfl|rfl
    ·exact⟨hBp _,.inr (hAj _)⟩
    ·exact⟨hB5 ha,.inl rfl⟩
end
section
variable{P:Program}{w:World}{A:Around}{E:Value->Shared->Prop}{s:Shared}{a:Addr}{ss:List Int}
theorem qJm(hh:A.handled=none)(hS:qCd P w s.heap a ss)
  (h:∀(vs:List Value) (ss1:List Int) (h1:Heap) (tk:Nat) (d:Drawn),IntsAre vs ss1->ss1.Perm ss->(∀b o,s.heap.get? b=some o->h1.get? b=some o)->s.heap.objs.size<=h1.objs.size->Q vs { s with heap:=h1,toks:=tk,drawn:=d }):wpAny (model P w) A (collect (.ref a)) Q E s:=by
 unfold collect;refine hEp (hG7 (hF3 PySem.F.entry_proto_collect ?_));rw[Around.under_plainId PySem.F.plain_proto_collect _];show wpAny _ A.in1 (newList [] >>= λl=>again (.builtin "list.__iadd__" ⟨[l,.ref a],[]⟩)) _ _ _;refine hEp (hEw ?_);refine hEq ⟨hFq hE5 _,hF3 PySem.F.entry_list_iadd ?_⟩;rw[Around.under_plainId hE5 _];have hS1:qCd P w (s.heap.push (seqObj "list" #[] 0)) a ss:=hS.at λo e=>Heap.get?_push_of_some _ e
 have hL1:(s.heap.push (seqObj "list" #[] 0)).get? s.heap.objs.size=some (seqObj "list" #[] 0):=Heap.get?_push_size _ rfl;have hT:∀s':Shared,qCd P w s'.heap a ss->s'.TypeIs (.ref a) "set":=λs' z=>by
  obtain⟨es,ep,t,ho,_⟩:=z;exact⟨_,ho,rfl⟩
 have ha:a<s.heap.objs.size:=by
  obtain⟨es,ep,t,ho,_⟩:=hS;exact Heap.lt_size ho
 have hz:ss.length<scanBound:=by
  obtain⟨es,ep,t,_,_,e2,e3,_⟩:=hS;rw[<-e2.nums,hA4,hA4,hBb];exact e3
 have hne:Builtin.List.listSameRef (.ref s.heap.objs.size) (.ref a)=false:=by
  show(s.heap.objs.size == a)=false;exact beq_eq_false_iff_ne.mpr (hCn ha)
 show wpAny _ A.in1 (Builtin.List.listExtendWith (.ref s.heap.objs.size) (.ref a) (.ref s.heap.objs.size)) _ _ { s with heap:=s.heap.push (seqObj "list" #[] 0) };unfold Builtin.List.listExtendWith;refine hEp (wpAny_typeOf (hT _ hS1) ?_);rw[hEr (by rw[hne];decide)];refine hEp (qPg hS1 λI fp vs ss1 St h1 d q1 q2 q3 W st hI hfp hge hsz=>?_);have hS2:qCd P w h1 a ss:=hS1.at λo e=>q3 _ _ e
 have hL2:h1.get? s.heap.objs.size=some (seqObj "list" #[] 0):=q3 _ _ hL1;refine hEp (hEy ?_);unfold Builtin.List.listLengthHint;refine hEp (hGa (hT { s with heap:=h1,drawn:=d } hS2) PySem.F.slot_set_len.lookup ?_);dsimp only;rw[show splitId "set.__len__"=some ("set","__len__") from by decide +kernel];dsimp only;refine hEp (hFt (b:=true) (hT { s with heap:=h1,drawn:=d } hS2) sub_set_self ?_);rw[hEr (by decide),hEs (by decide +kernel)];refine hEp (wpAny_typeOf (hT { s with heap:=h1,drawn:=d } hS2) (hEq ?_));rw[hEs (by decide +kernel)];refine hEp (hFz ?_);unfold Builtin.List.listTouch;have hL3:=get?_update_seq hL2 (·.push .none);have hL4:=get?_update_seq hL3 (·.pop);refine hEp (hEp (hFs (s:={ s with heap:=h1,drawn:=d }) hL2 rfl (hFs (s:={ s with heap:=h1.update s.heap.objs.size (Obj.mapSeq (·.push .none)),drawn:=d }) hL3 rfl ?_)));have nS:s.heap.objs.size∉fp:=λz=>by
  rcases(hfp _ z).2 with e|e
  ·exact absurd e (hCn ha)
  ·rw[hG5]at e;exact absurd e (Nat.not_succ_le_self _)
 have upd2:∀b o,b≠s.heap.objs.size->h1.get? b=some o->((h1.update s.heap.objs.size (Obj.mapSeq (·.push .none))).update s.heap.objs.size (Obj.mapSeq (·.pop))).get? b=some o:=λb o hb e=>by
  rw[Heap.get?_update_ne _ _ _ _ hb,Heap.get?_update_ne _ _ _ _ hb];exact e
 have hv:vs.length<=sizeLine:=by
  have e1:=q2.length_eq;have e2:vs.length=ss1.length:=by rw[<-q1.nums,hA4]
  rw[e2,e1];exact hF6 hz
 have st3:=(W A.in1.in1.in1 (by exact hh)).frame 0 _ ((h1.update s.heap.objs.size (Obj.mapSeq (·.push .none))).update s.heap.objs.size (Obj.mapSeq (·.pop))) st λb hb o e=>upd2 b o (λz=>nS (z▸hb)) e
 refine hEq ⟨hFq PySem.F.plain_extend_loop _,codeAny_extend_loopS ((W _ (by exact hh)).toS) hv _ nS _ vs.length 0 _ _ _ rfl (hAy _) st3 hL4 (ItemsOf.nil _) λs' acc' c' hm hS' hacc=>?_⟩;show wpAny _ A (load s.heap.objs.size >>= _) _ _ s';refine hEp (wpAny_load hS' ?_);have eacc:acc'.toList=vs:=by
  refine hDk λi=>?_
  by_cases hi:i<vs.length
  ·have hi':i<acc'.size:=by rw[hacc.1];exact hi
   rw[hB0,hAv hi'];exact(hacc.2 i _ (hAv hi')).symm
  ·rw[hB0,hCg (by rw[hacc.1];omega),hC2 (by omega)]
 show wpAny _ A (pure acc'.toList) _ _ s';rw[eacc];obtain⟨h5,g5,d5,tk5,os5⟩:=s';cases(show g5=s.gens from hm.gens);cases(show d5=d from hm.drawn);cases(show os5=s.os from hm.os);have keep:∀b o,h1.get? b=some o->b≠s.heap.objs.size->b≠I->h5.get? b=some o:=λb o e n1 n2=>hm.heap b o (by simp only[hAg,hC6,hFv,not_or];exact⟨n1,n2⟩) (upd2 b o n1 e)
 refine hEq (h vs ss1 h5 tk5 d q1 q2 (λb o e=>?_) ?_)
 ·have lt:=Heap.lt_size e;refine keep b o (q3 b o (Heap.get?_push_of_some _ e)) (hAt lt) (hAt (hBc lt ?_));rw[hG5]at hge;exact Nat.le_of_succ_le hge
 ·exact hBz (Heap.lt_size hS')
end
noncomputable def zAq(P:Program)(w:World)(a:Addr)(ss:List Int):HO:=.ext λh=>qCd P w h a ss
section
variable{X:Cx}
theorem qSu(hc:X.calm=true):qCa X (.type "set") (λxs H Q=>∃(p:Addr) (ss0:List Int),xs=[.ref p]/\SqL X.K H p (ss0.map V.int)/\ss0.length<1000/\∀(r:Addr) (ss:List Int),H r=none->ss.Nodup->ss.length<=ss0.length->(∀x,x∈ss↔x∈ss0)->Q (.ref r) (upd H r (zAq X.prog X.w r ss))):=by
 intro aB s σ H xs us Q I r h;obtain⟨p,ss0,rfl,hq,hl,q⟩:=h;obtain⟨u,rfl,rx⟩:=qC8 r;cases rx;obtain⟨its,rv,pl,hz⟩:=I.list hq;have hlen:=rv.length;rw[hA4]at hlen;refine qPn (I.ok.hd hc) pl.isList (by simpa using qMn rv) (by have:scanBound=4096:=rfl;simp;omega) λh' tk ss hS hO hk=>?_
 obtain⟨o1,o2,o3⟩:=hO;rw[hAu,<-hlen]at o2 o3;refine⟨.ref s.heap.objs.size,_,I.laid (t':=tk) (a:=s.heap.objs.size) (o:=zAq X.prog X.w s.heap.objs.size ss) (λb o e=>hk b o (Heap.lt_size e) e) (hAj _) ⟨hS,?_,λh1 h2 z k=>z.at k⟩,rfl,q _ ss (I.hok.fresh (hAj _)) o1 o2 λx=>?_⟩
 ·obtain⟨es,ep,t,ho,_⟩:=hS;exact⟨_,ho⟩
 ·rw[o3 x,hDp];constructor
  ·rintro⟨j,hj,rfl⟩;exact⟨j,by show ss0[j]?=some (ss0.getD j 0);rw[hAa,hA8 hj];rfl⟩
  ·rintro⟨j,hj⟩;exact⟨j,(hAz.mp hj).1,by show ss0.getD j 0=x;rw[hAa,hj];rfl⟩
theorem qLf(hc:X.calm=true):qCa X (.builtin "sorted") (λxs H Q=>∃(p:Addr) (ss:List Int),xs=[.ref p]/\H p=some (zAq X.prog X.w p ss)/\ss.length<64/\∀(r:Addr) (ss':List Int),H r=none->ss'.Perm ss->ss'.Pairwise (·<=·)->Q (.ref r) (upd H r (.lst (ss'.map V.int)))):=by
 intro aB s σ H xs us Q I r h;obtain⟨p,ss,rfl,hp,h64,q⟩:=h;obtain⟨u,rfl,rx⟩:=qC8 r;cases rx;have hS:qCd X.prog X.w s.heap p ss:=(I.hok p _ hp).1;refine Calls.call_function_entry kind_sorted plain_sorted entry_sorted (args_sorted1 _) ?_;unfold Builtin.«sorted»;refine hEp (m:=checkCount "sorted" 1 1 _) (hEq (hEp (qJm (I.ok.hd hc) hS λvs ss1 h1 tk d a1 a2 a3 a4=>?_)));have hvl:vs.length=ss1.length:=by rw[<-a1.nums,hA4]
 have hl64:vs.length<64:=by rw[hvl,a2.length_eq];exact h64
 refine hEp (hG1 ?_ (by have:sizeLine > 64:=(by decide);omega));have hoL:(h1.push (seqObj "list" vs.toArray 0)).get? h1.objs.size=some (seqObj "list" vs.toArray 0):=Heap.get?_push_size _ rfl;refine hEp (hEy (hEx slot_list_sort ⟨_,hoL,rfl⟩ entry_list_sort (list_sort_tree hoL a1 hl64 λout ss' c1 c2 c3=>⟨_,rfl,?_⟩) (args_list_sort _)));refine hEq ⟨_,rfl,?_⟩;have nz:H h1.objs.size=none:=I.hok.fresh a4;obtain⟨e,he⟩:=sortedHeap_at (out:=out) hoL;refine⟨.ref h1.objs.size,_,I.turnedT (t':=tk) (d':=d) (ch:=[]) (a:=h1.objs.size) (o:=.lst (ss'.map V.int)) (λb o _ eb=>?_) (λb z=>nomatch z) a4 ?_,rfl,q _ ss' nz (c2.trans a2) c3⟩
 ·have e1:=a3 b o eb;have lt:=Heap.lt_size e1;rw[sortedHeap_old (hAt lt) (by rw[hG5];exact hB5 lt)];exact Heap.get?_push_of_some _ e1
 ·refine⟨?_,out.toList,e,qPd c1,he⟩;rw[hA4,c2.length_eq,a2.length_eq];exact hBz (qAd (by omega))
end
structure LamAt(X:Cx)(c P:Addr):Prop where
 code:X.env.code = .ref c
 hd:PySem.W.CodeHd X.base c P
 bl:X.base.BuiltinsAt X.mg P
end L2
namespace L2
open PySem PySem.Spec PyProof.Rows PySem.W
end L2
namespace L2
open PySem PySem.Spec PyProof.Rows PySem.W PySem.SeqAt PySem.MeetsSeq
section
variable{X:Cx}
def qWy(K:PySem.W.Frag):V->List V->Hp->VK->Prop:=λx vs H Q=>∃(l:Addr) (xs:List V) (v:V) (ds:List PyData) (d:PyData),x = .ref l/\vs=[v]/\H l=some (.lst xs)/\DRs K H xs ds/\DR K H v d/\PyData.canLayAll0 ds=true/\PyData.canLay0 d=true/\PyData.depth d<=16/\Q (.int ((ds.countP (λy=>PyData.eqv y d):Nat):Int)) H
theorem qRp(hu:X.A.units+65<cLine):MtR X "list.count" (qWy X.K):=by
 intro aB s σ H x vs v us Q I rx rv h;obtain⟨l,xs,y,ds,d,rfl,rfl,hH,hds,hd,cl,cd,dp,q⟩:=h;cases rx;obtain⟨u,rfl,ru⟩:=rv.one;obtain⟨z,its,nn,r,hl,e⟩:=I.lstM hH;obtain⟨a1,r1⟩:=DR.reads I hd ru;obtain⟨a2,r2⟩:=DRs.reads I hds r;have he:=items_eqAt (A:=X.A) (vs:=its.toArray) (by simpa using r2) r1 cl cd (by
  have h2:=Nat.min_le_right (PyData.depthAll ds) (PyData.depth d);omega)
 have mp:=readsAll_map _ _ _ cl r2;refine call_meets F.slot_list_count ⟨_,e,rfl⟩ F.entry_list_count (F.args_list_count_2 _ _) (list_countAt l its.toArray nn none #[] u _) ⟨e,he,?_⟩;refine⟨.int _,H,I.tok _,⟨_,rfl⟩,?_⟩;rw[<-mp,hE0]at q;exact q
end
end L2
namespace My
open PySem L2
noncomputable def qNo:Sp:=λvs H Q _=>∃(p:Addr) (net:List Tr) (v:V) (D:PyData),vs=[.ref p,v]/\qEl H p net/\NetOk net/\Dh H v D/\DOk D/\∀(b:Bool) H',(b=true↔qNd net D)->Ext H H'->Q (.bl b) H'
theorem qQx{α β:Type}{R:α->β->Prop}:∀ {as cs:List α} {bs ds:List β},Paired R as bs->Paired R cs ds->Paired R (as++cs) (bs++ds)
 |_,_,_,_,.nil,h=>h
 |_,_,_,_,.cons a t,h=>.cons a (qQx t h)
theorem qP1:∀l:List Nat,(l.map λn:Nat=>(n:Int)).sum=((l.sum:Nat):Int)
 |[]=>rfl
 |n :: l=>by rw[hAn,List.sum_cons,List.sum_cons,qP1 l];omega
theorem qOs{K:PySem.W.Frag}{H:Hp}:∀l:List Int,DRs K H (l.map V.int) (l.map PyData.int)
 |[]=>.nil
 |i :: l=>.cons (.int i) (qOs l)
theorem qOj:∀l:List Int,PyData.canLayAll0 (l.map PyData.int)=true
 |[]=>rfl
 |i :: l=>by
  show(PyData.canLay0 (.int i) && PyData.canLayAll0 (l.map PyData.int))=true;rw[qOj l];rfl
theorem qOt{H:Hp}:∀ {kvs:List (List Key×V)} {M:List (Ps×Ps)},DAt qFi H kvs M->kvs.map (·.1)=(M.map (·.1)).map kP
 |_,_,.nil=>rfl
 |_,_,.cons h t=>by
  rw[hAn,hAn,hAn,qOt t,h.1];rfl
theorem qLn:bootBuiltins "int"=some (.type "int"):=by decide +kernel
theorem qS0:bootBuiltins "sum"=some (.builtin "sum"):=by decide +kernel
section
variable{P:Program}{w:World}{K:PySem.W.Frag}{mg:Str->Option Value}{base:Heap}{f f1 f2 f3 f4:Addr}{fd fd1 fd2 fd3 fd4:FuncData}
noncomputable abbrev ilN:List Str:=["_law_net","_law_lists","_law_spots","_law_k","_law_one","_law_other","_law_due","_law_turns","_law_far_here","_law_heap","_law_low","_law_high","_law_head","_law_met","_law_faces","_law_end","_law_many"]
theorem qA8:FnScope ilN ["_law_net","_law_lists"] (qAc qBp):=fsk
theorem qRj(F:Fun K "_law_is_laid" "_law_is_laid" qBp f fd)(G1:Cl P w K mg base CX0 1 f1 fd1 ["_law_turns"] qWj "_law_far")
  (G2:Cl P w K mg base CX0 1 f2 fd2 ["_law_turns","_law_far_here","_law_end"] qP7 "_law_face")
  (mso:mg "sorted"=none) (mst:mg "set"=none) (mi:mg "isinstance"=none) (mL:mg "list"=none) (ml:mg "len"=none) (mr:mg "range"=none) (mT:mg "tuple"=none) (mS:mg "str"=none) (mmi:mg "min"=none) (mma:mg "max"=none) (mI:mg "int"=none) (msu:mg "sum"=none):FnOk P w K mg base CX0 2 f fd ["_law_net","_law_lists"] qNo:=by
 refine F.okA qA8 λcdv A outer s H vs Q E hr h=>?_
 obtain⟨p,net,v,D,rfl,⟨ns,hp,pr⟩,ok,hD,dok,Q0⟩:=h;have hr1:=hr.mono (j:=1) (by decide);refine⟨_,(qAa (qAr (i:=2) qA8.nd rfl (Or.inr rfl) (qAh (qEd rfl) rfl mso qBi (pa1 (qA7 (qSw rfl) rfl mst qLm (pa1 (qA5 qE1 (qFq (N:=ilN) (sc:=qAc qBp) (N':=["_law_tie"]) (sub:=[none]) rfl rfl (CmpOk.of (by decide +kernel)) rfl (qA1 (pv 0)) (λC s H fp=>⟨(qAf (i:=0) (by show(["_law_tie"]:List Str).Nodup;decide) rfl (Or.inl rfl)),qBk,(qAt (show IxR _ (qZf K) from qCk) (pv 0) qAk (λ_ _=>rfl))⟩)) (qFq (N:=ilN) (sc:=qAc qBp) (N':=["_law_tie"]) (sub:=[none]) rfl rfl (CmpOk.of (by decide +kernel)) rfl (qA1 (pv 0)) (λC s H fp=>⟨(qAf (i:=0) (by show(["_law_tie"]:List Str).Nodup;decide) rfl (Or.inl rfl)),qBk,(qAt (show IxR _ (qZf K) from qCk) (pv 0) qAk (λ_ _=>rfl))⟩)))))))) (qAa (qC9 (PW.pt (qHo (qDe (qDd (qAh qBr rfl mi qBs (qAe (pv 1) (pa1 (qDj (v:=.ty "list") rfl mL qBa rfl)))))) (qEw (qAv qT2 (qAh qAj rfl ml hBd (pa1 (pv 1))) (qAh qAj rfl ml hBd (pa1 (pv 2))) (qA6 _))))) (qAi (qA2 qDf)) qBy) (qAa (qB3 PassesOwn.never rfl (qBz rfl mr (pa1 (qAh qAj rfl ml hBd (pa1 (pv 1))))) (qAf (i:=3) qA8.nd rfl (Or.inr rfl)) (qAa (qC9 (PW.pt (qHo (qDe (qDd (qAh qBr rfl mi qBs (qAe (qAt qAm (pv 1) (pv 3) (λ_ _=>rfl)) (pa1 (qDj (v:=.ty "tuple") rfl mT qDr rfl)))))) (qHo (qAv qT2 (qAh qAj rfl ml hBd (pa1 (qAt qAm (pv 1) (pv 3) (λ_ _=>rfl)))) qAk (qA6 _)) (qEw (qAv (qH3 (qF6 hr)) (qAt qCk (qAt qAm (pv 1) (pv 3) (λ_ _=>rfl)) qAk (λ_ _=>rfl)) (qAt qAm (pv 2) (pv 3) (λ_ _=>rfl)) (qA6 _)))))) (qAi (qA2 qDf)) qBy) (qAa (qC9 (PW.pt (qHo (qDe (qDd (qAh qBr rfl mi qBs (qAe (qAt qCk (qAt qAm (pv 1) (pv 3) (λ_ _=>rfl)) qAk (λ_ _=>rfl)) (pa1 (qDj (v:=.ty "list") rfl mL qBa rfl)))))) (qEw (qAv (qH3 (qF6 hr)) (qFq (N:=ilN) (sc:=qAc qBp) (N':=["_law_tie"]) (sub:=[none]) rfl rfl (CmpOk.of (by decide +kernel)) rfl (qA1 (qAt qCk (qAt qAm (pv 1) (pv 3) (λ_ _=>rfl)) qAk (λ_ _=>rfl))) (λC s H fp=>⟨(qAf (i:=0) (by show(["_law_tie"]:List Str).Nodup;decide) rfl (Or.inl rfl)),qEf (qDe (qDd (qAh (show qCa _ _ (qZg K) from qBr) rfl mi qBs (qAe (pv 0) (pa1 (qDj (v:=.ty "str") rfl mS qLl rfl)))))),(pv 0)⟩)) (qBo qC3) (qA6 _))))) (qAi (qA2 qDf)) qBy) (qAa (qTs (i:=6) (N:=ilN) (sc:=qAc qBp) (N':=["_law_tie","_law_one","_law_other","_law_spots","_law_k"]) (sub:=[none,none,none,some 2,some 3]) rfl rfl (CmpOk.of (by decide +kernel)) rfl (qA1 (pv 0)) (λC s H fp=>⟨(show PG _ _ (qPt K 3 _) from qBt rfl (qAg (qAf (i:=0) (by show(["_law_tie","_law_one","_law_other","_law_spots","_law_k"]:List Str).Nodup;decide) rfl (Or.inl rfl)) (qAg (qAf (i:=1) (by show(["_law_tie","_law_one","_law_other","_law_spots","_law_k"]:List Str).Nodup;decide) rfl (Or.inl rfl)) (qAg (qAf (i:=2) (by show(["_law_tie","_law_one","_law_other","_law_spots","_law_k"]:List Str).Nodup;decide) rfl (Or.inl rfl)) qA3)))),qEf (qAv qE0 (pv 1) (qAt (show IxR _ (qWw K) from qAm) (pv 3) (pv 4) (λ_ _=>rfl)) (qA6 _)),(pv 0)⟩) qA8.nd rfl (Or.inl rfl)) (qAa (qAr (i:=6) qA8.nd rfl (Or.inl rfl) (qA5 qE1 (pv 6) (qFq (N:=ilN) (sc:=qAc qBp) (N':=["_law_tie","_law_one","_law_other","_law_spots","_law_k"]) (sub:=[none,none,none,some 2,some 3]) rfl rfl (CmpOk.of (by decide +kernel)) rfl (qA1 (pv 0)) (λC s H fp=>⟨(show PG _ _ (qPt K 3 _) from qBt rfl (qAg (qAf (i:=0) (by show(["_law_tie","_law_one","_law_other","_law_spots","_law_k"]:List Str).Nodup;decide) rfl (Or.inl rfl)) (qAg (qAf (i:=1) (by show(["_law_tie","_law_one","_law_other","_law_spots","_law_k"]:List Str).Nodup;decide) rfl (Or.inl rfl)) (qAg (qAf (i:=2) (by show(["_law_tie","_law_one","_law_other","_law_spots","_law_k"]:List Str).Nodup;decide) rfl (Or.inl rfl)) qA3)))),qEf (qAv qE0 (pv 2) (qAt (show IxR _ (qWw K) from qAm) (pv 3) (pv 4) (λ_ _=>rfl)) (qA6 _)),(pv 0)⟩)))) (qAi (qC9 (qAv (qH3 (qF6 hr)) (qAh qD1 rfl mso qBi (pa1 (qAt qCk (qAt qAm (pv 1) (pv 3) (λ_ _=>rfl)) qAk (λ_ _=>rfl)))) (qAh qD1 rfl mso qBi (pa1 (pv 6))) (qA6 _)) (qAi (qA2 qDf)) qBy))))))) (qAa (qAr (i:=7) qA8.nd rfl (Or.inr rfl) (qFq (N:=ilN) (sc:=qAc qBp) (N':=["_law_point","_law_ties"]) (sub:=[none,none]) rfl rfl (CmpOk.of (by decide +kernel)) rfl (qA1 (pv 1)) (λC s H fp=>⟨(show PG _ _ (qPt K 2 _) from qBt rfl (qAg (qAf (i:=0) (by show(["_law_point","_law_ties"]:List Str).Nodup;decide) rfl (Or.inl rfl)) (qAg (qAf (i:=1) (by show(["_law_point","_law_ties"]:List Str).Nodup;decide) rfl (Or.inl rfl)) qA3))),qBk,(pv 1)⟩))) (qAa (qAr (i:=8) qA8.nd rfl (Or.inl rfl) (qBf G1 hr1 rfl .nil qBg (pa1 (pv 7)))) (qAa (qAr (i:=9) qA8.nd rfl (Or.inr rfl) (qA7 (qJr rfl) rfl mL qBa (pa1 (qA7 qLg rfl mr qM9 (pa1 (qAh qAj rfl ml hBd (pa1 (pv 2)))))))) (qAa (qB3 PassesOwn.never rfl (qQ7 (pv 8)) (qBt rfl (qAg (qAf (i:=4) qA8.nd rfl (Or.inl rfl)) (qAg (qAf (i:=5) qA8.nd rfl (Or.inl rfl)) qA3))) (qAa (qAr (i:=10) qA8.nd rfl (Or.inr rfl) (qAh (qLh rfl) rfl mmi qHh (qAe (qAt qAm (pv 9) (qAt qCk (pv 4) qAk (λ_ _=>rfl)) (λ_ _=>rfl)) (pa1 (qAt qAm (pv 9) (qAt qCk (pv 5) qAk (λ_ _=>rfl)) (λ_ _=>rfl)))))) (qAa (qAr (i:=11) qA8.nd rfl (Or.inr rfl) (qAh (qLi rfl) rfl mma qHi (qAe (qAt qAm (pv 9) (qAt qCk (pv 4) qAk (λ_ _=>rfl)) (λ_ _=>rfl)) (pa1 (qAt qAm (pv 9) (qAt qCk (pv 5) qAk (λ_ _=>rfl)) (λ_ _=>rfl)))))) (qAi (qAr (i:=9) qA8.nd rfl (Or.inr rfl) (qFq (N:=ilN) (sc:=qAc qBp) (N':=["_law_head","_law_low","_law_high"]) (sub:=[none,some 10,some 11]) rfl rfl (CmpOk.of (by decide +kernel)) rfl (qA1 (pv 9)) (λC s H fp=>⟨(qAf (i:=0) (by show(["_law_head","_law_low","_law_high"]:List Str).Nodup;decide) rfl (Or.inl rfl)),qBk,(qAt (show IxR _ (qWw K) from qAm) (qBo (qAe (pv 0) (pa1 (pv 1)))) (qA7 qLj rfl mI qLn (pa1 (qGz qE0 (pv 0) (pv 2) (qA6 _)))) (λ_ _=>rfl))⟩))))))) (qAa (qAr (i:=13) qA8.nd rfl (Or.inl rfl) (qBo qC3)) (qAa (qAr (i:=14) qA8.nd rfl (Or.inl rfl) qEy) (qAa (qB3 PassesOwn.never rfl (qA1 (qAh (qJq rfl) rfl mso qBi (pa1 (pv 8)))) (qAf (i:=15) qA8.nd rfl (Or.inl rfl)) (qAi (qC9 (qAv (qKk (qQm hr)) (pv 15) (pv 13) (by with_unfolding_all rfl)) (qAa (qAr (i:=13) qA8.nd rfl (Or.inl rfl) (qA5 qE1 (pv 13) (qBf G2 hr1 rfl .nil qBg (qAe (pv 7) (qAe (pv 8) (pa1 (pv 15))))))) (qAi (qDi (qCh hr) (pv 14) (qAt qAm (pv 9) (qAt qCk (pv 15) qAk (λ_ _=>rfl)) (λ_ _=>rfl)) (qA5 qCq (qGd (qCh hr) (pv 14) (qAt qAm (pv 9) (qAt qCk (pv 15) qAk (λ_ _=>rfl)) (λ_ _=>rfl)) qAk ⟨rfl,rfl,rfl,rfl⟩) qAk) rfl))) qBy))) (qAa (qB3 PassesOwn.never rfl (qA1 (qAh (qLf rfl) rfl mso qBi (pa1 (qA7 (qSu rfl) rfl mst qLm (pa1 (pv 9)))))) (qAf (i:=12) qA8.nd rfl (Or.inr rfl)) (qAa (qAr (i:=16) qA8.nd rfl (Or.inl rfl) (qA5 qMd (qAh (qSt rfl) rfl msu qS0 (pa1 (qFq (N:=ilN) (sc:=qAc qBp) (N':=["_law_k","_law_heap","_law_head","_law_turns"]) (sub:=[none,some 9,some 12,some 7]) rfl rfl (CmpOk.of (by decide +kernel)) rfl (qBz rfl mr (pa1 (qAh qAj rfl ml hBd (pa1 (pv 9))))) (λC s H fp=>⟨(qAf (i:=0) (by show(["_law_k","_law_heap","_law_head","_law_turns"]:List Str).Nodup;decide) rfl (Or.inl rfl)),qEf (qAv qE0 (qAt (show IxR _ (qWw K) from qAm) (pv 1) (pv 0) (λ_ _=>rfl)) (pv 2) (qA6 _)),(qAh (show qCa _ _ (qZe K) from qAj) rfl ml hBd (pa1 (qAt (show IxR _ (qWw K) from qAm) (pv 3) (pv 0) (λ_ _=>rfl))))⟩)))) qAk)) (qAi (qC9 (qAv qT2 (qCv (qCh hr) (pv 14) (pv 12) (λ_ _=>rfl)) (qA5 qCq (qA5 qVr (pv 16) (qF8 hBo PySem.F.slot_list_count PySem.F.type_list_count (qRp (qQm hr)) (pv 9) (pa1 (pv 12)))) qAk) (qA6 _)) (qAi (qA2 qDf)) qBy)))) (qAi (qA2 qDf))))))))))))),?_⟩;have lns:ns.length=net.length:=pr.length;have l12:=ok.le;refine⟨_,rfl,p,rfl,⟨_,SqL.of hp⟩,?_⟩;refine qA0 (xs:=ns.map V.ref) (λj ys H2=>H=H2/\ys=((net.take j).map λt=>t.2.1).map V.str) ⟨rfl,rfl⟩ (λj ys H2 _ h=>by rw[<-h.1];exact SqL.of hp) ?_ ?_
 ·rintro j x ys H2 hx ⟨rfl,rfl⟩;obtain⟨a,t,rfl,ht,ha⟩:=qDl pr hx;refine⟨sls,iteT (B:=False) ⟨_,rfl,a,_,1,_,rfl,rfl,SqT.of ha,(by exact qAq (j:=1) rfl),?_,nxt (qBj hx) ⟨rfl,?_⟩⟩⟩
  ·rw[hA4,hA4,hB2];exact qAd (by omega)
  ·rw[qAl ht,hAf,hAf];rfl
 rintro ys H2 ⟨rfl,rfl⟩ c1 hc1;rw[hA4,lns,hBh];have x1:=Ext.new hc1 (.lst ((net.map λt=>t.2.1).map V.str));have h1:LsS (upd H c1 (.lst ((net.map λt=>t.2.1).map V.str))) c1 (net.map λt=>t.2.1):=upd_same;revert x1 h1;generalize upd _ _ _=H1;intro x1 h1;refine⟨_,rfl,p,rfl,⟨_,SqL.of (x1 _ _ hp)⟩,?_⟩;refine qA0 (xs:=ns.map V.ref) (λj ys H=>H1=H/\ys=((net.take j).map λt=>t.2.2).map V.str) ⟨rfl,rfl⟩ (λj ys H _ h=>by rw[<-h.1];exact SqL.of (x1 _ _ hp)) ?_ ?_
 ·rintro j x ys H hx ⟨rfl,rfl⟩;obtain⟨a,t,rfl,ht,ha⟩:=qDl pr hx;refine⟨sls,iteT (B:=False) ⟨_,rfl,a,_,2,_,rfl,rfl,SqT.of (x1 _ _ ha),(by exact qAq (j:=2) rfl),?_,nxt (qBj hx) ⟨rfl,?_⟩⟩⟩
  ·rw[hA4,hA4,hB2];exact qAd (by omega)
  ·rw[qAl ht,hAf,hAf];rfl
 rintro ys H2' ⟨rfl,rfl⟩ c2 hc2;rw[hA4,lns,hBh];have x2:=Ext.new hc2 (.lst ((net.map λt=>t.2.2).map V.str));refine⟨c1,c2,_,_,rfl,rfl,x2 _ _ h1,upd_same,?_,λc3 hc3=>?_⟩
 ·rw[hA4,hA4,hA4,hA4];exact hBz (qAd (by omega))
 have x3:=Ext.new hc3 (.lst ((net.map λt=>t.2.1).map V.str++(net.map λt=>t.2.2).map V.str));refine⟨c3,(net.map λt=>t.2.1)++net.map λt=>t.2.2,rfl,SqL.of (by rw[upd_same,hAf]),by rw[hAk,hA4,hA4];omega,λc4 ss hc4 nds les mms=>?_⟩;refine⟨c4,ss,rfl,upd_same,by rw[hAk,hA4,hA4]at les;omega,λspA ps hspA pms sos=>?_⟩;have x4:=Ext.new hc4 (qYj (qM3 CX0 P w K mg base ilN (Str.ofString "_law_is_laid") (qAc qBp) f cdv A outer s H E).nox.prog (qM3 CX0 P w K mg base ilN (Str.ofString "_law_is_laid") (qAc qBp) f cdv A outer s H E).nox.w c4 ss);have x5:=Ext.new hspA (.lst (ps.map V.str));have e1:=(((x1.trans x2).trans x3).trans x4).trans x5;have pt:qGa net ps:=by
  refine⟨pms.nodup_iff.mpr nds,λx=>?_⟩;rw[pms.mem_iff,mms,hAp,hAm,hAm];constructor
  ·rintro(⟨t,ht,rfl⟩|⟨t,ht,rfl⟩)
   ·exact⟨t,ht,.inl rfl⟩
   ·exact⟨t,ht,.inr rfl⟩
  ·rintro⟨t,ht,z⟩;rcases z with z|z
   ·exact .inl ⟨t,ht,z.symm⟩
   ·exact .inr ⟨t,ht,z.symm⟩
 have rp:qIh ps:=qQn sos pt.1;have lps:ps.length<=24:=by
  rw[pms.length_eq];rw[hAk,hA4,hA4]at les;omega
 have pso:=qQu ok pt;have hsp:LsS (upd (upd (upd (upd H1 c2 (.lst ((net.map λt=>t.2.2).map V.str))) c3 (.lst ((net.map λt=>t.2.1).map V.str++(net.map λt=>t.2.2).map V.str))) c4 (qYj (qM3 CX0 P w K mg base ilN (Str.ofString "_law_is_laid") (qAc qBp) f cdv A outer s H E).nox.prog (qM3 CX0 P w K mg base ilN (Str.ofString "_law_is_laid") (qAc qBp) f cdv A outer s H E).nox.w c4 ss)) spA (.lst (ps.map V.str))) spA ps:=upd_same;revert e1 hsp;generalize upd _ _ _=H3;intro e1 hsp;clear x1 h1 hc1 hc2 x2 hc3 x3 hc4 x4 hspA x5 pms sos mms nds les;have hD3:=hD.ext e1;obtain⟨ty0,ty,kt⟩:=hD3.isL (K:=K);refine⟨_,rfl,_,_,_,_,rfl,ty,kt,_,rfl,?_⟩;clear ty kt;have goesL:qNd net D->qU4 net D:=λ⟨L,h1,h2,h3,_⟩=>⟨L,h1,h2,h3⟩
 cases hD3 with
 |@lst a xs ds ha hds =>
  refine qFs ?_;have lxs:=hds.len;have l24:=dok.few ds rfl;refine⟨_,rfl,a,_,rfl,.inl (SqL.of ha),_,rfl,spA,_,rfl,.inl (SqL.of hsp),rfl,_,rfl,qGi (λc=>?_) λc=>?_⟩
  ·refine Q0 false H3 ⟨λz=>(by cases z),λh=>?_⟩ e1;have:=(qSa pt rp (goesL h)).1;rw[lxs,hA4,this]at c;simp at c
  have lds:ds.length=ps.length:=by
   rw[lxs,hA4]at c;have:V.int ((ds.length:Nat):Int)=V.int ((ps.length:Nat):Int):=by simpa using c
   have:=V.int.inj this;omega
  clear c;refine⟨_,rfl,a,_,rfl,.inl (SqL.of ha),_,rfl,by omega,by omega,?_⟩;rw[hB8,lxs];refine qCs (λi σ H4=>∃(y3 y4 y5 y6:Option V),σ=[some (.ref p),some (.ref a),some (.ref spA),y3,y4,y5,y6,none,none,none,none,none,none,none,none,none,none]/\Ext H3 H4/\∀j,j<i->zAu net (ps.getD j "") (ds.getD j .none))
   ⟨_,_,_,_,rfl,Ext.refl _,λj h=>absurd h (hD6 j)⟩ ?_ ?_
  ·rintro i σ H4 hi ⟨y3,y4,y5,y6,rfl,e4,done⟩;rw[hDt];have hds4:=hds.ext e4;have ha4:=e4 _ _ ha;have hsp4:LsS H4 spA ps:=e4 _ _ hsp;have hxi:i<xs.length:=by omega
   have hxg:=hA8 hxi;obtain⟨Di,hDi,hvi⟩:=Dhs.get i hds4 hxg;generalize xs[i]=vi at hxg hvi;have atX:atI xs ((i:Nat):Int)=some vi:=qAq hxg;have hpi:i<ps.length:=by omega
   have hpg:ps.getD i ""=ps[i]:=by rw[hAa,hA8 hpi];rfl
   have atS:atI (ps.map V.str) ((i:Nat):Int)=some (.str ps[i]):=qAq (by rw[hAc,hA8 hpi];rfl);have gD:ds.getD i .none=Di:=by rw[hAa,hDi];rfl
   have mD:=hAs hDi;have nope:∀H',Ext H3 H'->¬zAu net ps[i] Di->Q (.bl false) H':=λH' e' n=>Q0 false H' ⟨λz=>(by cases z),λh=>absurd ((qSa pt rp (goesL h)).2 i hpi) (by rw[hpg,gD];exact n)⟩ (e1.trans e')
   have psi:PyData.strOk ps[i]=true:=pso _ (hBy hpi);generalize ps[i]=pi at atS nope psi hpg;obtain⟨ty0,ty,kt⟩:=hvi.isT (K:=K);refine⟨_,rfl,_,rfl,a,_,_,_,rfl,rfl,SqL.of ha4,atX,_,_,_,_,rfl,ty,kt,_,rfl,?_⟩;clear ty kt;have layD:=dok.lay.item _ mD;cases hvi with
   |@tup b zs es hb hzs =>
    refine qFs ?_;refine⟨_,rfl,_,rfl,a,_,_,_,rfl,rfl,SqL.of ha4,atX,b,_,rfl,.inr (SqT.of hb),rfl,_,rfl,qGi (λc=>?_) λc=>?_⟩
    ·refine nope H4 e4 λ⟨ss,h,_⟩=>?_
     have:=congrArg List.length (PyData.tuple.inj h);rw[hzs.len,this]at c;simp at c
    have l2:es.length=2:=by
     rw[hzs.len]at c;have:V.int ((es.length:Nat):Int)=V.int 2:=by simpa using c
     have:=V.int.inj this;omega
    clear c;obtain⟨X,Y,rfl⟩:∃X Y,es=[X,Y]:=by
     match es,l2 with
     |[X,Y],_=>exact⟨X,Y,rfl⟩
    obtain⟨xok,yok⟩:=dok.two ds rfl _ mD X Y rfl;cases hzs with
    |@cons v1 _ _ _ hX t1 =>
    cases t1 with
    |@cons v2 _ _ _ hY t2 =>
    cases t2;have layX:=layD.itemT X hAb;have layY:=layD.itemT Y (by simp);refine⟨_,rfl,_,rfl,a,_,_,_,rfl,rfl,SqL.of ha4,atX,b,_,0,_,rfl,rfl,SqT.of hb,(by exact qAq (j:=0) rfl),_,rfl,_,rfl,spA,_,_,_,rfl,rfl,SqL.of hsp4,atS,X,.str pi,hX.dr,.str _,layX.shaped,(Lay.shaped ⟨psi,hAy _⟩),_,rfl,?_⟩;rw[hEs rfl];have eX:PyData.eqv X (.str pi)=true↔X = .str pi:=by
     rcases xok with ⟨x,rfl⟩|⟨is,rfl⟩
     ·rw[qOp,hEv];exact⟨λz=>by rw[z],λz=>PyData.str.inj z⟩
     ·exact⟨λz=>(by cases z),λz=>(by cases z)⟩
    refine qGi (λc=>?_) λc=>?_
    ·refine nope H4 e4 λ⟨ss,h,_⟩=>?_
     have h:=PyData.tuple.inj h;rw[hB4]at h;rw[eX.mpr h.1]at c;cases c
    have eX':X = .str pi:=eX.mp (by simpa using c);subst eX';clear c eX xok layX;obtain⟨ty1,ty,kt⟩:=hY.isL (K:=K);refine⟨_,rfl,_,rfl,a,_,_,_,rfl,rfl,SqL.of ha4,atX,b,_,1,v2,rfl,rfl,SqT.of hb,(by exact qAq (j:=1) rfl),_,_,_,_,rfl,ty,kt,_,rfl,?_⟩;clear ty kt;cases hY with
    |@lst aY ws is haY hws =>
     refine qFs ?_;have lws:=hws.len;have l30:=yok is rfl;refine⟨_,rfl,_,rfl,a,_,_,_,rfl,rfl,SqL.of ha4,atX,b,_,1,_,rfl,rfl,SqT.of hb,(by exact qAq (j:=1) rfl),aY,rfl,⟨_,SqL.of haY⟩,?_⟩;refine qA0 (xs:=ws) (λj ys H5=>H4=H5/\Dhs H4 ys ((is.take j).filter λd=>!isSB d)) ⟨rfl,.nil⟩ (λj ys H5 _ h=>by rw[<-h.1];exact SqL.of haY) ?_ ?_
     ·rintro j u ys H5 hu ⟨rfl,hy⟩;obtain⟨Dj,hDj,hu'⟩:=Dhs.get j hws hu;obtain⟨ty2,ty,kt⟩:=hu'.isS (K:=K);have ly:ys.length<=30:=by
       rw[hy.len];have h1:=hBj (λd=>!isSB d) (is.take j);have h2:=hD7 j is;omega
      refine⟨sls,⟨_,rfl,_,_,_,_,rfl,ty,kt,_,rfl,?_⟩⟩;cases e:isSB Dj with
      |true =>
       refine qFs (nxt (qBj hu) ⟨rfl,?_⟩);rw[qAl hDj,hBk,hCm (p:=λd=>!isSB d) (by rw[e];exact hAo),hCr,hBr];exact hy
      |false =>
       refine iteT ⟨_,rfl,qAd (by omega),nxt (qBj hu) ⟨rfl,?_⟩⟩;rw[qAl hDj,hBk,hCl (p:=λd=>!isSB d) (by rw[e];rfl),hCr];exact hy.app (.cons hu' .nil)
     rintro ys H5 ⟨rfl,hy⟩ r5 hr5;rw[lws,hBh]at hy;have z1:=Ext.new hr5 (.lst ys);refine⟨hAy _,λz hz=>?_⟩;have z2:=Ext.new hz (.lst []);refine⟨.list (is.filter λd=>!isSB d),.list [],(Dh.lst (z2 _ _ upd_same) (hy.ext (z1.trans z2))).dr,.lst (xs:=[]) (SqL.of upd_same) .nil,qB6 (λd hd=>layY.item d (hC0.mp hd).1),qB6 (λd hd=>by cases hd),_,rfl,?_⟩;rw[hEs rfl,qMw];have z12:=z1.trans z2;have ha6:=z12 _ _ ha4;have hb6:=z12 _ _ hb;have haY6:=z12 _ _ haY;have hsp6:=z12 _ _ hsp4;have hp6:=(e1.trans (e4.trans z12)) _ _ hp;have pr6:Paired (λa t=>upd (upd H4 r5 (.lst ys)) z (.lst []) a=some (.tup (trV t))) ns net:=Paired.mapP pr λ_ _ q=>(e1.trans (e4.trans z12)) _ _ q
     have e46:=e4.trans z12;revert ha6 hb6 haY6 hsp6 hp6 pr6 e46;generalize upd _ _ _=H6;intro ha6 hb6 haY6 hsp6 hp6 pr6 e46
     change LsS H6 spA ps at hsp6
     clear z1 z2 z12;refine qGi (λc=>?_) λc=>?_
     ·refine nope H6 e46 λ⟨ss,h,_⟩=>?_
      have h:=PyData.tuple.inj h;rw[hB4,hB4]at h;have h:=PyData.list.inj h.2.1;subst h;have:(ss.map PyData.str).filter (λd=>!isSB d)=[]:=by
       rw[hEd];intro d hd;obtain⟨s',_,rfl⟩:=hAm.mp hd;exact hAo
      rw[this]at c;cases c
     obtain⟨ss,rfl⟩:∃ss:List Str,is=ss.map .str:=by
      have em:is.filter (λd=>!isSB d)=[]:=by
       have:(is.filter λd=>!isSB d).isEmpty=true:=by simpa using c
       exact List.isEmpty_iff.mp this
      have al:(is.map isSB).all id=true:=by
       rw[hE9];intro q hq;obtain⟨d,hd,rfl⟩:=hAm.mp hq;have:=hEd.mp em d hd
       simpa using this
      rw[qGo]at al;obtain⟨ss,hss⟩:=hCy.mp al;exact⟨ss,qBh.mp hss⟩
     clear c;rw[Dhs.strs hws]at haY6;have lss:ss.length<=30:=by rw[hA4]at l30;exact l30
     have sok:SOk ss:=λx hx=>(layY.item _ (hAr (f:=PyData.str) hx)).1
     clear hy hr5 hz lws l30 hws haY layY yok ys r5 z;have inP:∀x:Str,(zA6 (V.str x) (V.str pi)=true):=λx=>rfl
     refine⟨_,rfl,p,rfl,⟨_,SqL.of hp6⟩,?_⟩;refine qA0 (xs:=ns.map V.ref) (λj ys H7=>H6=H7/\ys=(((net.take j).filter λt=>decide (t.2.1=pi)).map (·.1)).map V.str) ⟨rfl,rfl⟩ (λj ys H7 _ h=>by rw[<-h.1];exact SqL.of hp6) ?_ ?_
     ·rintro j x ys H7 hx ⟨rfl,rfl⟩;obtain⟨an,t,rfl,ht,hat⟩:=qDl pr6 hx;refine⟨an,_,rfl,SqT.of hat,rfl,_,_,rfl,_,_,rfl,_,_,rfl,rfl,?_⟩;refine⟨Sle.set _ (Sle.set _ (sls) (λu z=>by cases z)) (λu z=>by cases z),⟨_,rfl,_,rfl,_,rfl,spA,_,_,_,rfl,rfl,SqL.of hsp6,atS,rfl,_,rfl,?_⟩⟩;refine qGi (λc=>?_) λc=>?_
      ·have c':t.2.1=pi:=by simpa using c
       refine⟨_,rfl,?_,nxt (qBj hx) ⟨rfl,?_⟩⟩
       ·rw[hA4,hA4];have h1:=hBj (λt:Tr=>decide (t.2.1=pi)) (net.take j);have h2:=hD7 j net;exact qAd (by omega)
       ·rw[qAl ht,hBk,hCl (p:=λt:Tr=>decide (t.2.1=pi)) (hEt c'),hAf,hAf];rfl
      ·have c':¬t.2.1=pi:=by simpa using c
       refine nxt (qBj hx) ⟨rfl,?_⟩;rw[qAl ht,hBk,hCm (p:=λt:Tr=>decide (t.2.1=pi)) (by rw[hEu c'];exact hAo),hCr,hBr]
     rintro ys H7 ⟨rfl,rfl⟩ d1 hd1;rw[hA4,lns,hBh];have z1:=Ext.new hd1 (.lst (((net.filter λt=>decide (t.2.1=pi)).map (·.1)).map V.str));have hd1':LsS (upd H6 d1 (.lst (((net.filter λt=>decide (t.2.1=pi)).map (·.1)).map V.str))) d1 ((net.filter λt=>decide (t.2.1=pi)).map (·.1)):=upd_same;have ha8:=z1 _ _ ha6;have hb8:=z1 _ _ hb6;have haY8:=z1 _ _ haY6;have hsp8:=z1 _ _ hsp6;have hp8:=z1 _ _ hp6;have pr8:Paired (λa t=>upd H6 d1 (.lst (((net.filter λt=>decide (t.2.1=pi)).map (·.1)).map V.str)) a=some (.tup (trV t))) ns net:=Paired.mapP pr6 λ_ _ q=>z1 _ _ q
     have e48:=e46.trans z1;revert hd1' ha8 hb8 haY8 hsp8 hp8 pr8 e48;generalize upd _ _ _=H8;intro hd1' ha8 hb8 haY8 hsp8 hp8 pr8 e48
     change LsS H8 spA ps at hsp8
     refine⟨_,rfl,_,rfl,p,rfl,⟨_,SqL.of hp8⟩,?_⟩;refine qA0 (xs:=ns.map V.ref) (λj ys H9=>H8=H9/\ys=(((net.take j).filter λt=>decide (t.2.2=pi)).map (·.1)).map V.str) ⟨rfl,rfl⟩ (λj ys H9 _ h=>by rw[<-h.1];exact SqL.of hp8) ?_ ?_
     ·rintro j x ys H9 hx ⟨rfl,rfl⟩;obtain⟨an,t,rfl,ht,hat⟩:=qDl pr8 hx;refine⟨an,_,rfl,SqT.of hat,rfl,_,_,rfl,_,_,rfl,_,_,rfl,rfl,?_⟩;refine⟨Sle.set _ (Sle.set _ (sls) (λu z=>by cases z)) (λu z=>by cases z),⟨_,rfl,_,rfl,_,rfl,spA,_,_,_,rfl,rfl,SqL.of hsp8,atS,rfl,_,rfl,?_⟩⟩;refine qGi (λc=>?_) λc=>?_
      ·have c':t.2.2=pi:=by simpa using c
       refine⟨_,rfl,?_,nxt (qBj hx) ⟨rfl,?_⟩⟩
       ·rw[hA4,hA4];have h1:=hBj (λt:Tr=>decide (t.2.2=pi)) (net.take j);have h2:=hD7 j net;exact qAd (by omega)
       ·rw[qAl ht,hBk,hCl (p:=λt:Tr=>decide (t.2.2=pi)) (hEt c'),hAf,hAf];rfl
      ·have c':¬t.2.2=pi:=by simpa using c
       refine nxt (qBj hx) ⟨rfl,?_⟩;rw[qAl ht,hBk,hCm (p:=λt:Tr=>decide (t.2.2=pi)) (by rw[hEu c'];exact hAo),hCr,hBr]
     rintro ys H9 ⟨rfl,rfl⟩ d2 hd2;rw[hA4,lns,hBh];have z2:=Ext.new hd2 (.lst (((net.filter λt=>decide (t.2.2=pi)).map (·.1)).map V.str));have f1:=hBj (λt:Tr=>decide (t.2.1=pi)) net;have f2:=hBj (λt:Tr=>decide (t.2.2=pi)) net;refine⟨d1,d2,_,_,rfl,rfl,z2 _ _ hd1',upd_same,?_,λd3 hd3=>?_⟩
     ·rw[hA4,hA4,hA4,hA4];exact hBz (qAd (by omega))
     have z3:=Ext.new hd3 (.lst (((net.filter λt=>decide (t.2.1=pi)).map (·.1)).map V.str++((net.filter λt=>decide (t.2.2=pi)).map (·.1)).map V.str));have hdu:LsS (upd (upd H8 d2 (.lst (((net.filter λt=>decide (t.2.2=pi)).map (·.1)).map V.str))) d3 (.lst (((net.filter λt=>decide (t.2.1=pi)).map (·.1)).map V.str++((net.filter λt=>decide (t.2.2=pi)).map (·.1)).map V.str))) d3 (qX8 net pi):=by
      unfold LsS qX8;rw[upd_same,hAf]
     have z23:=z2.trans z3;have haA:=z23 _ _ ha8;have hbA:=z23 _ _ hb8;have haYA:=z23 _ _ haY8;have e4A:=e48.trans z23;revert hdu haA hbA haYA e4A;generalize upd _ _ _=HA;intro hdu haA hbA haYA e4A;have ldu:(qX8 net pi).length<=24:=by
      unfold qX8;rw[hAk,hA4,hA4];omega
     refine⟨_,rfl,_,rfl,a,_,_,_,rfl,rfl,SqL.of haA,atX,b,_,1,_,rfl,rfl,SqT.of hbA,(by exact qAq (j:=1) rfl),aY,ss,rfl,SqL.of haYA,by omega,λsa ssa hsa pma soa=>?_⟩;have z4:=Ext.new hsa (.lst (ssa.map V.str));refine⟨_,rfl,d3,qX8 net pi,rfl,SqL.of (z4 _ _ hdu),by omega,λsb ssb hsb pmb sob=>?_⟩;have z5:=Ext.new hsb (.lst (ssb.map V.str));have oka:SOk ssa:=λx hx=>sok x (pma.mem_iff.mp hx)
     have okb:SOk ssb:=λx hx=>qL2 ok pi x ((qGj pi net).mem_iff.mp (pmb.mem_iff.mp hx))
     refine⟨_,_,qK6 (r:=ssa) (z5 _ _ upd_same),qK6 (r:=ssb) upd_same,qDc oka,qDc okb,_,rfl,?_⟩;rw[hEs rfl,qSf];have e4C:=e4A.trans (z4.trans z5);have same:ssa=ssb↔ss.Perm (starF net pi):=by
      constructor
      ·intro q;rw[q]at pma;exact pma.symm.trans (pmb.trans (qGj pi net))
      ·intro q;exact qJz (qLy soa) (qLy sob) (pma.trans (q.trans ((qGj pi net).symm.trans pmb.symm)))
     refine qGi (λc=>?_) λc=>?_
     ·refine nope _ e4C λ⟨ss',h,hp'⟩=>?_
      have h:=PyData.tuple.inj h;rw[hB4,hB4]at h;have h:=PyData.list.inj h.2.1;have h1:=qBh.mpr h;rw[qBh.mpr rfl]at h1;cases hAh h1;rw[same.mpr hp']at c;simp at c
     ·have cs:ssa=ssb:=by simpa using c
      refine⟨_,_,_,_,rfl,e4C,λj hj=>?_⟩;rcases Nat.lt_succ_iff_lt_or_eq.mp hj with h|h
      ·exact done j h
      ·subst h;rw[hpg,gD];exact⟨ss,rfl,same.mp cs⟩
    |_=>exact iteT (nope H4 e4 λ⟨ss,h,_⟩=>by
      have h:=PyData.tuple.inj h;rw[hB4,hB4]at h;cases h.2.1)
   |_=>exact iteT (nope H4 e4 λ⟨ss,h,_⟩=>by cases h)
  ·rintro σ H4 ⟨y3,y4,y5,y6,rfl,e4,done⟩;obtain⟨L,rfl,eps,prm⟩:=qOd lds λj h=>done j (by omega)
   subst eps;have G:=qVj ok pt prm;obtain⟨l24',r24⟩:=qOf dok ok G rfl;have fl:=qKq rp G;have tw:=qC2 G;have tws:Tw (RS (L.map (·.2))):=qVv qJf tw;have hds4:=hds.ext e4;have ha4:=e4 _ _ ha;have hsp4:LsS H4 spA (L.map (·.1)):=e4 _ _ hsp;have e24:=e1.trans e4;obtain⟨as,rfl,pas⟩:=qFr hds4;have las:=pas.length;refine⟨_,rfl,a,rfl,⟨_,SqL.of ha4⟩,?_⟩;refine qA0 (xs:=as.map V.ref) (λj ys H5=>H4=H5/\∃bs:List Addr,ys=bs.map V.ref/\Paired (λb r=>H4 b=some (.lst (r.map kV))) bs ((RS (L.map (·.2))).take j)) ⟨rfl,[],rfl,.nil⟩ (λj ys H5 _ h=>by rw[<-h.1];exact SqL.of ha4) ?_ ?_
   ·rintro j x ys H5 hx ⟨rfl,bs,rfl,pb⟩;obtain⟨b,rfl,hb⟩:=qFm hx;obtain⟨l,hl,r,hb1,hr0⟩:=qAo pas hb;refine⟨b,_,rfl,SqT.of hb1,rfl,_,_,rfl,_,_,rfl,rfl,?_⟩;refine⟨Sle.set _ (sls) (λu z=>by cases z),iteT (B:=False) ⟨_,rfl,?_,nxt (qBj hx) ⟨rfl,bs++[r],by rw[hAf];rfl,?_⟩⟩⟩
    ·have h1:=pb.length;have h2:=hD7 j (RS (L.map (·.2)));have h3:(RS (L.map (·.2))).length=L.length:=by unfold RS;rw[hA4,hA4]
     rw[hA4];exact qAd (by omega)
    ·have hl':(RS (L.map (·.2)))[j]?=some (l.2.map Sum.inr):=by
      unfold RS;rw[hAc,hAc,hl];rfl
     rw[qAl hl'];refine Paired.snc pb ?_;rw[hBi];exact hr0
   rintro ys H5 ⟨rfl,bs,rfl,pb⟩ tu htu;have lRS:(RS (L.map (·.2))).length=L.length:=by unfold RS;rw[hA4,hA4]
   rw[hA4,las,<-lRS,hBh]at pb;have x1:=Ext.new htu (.lst (bs.map V.ref));have tk:qHk (upd H4 tu (.lst (bs.map V.ref))) tu (RS (L.map (·.2))):=⟨bs,upd_same,Paired.mapP pb λ_ _ z=>x1 _ _ z⟩;have e25:=e24.trans x1;have ha5:=x1 _ _ ha4;have hsp5:=x1 _ _ hsp4;revert x1 tk e25 ha5 hsp5;generalize upd _ _ _=H6;intro x1 tk e25 ha5 hsp5;refine⟨_,rfl,tu,RS (L.map (·.2)),rfl,tk,by rw[lRS];exact l24',λi hi=>?_,tws,λfa H7 kvs M e7 hfa0 hfa dm fo=>?_⟩
   ·rw[show lenR (RS (L.map (·.2))) i=lenR (L.map (·.2)) i from qGg _ i];unfold lenR qAx;rw[hAa,hAc];cases q:L[i]? with
    |none=>exact hAy _
    |some l=>exact r24 l (hAs q)
   have hsp7:=e7 _ _ hsp5;refine⟨_,rfl,spA,_,rfl,.inl (SqL.of hsp7),_,rfl,by omega,by rw[hA4];omega,λrr hrr=>⟨rr,_,rfl,upd_same,by omega,by rw[hA4];omega,λhA hhA=>?_⟩⟩;have xA:=(Ext.new hrr (.rng 0 (((L.map (·.1)).map V.str).length:Nat))).trans (Ext.new hhA (.lst ((List.range ((((L.map (·.1)).map V.str).length:Nat):Int).toNat).map λ(i:Nat)=>V.int (i:Int))));have hA1:upd (upd H7 rr (.rng 0 (((L.map (·.1)).map V.str).length:Nat))) hA (.lst ((List.range ((((L.map (·.1)).map V.str).length:Nat):Int).toNat).map λ(i:Nat)=>V.int (i:Int))) hA=some (.lst ((List.range L.length).map λx=>nV (heapF [] x))):=by
    rw[upd_same,hB8,hA4,hA4];rfl
   have nAf:hA≠fa:=λz=>by
    rw[z]at hhA;rw[Ext.none (Ext.new hrr _) hhA]at hfa;cases hfa
   revert xA hA1;generalize upd _ _ _=H8;intro xA hA1;have hfa8:=xA _ _ hfa;have ntf:∀ys,H8 fa≠some (.tup ys):=λys z=>by rw[hfa8]at z;cases z
   refine⟨_,rfl,fa,kvs,rfl,hfa8,λo bsK hbsK=>?_⟩;have e29:=(e25.trans (e7.trans xA)).over (e25.none hfa0) (.frz o (.dT kvs));have tk9:=tk.ext ((e7.trans xA).over hfa0 (.frz o (.dT kvs)));have dm9:=(dm.ext xA).set ntf (.frz o (.dT kvs));have hA9:upd H8 fa (.frz o (.dT kvs)) hA=some (.lst ((List.range L.length).map λx=>nV (heapF [] x))):=by rw[qAb nAf];exact hA1
   have hK9:Paired (λb (kv:List Key×V)=>upd H8 fa (.frz o (.dT kvs)) b=some (.tup (kv.1.map kV))) bsK kvs:=Paired.mapP hbsK λb kv z=>by rw[qAb (λq=>by rw[q]at z;exact ntf _ z)];exact z
   have hf9:upd H8 fa (.frz o (.dT kvs)) fa=some (.frz o (.dT kvs)):=upd_same;revert e29 tk9 dm9 hA9 hK9 hf9;generalize upd _ _ _=H9;intro e29 tk9 dm9 hA9 hK9 hf9;clear tk dm hfa hA1 nAf hfa8 ntf hbsK hrr hhA hsp7 ha5 hsp5 x1 e25 e7 hfa0 xA;have lM:kvs.length=M.length:=dm9.length;have lK:bsK.length=kvs.length:=hK9.length;have eR:ends (RS (L.map (·.2)))=ends (L.map (·.2)):=qJi _;refine qK0 (λi σ H'=>∃(y4 y5 y10 y11:Option V) (hA:Addr),σ=[some (.ref p),some (.ref a),some (.ref spA),y3,y4,y5,y6,some (.ref tu),some (.ref fa),some (.ref hA),y10,y11,none,none,none,none,none]/\Ext H9 H'/\H' hA=some (.lst ((List.range L.length).map λx=>nV (heapF ((M.take i).map λp=>(p.1.1,p.2.1)) x))))
    ⟨_,_,_,_,hA,rfl,Ext.refl _,by rw[List.take_zero];exact hA9⟩ (λi σ H' _ z=>by obtain⟨_,_,_,_,_,_,e,_⟩:=z;exact e _ _ hf9) ?_ ?_
   ·rintro i σ H' T hi ⟨y4,y5,y10,y11,hA,rfl,e9,hAi⟩ hT;have hkv:=hA8 hi;obtain⟨pr0,hpr,hk1,b2,hk2,hb2⟩:=qAo dm9 hkv;have hib:i<bsK.length:=by omega
    have hb0:=hA8 hib;obtain⟨kv',hkv',hb1⟩:=qAo hK9 hb0;rw[hkv]at hkv';cases hAh hkv';have eit:itT bsK kvs i=[.ref bsK[i],.ref b2]:=by
     unfold itT;rw[hAa,hAa,hkv,hb0];show [V.ref bsK[i],kvs[i].2]=_;rw[hk2]
    rw[hk1]at hb1;rw[eit];generalize bsK[i]=b1 at hb1;have xT:=e9.trans (Ext.new hT (.tup [.ref b1,.ref b2]));have hAT:=Ext.new hT (.tup [.ref b1,.ref b2]) _ _ hAi;have hTT:upd H' T (.tup [.ref b1,.ref b2]) T=some (.tup [.ref b1,.ref b2]):=upd_same;revert xT hAT hTT;generalize upd _ _ _=HT;intro xT hAT hTT;have hb1T:=xT _ _ hb1;have hb2T:=xT _ _ hb2;have mM:=hAs hpr;obtain⟨q1,q2⟩:=fo.m1 _ mM;have lt1:pr0.1.1<L.length:=by have:=qAs q1;omega
    have lt2:pr0.2.1<L.length:=by have:=qAs (qAw tws q1).1;rw[<-q2]at this;omega
    have atH:∀z,z<L.length->atI ((List.range L.length).map λx=>nV (heapF ((M.take i).map λp=>(p.1.1,p.2.1)) x)) ((z:Nat):Int)=some (nV (heapF ((M.take i).map λp=>(p.1.1,p.2.1)) z)):=λz hz=>qAq (by rw[hAc,hCb hz];rfl)
    have at1:=atH _ lt1;have at2:=atH _ lt2;rw[qAl hpr,hAf,hAn,List.map_nil,qFv];generalize heapF ((M.take i).map λp=>(p.1.1,p.2.1))=h at at1 at2 hAT;refine⟨T,_,rfl,SqT.of hTT,rfl,_,_,rfl,_,_,rfl,rfl,?_⟩;refine⟨_,rfl,_,rfl,b1,_,0,_,rfl,rfl,SqT.of hb1T,(by exact qAq (j:=0) rfl),hA,_,((pr0.1.1:Nat):Int),nV (h pr0.1.1),rfl,rfl,SqL.of hAT,at1,_,rfl,_,rfl,b2,_,0,_,rfl,rfl,SqT.of hb2T,(by exact qAq (j:=0) rfl),hA,_,((pr0.2.1:Nat):Int),nV (h pr0.2.1),rfl,rfl,SqL.of hAT,at2,((h pr0.1.1:Nat):Int),((h pr0.2.1:Nat):Int),rfl,?_⟩;refine⟨_,rfl,_,rfl,b1,_,0,_,rfl,rfl,SqT.of hb1T,(by exact qAq (j:=0) rfl),hA,_,((pr0.1.1:Nat):Int),nV (h pr0.1.1),rfl,rfl,SqL.of hAT,at1,_,rfl,_,rfl,b2,_,0,_,rfl,rfl,SqT.of hb2T,(by exact qAq (j:=0) rfl),hA,_,((pr0.2.1:Nat):Int),nV (h pr0.2.1),rfl,rfl,SqL.of hAT,at2,((h pr0.1.1:Nat):Int),((h pr0.2.1:Nat):Int),rfl,?_⟩;rw[show(if ((h pr0.2.1:Nat):Int)<((h pr0.1.1:Nat):Int) then ((h pr0.2.1:Nat):Int) else ((h pr0.1.1:Nat):Int))=((min (h pr0.1.1) (h pr0.2.1):Nat):Int) from by split <;> omega,
     show(if ((h pr0.2.1:Nat):Int) > ((h pr0.1.1:Nat):Int) then ((h pr0.2.1:Nat):Int) else ((h pr0.1.1:Nat):Int))=((max (h pr0.1.1) (h pr0.2.1):Nat):Int) from by split <;> omega]
    refine⟨_,rfl,hA,rfl,⟨_,SqL.of hAT⟩,?_⟩;generalize pr0.1.1=u1 at *;generalize pr0.2.1=u2 at *;refine qA0 (xs:=(List.range L.length).map λx=>nV (h x)) (λj ys H4=>Ext HT H4/\ys=(List.range j).map λx=>nV (qMq h (u1,u2) x)) ⟨Ext.refl _,rfl⟩ (λj ys H4 _ z=>SqL.of (z.1 _ _ hAT)) ?_ ?_
    ·rintro j x ys H4 hx ⟨e5,rfl⟩;have hj:j<L.length:=by have:=qBj hx;rwa [hA4,hB1]at this
     have ex:x=nV (h j):=by
      rw[hAc,hCb hj]at hx;exact(hAh hx).symm
     subst ex;refine⟨sls,iteT (B:=False) ?_⟩;refine⟨_,rfl,_,rfl,(by show 2<=sizeLine;decide),λr5 hr5=>?_⟩;have x5:=e5.trans (Ext.new hr5 (.lst [nV (h j),nV (min (h u1) (h u2))]));refine⟨_,rfl,_,rfl,rfl,.inr ⟨_,rfl,?_⟩⟩;have ex:(List.range (j+1)).map (λx=>nV (qMq h (u1,u2) x))=(List.range j).map (λx=>nV (qMq h (u1,u2) x))++[nV (qMq h (u1,u2) j)]:=by rw[hBv,hAf];rfl
     have sm:((List.range j).map λx=>nV (qMq h (u1,u2) x)).length<sizeLine:=by rw[hA4,hB1];exact qAd (by omega)
     by_cases c:h j=max (h u1) (h u2)
     ·rw[hEt (show nV (h j)=V.int ((max (h u1) (h u2):Nat):Int) from by rw[c])];refine⟨r5,_,1,_,rfl,rfl,SqL.of upd_same,(by exact qAq (j:=1) rfl),sm,nxt (qBj hx) ⟨x5,?_⟩⟩;rw[ex];show _=_++[nV (if h j=max (h u1) (h u2) then min (h u1) (h u2) else h j)];rw[hEs c]
     ·rw[hEu (show ¬nV (h j)=V.int ((max (h u1) (h u2):Nat):Int) from λz=>c (by have:=V.int.inj z;omega))];refine⟨r5,_,0,_,rfl,rfl,SqL.of upd_same,(by exact qAq (j:=0) rfl),sm,nxt (qBj hx) ⟨x5,?_⟩⟩;rw[ex];show _=_++[nV (if h j=max (h u1) (h u2) then min (h u1) (h u2) else h j)];rw[hEr c]
    rintro ys H4 ⟨e5,rfl⟩ hB hhB;rw[hA4,hB1];exact⟨_,_,_,_,hB,rfl,(xT.trans e5).trans (Ext.new hhB _),upd_same⟩
   rintro σ H4 ⟨y4',y5',y10,y11,hA,rfl,e9,hA5⟩;rw[lM,hBh]at hA5;have hd0:=qUf tw (us:=M.map λp=>(p.1.1,p.2.1)) (λu hu=>by
    obtain⟨q,hq,rfl⟩:=hAm.mp hu;obtain⟨q1,q2⟩:=fo.m1 q hq;refine⟨q.1,eR▸q1,?_⟩;rw[q2,show farR (RS (L.map (·.2))) q.1=farR (L.map (·.2)) q.1 from qRq qJf tw (eR▸q1)]) (λe he=>by
    obtain⟨q,hq,rfl⟩:=hAm.mp (fo.m2 e (by rw[eR];exact he));refine hAm.mpr ⟨q,hq,?_⟩;rw[(fo.m1 q hq).2,show farR (RS (L.map (·.2))) q.1=farR (L.map (·.2)) q.1 from qRq qJf tw he])
   generalize heapF (M.map λp=>(p.1.1,p.2.1))=h at hd0 hA5;have lE:(ends (L.map (·.2))).length<=24:=by
    rw[qUp G];omega
   have keys:kvs.map (·.1)=(M.map (·.1)).map kP:=qOt dm9;have lMe:(M.map (·.1)).length<=24:=hBa (hBe fo.mn λe he=>by
    obtain⟨q,hq,rfl⟩:=hAm.mp he;rw[<-eR];exact(fo.m1 q hq).1) lE
   have hfz5:=e9 _ _ hf9;refine⟨hAy _,λmA hmA=>λdA hdA=>?_⟩;have e9C:=e9.trans (Ext.new hmA (.lst []));have hmC:upd H4 mA (.lst []) mA=some (.lst []):=upd_same;have hAC:=Ext.new hmA (.lst []) _ _ hA5;revert e9C hmC hAC hdA;generalize upd _ _ _=HC;intro hdA e9C hmC hAC;have xd:=Ext.new hdA (.dK []);refine⟨_,rfl,fa,kvs,M.map (·.1),rfl,.inr ⟨o,xd _ _ (e9C _ _ hf9)⟩,keys,by omega,λrs as' es' hrs perm prs=>?_⟩;have prC:Paired (qDt HC) as' es':=Paired.mapP prs λb e z=>by
    have z':upd HC dA (.dK []) b=some (.tup [.int (e.1:Nat),.int (e.2:Nat)]):=z;by_cases q:b=dA
    ·rw[q,upd_same]at z';cases z'
    ·rw[qAb q]at z';exact z'
   have nrd:rs≠dA:=λq=>by rw[q,upd_same]at hrs;cases hrs
   have les:=perm.length_eq;have lps':=prC.length;have e2C:=e29.trans e9C;have tkC:=tk9.ext e9C;have dmC:=dm9.ext e9C;have hfC:=e9C _ _ hf9;have hr0:upd (upd HC dA (.dK [])) rs (.lst (as'.map V.ref)) rs=some (.lst (as'.map V.ref)):=upd_same;have xr:=xd.trans (Ext.new hrs (.lst (as'.map V.ref)));have hd0':upd (upd HC dA (.dK [])) rs (.lst (as'.map V.ref)) dA=some (.dK []):=by rw[qAb (Ne.symm nrd)];exact upd_same
   revert hr0 xr hd0';generalize upd _ _ _=HD;intro hr0 xr hd0';refine⟨rs,rfl,⟨_,SqL.of hr0⟩,?_⟩;refine qC6 (xs:=as'.map V.ref) (λi σ H'=>∃(y15:Option V) (mA:Addr) (ms:List Addr) (Fs:List (List Ps)) (fv:List (Key×V)),σ=[some (.ref p),some (.ref a),some (.ref spA),y3,y4',y5',y6,some (.ref tu),some (.ref fa),some (.ref hA),y10,y11,none,some (.ref mA),some (.ref dA),y15,none]/\Ext HC H'/\H' rs=some (.lst (as'.map V.ref))/\H' mA=some (.lst (ms.map V.ref))/\Paired (qDt H') ms Fs.flatten/\Dn (onR (L.map (·.2))) (ends (L.map (·.2))) Fs/\(∀F∈Fs,F≠[])/\(∀e∈es'.take i,e∈Fs.flatten)/\H' dA=some (.dK fv)/\fv.length<=i/\∀v:Nat,valV fv (Sum.inl (v:Int))=if fcn h v Fs=0 then none else some (nV (fcn h v Fs)))
    ⟨_,mA,[],[],[],rfl,xr,hr0,xr _ _ hmC,.nil,⟨λF z=>(by cases z),λe z=>(by cases z),hCf⟩,λF z=>(by cases z),λe z=>(by rw[List.take_zero]at z;cases z),hd0',hAj _,λv=>rfl⟩ (λi σ H' _ z=>by obtain⟨_,_,_,_,_,_,_,e,_⟩:=z;exact SqL.of e) ?_ ?_
   ·rintro i x σ H' hx ⟨y15,mA,ms,Fs,fv,rfl,eC,hrs',hm',pbm,dn,nF,tk',hd',lfv,hfv⟩;obtain⟨b,rfl,hb⟩:=qFm hx;obtain⟨e,he,hbe⟩:=qAo prC hb;have hbe':=hbe.ext eC;have hi:i<as'.length:=by have:=qBj hx;rwa [hA4]at this
    have eE:e∈ends (L.map (·.2)):=by
     obtain⟨q,hq,rfl⟩:=hAm.mp (perm.mem_iff.mp (hAs he));rw[<-eR];exact(fo.m1 q hq).1
    have sub:Fs.flatten.length<=24:=hBa (hBe dn.nd dn.inE) lE;have lms:=pbm.length;refine⟨_,rfl,_,rfl,Fs.flatten.map dI,dI e,.lst (SqL.of hm') (qHb pbm),qSj hbe',qB6 (λd hd=>by obtain⟨u,_,rfl⟩:=hAm.mp hd;exact qKr u),(qKr e).shaped,_,rfl,?_⟩;rw[qS3];by_cases my:e∈Fs.flatten
    ·rw[hEt my];refine qFs ⟨_,mA,ms,Fs,fv,rfl,eC,hrs',hm',pbm,dn,nF,λu hu=>?_,hd',by omega,hfv⟩;rw[qAl he]at hu;rcases hAp.mp hu with q|q
     ·exact tk' u q
     ·rw[hAd.mp q];exact my
    ·rw[hEu my];refine iteT ?_;refine⟨_,rfl,_,rfl,_,rfl,_,rfl,tu,fa,b,RS (L.map (·.2)),kvs,M,e,rfl,tkC.ext eC,by rw[eR];omega,tws,.inr ⟨o,eC _ _ hfC⟩,dmC.ext eC,fo,hbe',by rw[eR];exact eE,λr H6 bs l e6 hr0' hr6 pbs wk lbs=>?_⟩;have wk':=qU5 qJf tw wk;have dn':=qYa dn wk' my;have efl:(Fs++[e :: l]).flatten=Fs.flatten++(e :: l):=by simp
     have sub':(Fs++[e :: l]).flatten.length<=24:=hBa (hBe dn'.nd dn'.inE) lE;rw[efl,hAk]at sub';have lbs':=pbs.length;refine⟨mA,r,_,_,rfl,rfl,e6 _ _ hm',hr6,?_,λm2 hm2=>?_⟩
     ·rw[hA4,hA4];exact hBz (qAd (by omega))
     have x7:=Ext.new hm2 (.lst (ms.map V.ref++bs.map V.ref));have hm7:upd H6 m2 (.lst (ms.map V.ref++bs.map V.ref)) m2=some (.lst ((ms++bs).map V.ref)):=by rw[upd_same,hAf]
     have pb7:Paired (qDt (upd H6 m2 (.lst (ms.map V.ref++bs.map V.ref)))) (ms++bs) (Fs++[e :: l]).flatten:=by
      rw[efl];exact qQx (Paired.mapP pbm λ_ _ z=>z.ext (e6.trans x7)) (Paired.mapP pbs λ_ _ z=>z.ext x7)
     have hd7:=(e6.trans x7) _ _ hd';have hrs7:=(e6.trans x7) _ _ hrs';have hbe7:=hbe'.ext (e6.trans x7);have eC7:=eC.trans (e6.trans x7);revert hm7 pb7 hd7 hrs7 hbe7 eC7;generalize upd _ _ _=H7;intro hm7 pb7 hd7 hrs7 hbe7 eC7;have iL:e.1<L.length:=by have:=qAs eE;rw[hA4]at this;exact this
     have hA7:=eC7 _ _ hAC;have atE:atI ((List.range L.length).map λx=>nV (h x)) ((e.1:Nat):Int)=some (nV (h e.1)):=qAq (by rw[hAc,hCb iL];rfl);have hv:(valV fv (Sum.inl ((h e.1:Nat):Int))).getD (.int 0) = .int ((fcn h (h e.1) Fs:Nat):Int):=by
      rw[hfv];split
      ·rename_i q;rw[q];rfl
      ·rfl
     refine⟨_,rfl,dA,rfl,.inl ⟨fv,.inl hd7⟩,_,rfl,_,rfl,b,_,0,_,rfl,rfl,SqT.of hbe7,(by exact qAq (j:=0) rfl),hA,_,((e.1:Nat):Int),nV (h e.1),rfl,rfl,SqL.of hA7,atE,_,qD3.k (k:=Sum.inl ((h e.1:Nat):Int)) hd7,_,_,hv,rfl,?_⟩;refine⟨_,rfl,_,rfl,_,rfl,b,_,0,_,rfl,rfl,SqT.of hbe7,(by exact qAq (j:=0) rfl),hA,_,((e.1:Nat):Int),nV (h e.1),rfl,rfl,SqL.of hA7,atE,dA,_,rfl,qJx.k (k:=Sum.inl ((h e.1:Nat):Int)) hd7 (qAd (by omega)),?_⟩;have nt7:∀ys,H7 dA≠some (.tup ys):=λys z=>by rw[hd7]at z;cases z
     have nm:m2≠dA:=λq=>by rw[q,hd7]at hm7;cases hm7
     refine⟨_,m2,ms++bs,Fs++[e :: l],_,rfl,eC7.over hdA _,by rw[qAb nrd];exact hrs7,by rw[qAb nm];exact hm7,Paired.mapP pb7 λ_ _ z=>z.set nt7 _,dn',λF hF=>?_,λu hu=>?_,upd_same,hBa (qC4 _ _ _) (by omega),λv=>?_⟩
     ·rcases hAp.mp hF with q|q
      ·exact nF F q
      ·rw[hAd.mp q];exact λz=>by cases z
     ·rw[efl];rw[qAl he]at hu;rcases hAp.mp hu with q|q
      ·exact hAx _ (tk' u q)
      ·rw[hAd.mp q];exact hAq _ hAb
     ·rw[qTb,qUo];by_cases c:h e.1=v
      ·subst c;rw[hEs rfl,hEs rfl,hEr (by omega)];rfl
      ·rw[hEr c,hEr (λz=>c (by have:=Sum.inl.inj z;omega)),Nat.add_zero];exact hfv v
   rintro σ H6 ⟨y15,mA,ms,Fs,fv,rfl,eC,_,_,_,dn,nF,tk',hd',lfv,hfv⟩;rw[hA4]at tk';have hF:=dn.isF λe he=>tk' e (by
    rw[hBw (by omega)];exact perm.mem_iff.mpr (fo.m2 e (by rw[eR];exact he)))
   have cl:=qUv G hd0 hF nF;rw[hA4]at cl;have e26:=e2C.trans eC;have hA6:H6 hA=some (.lst (((List.range L.length).map λx=>((h x:Nat):Int)).map V.int)):=by
    rw[hBi];exact eC _ _ hAC
   have tk6:=tkC.ext eC;clear dn tk' tk9 dm9 hA9 hK9 hf9 prC perm prs hrs hr0 xr hd0' xd hdA hAC hmC dmC tkC hfC e9C e2C e29 eC;refine⟨_,rfl,hA,_,rfl,SqL.of hA6,by rw[hA4,hB1];omega,λsA ss' hsA nds' les' mms'=>⟨sA,ss',rfl,upd_same,?_,λhs hds hhs prm' sor'=>⟨hs,rfl,⟨_,SqL.of upd_same⟩,?_⟩⟩⟩
   ·rw[hA4,hB1]at les';omega
   have x8:=(Ext.new hsA (zAq (qM3 CX0 P w K mg base ilN (Str.ofString "_law_is_laid") (qAc qBp) f cdv A outer s H E).nox.prog (qM3 CX0 P w K mg base ilN (Str.ofString "_law_is_laid") (qAc qBp) f cdv A outer s H E).nox.w sA ss')).trans (Ext.new hhs (.lst (hds.map V.int)));have hs8:upd (upd H6 sA (zAq (qM3 CX0 P w K mg base ilN (Str.ofString "_law_is_laid") (qAc qBp) f cdv A outer s H E).nox.prog (qM3 CX0 P w K mg base ilN (Str.ofString "_law_is_laid") (qAc qBp) f cdv A outer s H E).nox.w sA ss')) hs (.lst (hds.map V.int)) hs=some (.lst (hds.map V.int)):=upd_same;revert x8 hs8;generalize upd _ _ _=H8;intro x8 hs8;have mem:∀x:Int,x∈hds↔∃i,i<L.length/\((h i:Nat):Int)=x:=λx=>by
    rw[prm'.mem_iff,mms',hAm];exact⟨λ⟨i,hi,q⟩=>⟨i,hAw.mp hi,q⟩,λ⟨i,hi,q⟩=>⟨i,hAw.mpr hi,q⟩⟩
   refine qC6 (xs:=hds.map V.int) (λi σ H'=>∃(y12 y16:Option V),σ=[some (.ref p),some (.ref a),some (.ref spA),y3,y4',y5',y6,some (.ref tu),some (.ref fa),some (.ref hA),y10,y11,y12,some (.ref mA),some (.ref dA),y15,y16]/\Ext H8 H'/\∀j,j<i->∀k,k<L.length->hds[j]?=some ((h k:Nat):Int)->((fcn h (h k) Fs:Nat):Int)=(cE h (h k) (L.map (·.2)):Nat) / 2-(cP h (h k) L.length:Nat)+2)
    ⟨_,_,rfl,Ext.refl _,λj z=>absurd z (hD6 j)⟩ (λi σ H' _ z=>by obtain⟨_,_,_,e,_⟩:=z;exact SqL.of (e _ _ hs8)) ?_ ?_
   ·rintro i x σ H' hx ⟨y12,y16,rfl,e8,dn8⟩;have hx':∃v,x = .int v/\hds[i]?=some v:=by
     rw[hAc]at hx;cases q:hds[i]? with
     |none=>rw[q]at hx;cases hx
     |some v=>rw[q]at hx;exact⟨v,(hAh hx).symm,rfl⟩
    obtain⟨v,rfl,hv⟩:=hx';obtain⟨k0,hk0,rfl⟩:=(mem v).mp (hAs hv);have e68:=x8.trans e8;have hAE:=e68 _ _ hA6;have hdE:=e68 _ _ hd';obtain⟨bs',htu',pb'⟩:=tk6.ext e68;have atH:∀z,z<L.length->atI (((List.range L.length).map λx=>((h x:Nat):Int)).map V.int) ((z:Nat):Int)=some (.int ((h z:Nat):Int)):=λz hz=>qAq (by rw[hAc,hAc,hCb hz];rfl)
    refine⟨_,rfl,hA,_,rfl,.inl (SqL.of hAE),_,rfl,by rw[hA4,hA4,hB1];omega,by rw[hA4,hA4,hB1];omega,?_⟩;rw[hA4,hA4,hB1,hB8];refine qDh (λj ys H4=>H'=H4/\ys=((((List.range j).filter λi=>decide (h i=h k0)).map (lenR (L.map (·.2)))).map λn:Nat=>(n:Int)).map V.int) ⟨rfl,rfl⟩ ?_ ?_
    ·rintro j ys H4 hj ⟨rfl,rfl⟩;rw[hDt];refine⟨sls,⟨_,rfl,_,rfl,hA,_,((j:Nat):Int),_,rfl,rfl,SqL.of hAE,atH j hj,_,rfl,rfl,_,rfl,?_⟩⟩;have lf:=hBj (λi=>decide (h i=h k0)) (List.range j);rw[hB1]at lf;refine qGi (λc=>?_) λc=>?_
     ·have c':h j=h k0:=by
       have:=V.int.inj (hEz c);omega
      have hjb:j<bs'.length:=by have:=pb'.length;omega
      have hbj:=hA8 hjb;obtain⟨row,hrow,hbc⟩:=qAo pb' hbj;have elen:lenR (L.map (·.2)) j=row.length:=by
       rw[<-qGg (f:=(Sum.inr:Str->Key))];unfold lenR qAx;rw[hAa,show(List.map (List.map (Sum.inr:Str->Key)) (L.map (·.2)))[j]?=some row from hrow];rfl
      refine⟨_,rfl,_,rfl,tu,_,((j:Nat):Int),.ref bs'[j],rfl,rfl,SqL.of htu',qAq (by rw[hAc,hbj];rfl),bs'[j],_,rfl,.inl (SqL.of hbc),?_,nxt hj ⟨rfl,?_⟩⟩
      ·rw[hA4,hA4,hA4];exact qAd (by omega)
      ·rw[hBv,hBk,hCl (p:=λi=>decide (h i=h k0)) (hEt c'),hAf,hAf,hAf,hCr,hAn,List.map_nil,hAn,List.map_nil,hAn,List.map_nil,elen,hA4]
     ·have c':¬h j=h k0:=λz=>of_decide_eq_false (by simpa using c) (by rw[z])
      refine nxt hj ⟨rfl,?_⟩;rw[hBv,hBk,hCm (p:=λi=>decide (h i=h k0)) (by rw[hEu c'];exact hAo),hCr,hBr]
    rintro ys H4 ⟨rfl,rfl⟩ lA hlA;have xl:=Ext.new hlA (.lst (((((List.range L.length).filter λi=>decide (h i=h k0)).map (lenR (L.map (·.2)))).map λn:Nat=>(n:Int)).map V.int));have e8':=e8.trans xl;have hAl:=xl _ _ hAE;have hdl:=xl _ _ hdE;refine⟨lA,_,rfl,SqL.of upd_same,_,_,rfl,rfl,(by constructor <;> decide),?_⟩;rw[qP1];have es:(((List.range L.length).filter λi=>decide (h i=h k0)).map (lenR (L.map (·.2)))).sum=cE h (h k0) (L.map (·.2)):=by
     rw[zAp,hA4]
    rw[es];have hdg:qD3 (upd H' lA (.lst (((((List.range L.length).filter λi=>decide (h i=h k0)).map (lenR (L.map (·.2)))).map λn:Nat=>(n:Int)).map V.int))) dA (.int ((h k0:Nat):Int)) (some (nV (fcn h (h k0) Fs))):=by
     have:=qD3.k (k:=Sum.inl ((h k0:Nat):Int)) hdl;rw[hfv,hEr (qX6 tw hd0 hF nF (qTq G hk0))]at this;exact this
    have cnt:(((List.range L.length).map λx=>((h x:Nat):Int)).map PyData.int).countP (λy=>PyData.eqv y (.int ((h k0:Nat):Int)))=cP h (h k0) L.length:=by
     unfold cP;rw[hE0,hE0];refine hCa λi _=>?_
     show PyData.eqv (.int ((h i:Nat):Int)) (.int ((h k0:Nat):Int))=true↔(h i == h k0)=true;rw[qMx,hEv,hG6];omega
    revert hAl hdg e8';generalize upd _ _ _=H9';intro e8' hAl hdg;refine⟨_,rfl,_,rfl,dA,_,rfl,hdg,_,rfl,_,rfl,.inl ⟨rfl,_,SqL.of hAl⟩,_,rfl,hA,_,_,_,_,rfl,rfl,hAl,qOs _,.int _,qOj _,rfl,hAy 16,_,_,rfl,rfl,_,_,rfl,rfl,rfl,_,rfl,?_⟩;rw[cnt];refine qGi (λc=>?_) λc=>?_
    ·refine Q0 false _ ⟨λz=>(by cases z),λz=>?_⟩ ((e26.trans x8).trans e8');have q:=cl.mp (fl.mp z) k0 hk0;have c:(!decide (V.int ((fcn h (h k0) Fs:Nat):Int)=V.int ((cE h (h k0) (L.map (·.2)):Nat) / 2-(cP h (h k0) L.length:Nat)+2)))=true:=c;rw[q,hEt rfl]at c;cases c
    ·have c':((fcn h (h k0) Fs:Nat):Int)=(cE h (h k0) (L.map (·.2)):Nat) / 2-(cP h (h k0) L.length:Nat)+2:=V.int.inj (hEz (by simpa using c));refine⟨_,_,rfl,e8',λj hj k hk q=>?_⟩;rcases Nat.lt_succ_iff_lt_or_eq.mp hj with z|z
     ·exact dn8 j z k hk q
     ·subst z;rw[hv]at q;have:h k=h k0:=by have:=hAh q;omega
      rw[this];exact c'
   ·rintro σ H' ⟨y12,y16,rfl,e8,dn8⟩;refine Q0 true H' ⟨λ_=>fl.mpr (cl.mpr λk hk=>?_),λ_=>rfl⟩ ((e26.trans x8).trans e8);obtain⟨j,hjv⟩:=hDp.mp ((mem ((h k:Nat):Int)).mpr ⟨k,hk,rfl⟩);have hj:=(hAz.mp hjv).1;exact dn8 j (by rw[hA4];exact hj) k hk hjv
 |_=>exact iteT (Q0 false H3 ⟨λz=>(by cases z),λh=>by obtain⟨L,e,_⟩:=h;cases e⟩ e1)
end
def qTg(K:PySem.W.Frag):Sp:=λvs H Q _=>∃(a:Addr) (ns:List Int),vs=[.ref a]/\SqL K H a (ns.map V.int)/\ns.length<=63/\∀H',Q (.bl true) H'
noncomputable def trD(t:Tr):PyData:=.tuple [.str t.1,.str t.2.1,.str t.2.2]
theorem qJk{H:Hp}:∀ {as:List Addr} {net:List Tr},Paired (λa t=>H a=some (.tup (trV t))) as net->Dhs H (as.map V.ref) (net.map trD)
 |_,_,.nil=>.nil
 |_,_,.cons h t=>.cons (.tup h (.cons (.str _) (.cons (.str _) (.cons (.str _) .nil)))) (qJk t)
theorem zAk{H:Hp}{p:Addr}{net:List Tr}(h:qEl H p net):Dh H (.ref p) (.list (net.map trD)):=by
 obtain⟨as,hp,pr⟩:=h;exact .lst hp (qJk pr)
theorem qHc{H:Hp}:∀ {as:List Addr} {L:List (Str×List Str)},Paired (λa l=>∃r,H a=some (.tup [.str l.1,.ref r])/\LsS H r l.2) as L->Dhs H (as.map V.ref) (L.map dtE)
 |_,_,.nil=>.nil
 |_,_,.cons ⟨r,h1,h2⟩ t=>.cons (qE8 h1 h2) (qHc t)
theorem qRn{net:List Tr}(ok:NetOk net):(PyData.list (net.map trD)).canLay0=true/\(PyData.list (net.map trD)).depth<=2:=by
 refine qCp (n:=1) λe he=>?_
 obtain⟨t,ht,rfl⟩:=hAm.mp he;obtain⟨o1,o2,o3⟩:=ok.ok t ht;refine qEj (n:=0) λi hi=>?_
 simp only[hAg,hC6,hFv]at hi;rcases hi with rfl|rfl|rfl
 ·exact qCe o1 0
 ·exact qCe o2 0
 ·exact qCe o3 0
theorem qZz{D:PyData}{n:Nat}(h:D.canLay0=true/\D.depth<=n)(l:n<=8:=by decide):SeqAt.shaped D=true:=Lay.shaped ⟨h.1,hBa h.2 l⟩
theorem qZx(n:Int):4<=(if (if 9<n then 9 else n) > 4 then if 9<n then 9 else n else 4)/\(if (if 9<n then 9 else n) > 4 then if 9<n then 9 else n else 4)<=9:=by
 by_cases h:9<n
 ·rw[hEs h,hEs (by decide)];omega
 ·rw[hEr h];by_cases k:n > 4
  ·rw[hEs k];omega
  ·rw[hEr k];omega
theorem LOk.eok{net:List Tr}{L:List (Str×List Str)}(h:LOk net L):∀e∈L.map dtE,EOk e:=λe he=>by
 obtain⟨l,hl,rfl⟩:=hAm.mp he;obtain⟨h1,h2⟩:=h.strs l hl;exact qSg h1 h2 (by have:=(h.row l hl).2;omega)
theorem LOk.dok{net:List Tr}{L:List (Str×List Str)}(h:LOk net L):DOk (dtL L):=qIe (by rw[hA4];have:=h.few;omega) h.eok
theorem LOk.laid{net:List Tr}{L:List (Str×List Str)}(h:LOk net L):qNd net (dtL L):=⟨L,rfl,h.rise,h.rnd,h.flat⟩
theorem LOk.dokT{net:List Tr}{L:List (Str×List Str)}(h:LOk net L):DOk (.tuple (L.map dtE)):=by
 refine⟨?_,λds z=>(by cases z),λds z=>(by cases z)⟩;have:=qEj (n:=5) λe he=>(h.eok e he).1
 exact⟨this.1,hBa this.2 (by decide)⟩
theorem LOk.both{net:List Tr}{L:List (Str×List Str)}(h:LOk net L):Lay (.list [.list (net.map trD),dtL L]):=by
 have h1:=qRn h.ok;have h2:(dtL L).canLay0=true/\(dtL L).depth<=6:=qCp (n:=5) λe he=>(h.eok e he).1
 have:=qCp (n:=6) (is:=[.list (net.map trD),dtL L]) λi hi=>by
  simp only[hAg,hC6,hFv]at hi;rcases hi with rfl|rfl
  ·exact qDm h1 (by decide)
  ·exact h2
 exact⟨this.1,hBa this.2 (by decide)⟩
theorem LOk.ne{net:List Tr}{L:List (Str×List Str)}(h:LOk net L)(n:net≠[]):L≠[]:=λz=>by
 subst z;obtain⟨t,r,rfl⟩:=List.exists_cons_of_ne_nil n;have:=(h.rnd.pts.2 t.2.1).mpr ⟨t,hAb,.inl rfl⟩;cases this
theorem qXn{net:List Tr}{ds:List PyData}:¬qNd net (.tuple ds):=λ⟨_,e,_⟩=>by cases e
theorem qXo{net:List Tr}:¬qNd net .none:=λ⟨_,e,_⟩=>by cases e
section
variable{P:Program}{w:World}{K:PySem.W.Frag}{mg:Str->Option Value}{base:Heap}{f f1 f2 f3 f4 f5 f6 f7:Addr}{fd fd1 fd2 fd3 fd4 fd5 fd6 fd7:FuncData}
theorem qY4:FnScope ["_law_found","_law_due"] ["_law_found","_law_due"] (qAc qWo):=fsk
theorem qXf(F:Fun K "_law_says" "_law_says" qWo f fd)(mi:mg "isinstance"=none)(mb:mg "bool"=none):FnOk P w K mg base CX0 1 f fd ["_law_found","_law_due"] qVa:=by
 refine F.okA qY4 λcdv A outer s H vs Q E hr h=>?_
 obtain⟨p,r,rfl,q⟩:=h;refine⟨_,qAi (qA2 (qVo (qAh qBr rfl mi qBs (qAe (pv 0) (pa1 (qDj (v:=.ty "bool") rfl mb qPo rfl)))) (qVn (qGz qE0 (pv 0) (pv 1) (qA6 _))))),?_⟩;refine⟨_,rfl,_,_,_,true,rfl,.bl p,qGh _ _,true,rfl,?_⟩;refine iteT ?_;exact⟨_,rfl,_,rfl,rfl,q⟩
noncomputable abbrev lwN:List Str:=["_law_script","_law_draw","_law_turns","_law_count","_law_net","_law_lists","_law_handed","_law_k","_law_made"]
theorem qIs:FnScope lwN ["_law_script"] (qAc qS5):=fsk
theorem qZr(F:Fun K "law" "law" qS5 f fd)(G1:Cl P w K mg base CX0 2 f1 fd1 ["_law_script","_law_at"] (qP4 K) "_law_purse")
  (G2:Cl P w K mg base CX0 2 f2 fd2 ["_law_draw"] qP6 "_law_grown")
  (G3:Cl P w K mg base CX0 2 f3 fd3 ["_law_draw","_law_turns","_law_count"] qU7 "_law_told")
  (G4:Cl P w K mg base CX0 4 f4 fd4 ["net","lists"] qVb "lays")
  (G5:Cl P w K mg base CX0 1 f5 fd5 ["_law_found","_law_due"] qVa "_law_says")
  (G6:Cl P w K mg base CX0 2 f6 fd6 ["_law_draw","_law_lists"] qNm "_law_spoilt")
  (G7:Cl P w K mg base CX0 2 f7 fd7 ["_law_net","_law_lists"] qNo "_law_is_laid")
  (mr:mg "range"=none) (mL:mg "list"=none) (mT:mg "tuple"=none) (ml:mg "len"=none) (mmi:mg "min"=none) (mma:mg "max"=none) (mI:mg "int"=none):FnOk P w K mg base CX0 5 f fd ["_law_script"] (qTg K):=by
 refine F.okA qIs λcdv A outer s H vs Q E hr h=>?_
 obtain⟨a,ns,rfl,hS,l63,Q0⟩:=h;have hr1:=hr.mono (j:=1) (by decide);have hr2:=hr.mono (j:=2) (by decide);refine⟨_,(qAa (qAr (i:=1) qIs.nd rfl (Or.inl rfl) (qBf G1 hr2 rfl .nil qBg (qAe (pv 0) (pa1 qAk)))) (qAa (qEx (qBf G2 hr2 rfl .nil qBg (pa1 (pv 1))) (qBt rfl (qAg (qAf (i:=2) qIs.nd rfl (Or.inl rfl)) (qAg (qAf (i:=3) qIs.nd rfl (Or.inl rfl)) qA3)))) (qAa (qEx (qBf G3 hr2 rfl .nil qBg (qAe (pv 1) (qAe (pv 2) (pa1 (pv 3))))) (qBt rfl (qAg (qAf (i:=4) qIs.nd rfl (Or.inl rfl)) (qAg (qAf (i:=5) qIs.nd rfl (Or.inl rfl)) qA3)))) (qAa (qAr (i:=6) qIs.nd rfl (Or.inl rfl) (qBo (qAe (qA7 qB1 rfl mL qBa (pa1 (pv 4))) (pa1 (qFq (N:=lwN) (sc:=qAc qS5) (N':=["_law_point","_law_ties"]) (sub:=[none,none]) rfl rfl (CmpOk.of (by decide +kernel)) rfl (qA1 (pv 5)) (λC s H fp=>⟨(show PG _ _ (qPt K 2 _) from qBt rfl (qAg (qAf (i:=0) (by show(["_law_point","_law_ties"]:List Str).Nodup;decide) rfl (Or.inl rfl)) (qAg (qAf (i:=1) (by show(["_law_point","_law_ties"]:List Str).Nodup;decide) rfl (Or.inl rfl)) qA3))),qBk,(qB4 (qAe (pv 0) (pa1 (qA7 (show qCa _ _ (zB7 K) from qB1) rfl mL qBa (pa1 (pv 1))))))⟩)))))) (qAa (qC9 (PW.pt (qHo (qDe (qDd (qBf G5 hr1 rfl .nil qBg (qAe (qBf G4 hr rfl .nil qBg (qAe (qAt qAm (pv 6) qAk (λ_ _=>rfl)) (pa1 (qAt qAm (pv 6) qAk (λ_ _=>rfl))))) (pa1 qDf))))) (qEw (qAv (qH3 (qF6 hr)) (pv 6) (qBo (qAe (pv 4) (pa1 (pv 5)))) (qA6 _))))) (qAi (qA2 qDf)) qBy) (qAa (qC9 (PW.pt (qHo (qDe (qDd (qBf G5 hr1 rfl .nil qBg (qAe (qBf G4 hr rfl .nil qBg (qAe (qA7 qB1 rfl mL qBa (pa1 (pv 4))) (pa1 (qA7 qFc rfl mT qDr (pa1 (pv 5)))))) (pa1 qDf))))) (qEw (qDe (qDd (qBf G5 hr1 rfl .nil qBg (qAe (qBf G4 hr rfl .nil qBg (qAe (qA7 qB1 rfl mL qBa (pa1 (pv 4))) (pa1 qRa))) (pa1 qDf)))))))) (qAi (qA2 qDf)) qBy) (qAa (qB3 PassesOwn.never rfl (qQ6 rfl mr (qAe qAk (pa1 (qA5 qEz (qAh (qLi rfl) rfl mma qHi (qAe qAk (pa1 (qAh (qLh rfl) rfl mmi qHh (qAe (qAh qAj rfl ml hBd (pa1 (pv 0))) (pa1 qAk)))))) (qA7 qLj rfl mI qLn (pa1 (qGz (qH3 (qF6 hr)) (pv 4) (qBo qC3) (qA6 _)))))))) (qAf (i:=7) qIs.nd rfl (Or.inl rfl)) (qAa (qAr (i:=8) qIs.nd rfl (Or.inl rfl) (qBf G6 hr2 rfl .nil qBg (qAe (qBf G1 hr2 rfl .nil qBg (qAe (pv 0) (pa1 (pv 7)))) (pa1 (pv 5))))) (qAi (qC9 (qDe (qDd (qBf G5 hr1 rfl .nil qBg (qAe (qBf G4 hr rfl .nil qBg (qAe (qA7 qB1 rfl mL qBa (pa1 (pv 4))) (pa1 (pv 8)))) (pa1 (qBf G7 hr2 rfl .nil qBg (qAe (pv 4) (pa1 (pv 8))))))))) (qAi (qA2 qDf)) qBy)))) (qAi (qA2 qDf))))))))),?_⟩;refine⟨_,rfl,a,ns,0,rfl,hS,by decide,by decide,λv0 d hd=>?_⟩;have x1:=Ext.new hd (.lst [.int v0]);have hd1:upd H d (.lst [.int v0]) d=some (.lst [.int v0]):=upd_same;revert x1 hd1;generalize upd _ _ _=H1;intro x1 hd1;refine⟨_,rfl,d,v0,rfl,hd1,λT t H2 R n gs gw n12 lR lE hT0 hT=>?_⟩;refine⟨T,_,rfl,SqT.of hT,rfl,_,_,rfl,_,_,rfl,rfl,?_⟩;obtain⟨q,hq⟩:=gs.dr.1;refine⟨_,rfl,_,rfl,_,rfl,d,t,q,R,n,rfl,hq,gs.turnsD,gw,n12,lR,lE,λT2 N M H3 net L dr3 hT20 hT2 nt ls lok=>?_⟩;refine⟨T2,_,rfl,SqT.of hT2,rfl,_,_,rfl,_,_,rfl,rfl,?_⟩;have e03:Ext H H3:=λb o h=>(gs.dr.trans dr3).2 b o (qAp h hd) (x1 b o h)
 clear x1 hd1 gs gw n12 lR lE hT0 hT hq dr3 hT20 hT2;obtain⟨nas,hN,prN⟩:=nt;obtain⟨las,hM,prM⟩:=ls;have lL:=lok.few;have l12:=lok.ok.le;have llas:=prM.length;refine⟨_,rfl,N,_,rfl,.inl (SqL.of hN),λr1 hr1'=>?_⟩;have x4:=Ext.new hr1' (.lst (nas.map V.ref));have h1:qEl (upd H3 r1 (.lst (nas.map V.ref))) r1 net:=⟨nas,upd_same,Paired.mapP prN λ_ _ z=>x4 _ _ z⟩;have e04:=e03.trans x4;revert x4 h1 e04;generalize upd _ _ _=H4;intro x4 h1 e04;have hM4:=x4 _ _ hM;refine⟨_,rfl,M,rfl,⟨_,SqL.of hM4⟩,?_⟩;refine qA0 (xs:=las.map V.ref) (λj ys H5=>Ext H4 H5/\Dhs H5 ys ((L.take j).map dtE)) ⟨Ext.refl _,.nil⟩ (λj ys H5 _ h=>SqL.of (h.1 _ _ hM4)) ?_ ?_
 ·rintro j x ys H5 hx ⟨e5,dh⟩;obtain⟨b,rfl,hb⟩:=qFm hx;obtain⟨l,hl,r,hb1,hb2⟩:=qAo prM hb;have e35:=x4.trans e5;have lj:=qBj hl;have ly:=dh.len;have ltk:=hD7 j L;refine⟨b,_,rfl,SqT.of (e35 _ _ hb1),rfl,_,_,rfl,_,_,rfl,rfl,?_⟩;refine⟨Sle.set _ (sls) (λu z=>by cases z),iteT (B:=False) ⟨_,rfl,_,rfl,r,_,rfl,.inl (SqL.of (e35 _ _ hb2)),λr2 hr2'=>⟨(by show 2<=sizeLine;decide),λT hT=>⟨by rw[ly,hA4];exact qAd (by omega),nxt (qBj hx) ?_⟩⟩⟩⟩;have y1:=Ext.new hr2' (.lst (l.2.map V.str));have y2:=Ext.new hT (.tup [V.str l.1,V.ref r2]);refine⟨e5.trans (y1.trans y2),?_⟩;rw[qAl hl,hAf];exact(dh.ext (y1.trans y2)).app (.cons (qE8 (r:=r2) upd_same (y2 _ _ upd_same)) .nil)
 rintro ys H5 ⟨e5,dh⟩ r6 hr6;rw[hA4,llas,hBh]at dh;have y6:=Ext.new hr6 (.lst ys);refine⟨(by show 2<=sizeLine;decide),λhn hhn=>?_⟩;have y7:=Ext.new hhn (.lst [V.ref r1,V.ref r6]);have e47:=e5.trans (y6.trans y7);have e37:=x4.trans e47;have hh:upd (upd H5 r6 (.lst ys)) hn (.lst [V.ref r1,V.ref r6]) hn=some (.lst [V.ref r1,V.ref r6]):=upd_same;have h6:Dh (upd (upd H5 r6 (.lst ys)) hn (.lst [V.ref r1,V.ref r6])) (.ref r6) (dtL L):=.lst (y7 _ _ upd_same) (dh.ext (y6.trans y7));revert e47 e37 hh h6;generalize upd _ _ _=H7;intro e47 e37 hh h6;have h17:=h1.ext e47;refine⟨_,rfl,hn,_,0,.ref r1,rfl,rfl,SqL.of hh,(by exact qAq (j:=0) rfl),_,rfl,hn,_,1,.ref r6,rfl,rfl,SqL.of hh,(by exact qAq (j:=1) rfl),r1,net,_,dtL L,rfl,h17,lok.ok,h6,lok.dok,λb H8 hb e8=>⟨b,true,rfl,_,rfl,?_⟩⟩;obtain rfl:b=true:=hb.mpr lok.laid;rw[hEt rfl];refine qFs ?_;have sh:=lok.both.shaped;refine⟨_,rfl,_,rfl,_,rfl,(by show 2<=sizeLine;decide),λc9 hc9=>?_⟩;have y9:=Ext.new hc9 (.lst [V.ref N,V.ref M]);have e39:=(e37.trans e8).trans y9;have dN:Dh (upd H8 c9 (.lst [V.ref N,V.ref M])) (.ref N) (.list (net.map trD)):=.lst (e39 _ _ hN) (Dhs.ext e39 (qJk prN));have dM:Dh (upd H8 c9 (.lst [V.ref N,V.ref M])) (.ref M) (dtL L):=.lst (e39 _ _ hM) (Dhs.ext e39 (qHc prM));have da:Dh (upd H8 c9 (.lst [V.ref N,V.ref M])) (.ref hn) (.list [.list (net.map trD),dtL L]):=.lst ((e8.trans y9) _ _ hh) (.cons ((zAk h17).ext (e8.trans y9)) (.cons (h6.ext (e8.trans y9)) .nil));have db:Dh (upd H8 c9 (.lst [V.ref N,V.ref M])) (.ref c9) (.list [.list (net.map trD),dtL L]):=.lst upd_same (.cons dN (.cons dM .nil));refine⟨_,_,da.dr,db.dr,sh,sh,_,rfl,?_⟩;rw[hEs rfl,SeqAt.eqv_refl _ lok.both.1];refine qFs ?_;have e09:=e03.trans e39;have n9:=(show qEl H3 N net from ⟨nas,hN,prN⟩).ext e39;have m9:qF4 (upd H8 c9 (.lst [V.ref N,V.ref M])) M L:=⟨las,e39 _ _ hM,Paired.mapP prM λ_ _ ⟨r,z1,z2⟩=>⟨r,e39 _ _ z1,e39 _ _ z2⟩⟩;revert e09 n9 m9;generalize upd _ _ _=H9;intro e09 n9 m9;obtain⟨nas9,hN9,prN9⟩:=n9;obtain⟨las9,hM9,prM9⟩:=m9;refine⟨_,rfl,N,_,rfl,.inl (SqL.of hN9),λra hra=>?_⟩;have z1:=Ext.new hra (.lst (nas9.map V.ref));refine⟨_,rfl,M,_,rfl,.inl ⟨SqL.of (z1 _ _ hM9),λta hta=>?_⟩⟩;have z2:=z1.trans (Ext.new hta (.tup (las9.map V.ref)));refine⟨ra,net,_,.tuple (L.map dtE),rfl,⟨nas9,Ext.new hta _ _ _ upd_same,Paired.mapP prN9 λ_ _ z=>z2 _ _ z⟩,lok.ok,.tup upd_same (Dhs.ext z2 (qHc prM9)),lok.dokT,λb Ha hb ea=>⟨b,false,rfl,_,rfl,?_⟩⟩;obtain rfl:b=false:=by
  cases b with
  |false=>rfl
  |true=>exact absurd (hb.mp rfl) qXn
 rw[hEt rfl];refine qFs ?_;have z3:=z2.trans ea;have hNa:=z3 _ _ hN9;refine⟨_,rfl,N,_,rfl,.inl (SqL.of hNa),λrb hrb=>?_⟩;have z4:=z3.trans (Ext.new hrb (.lst (nas9.map V.ref)));refine⟨rb,net,_,.none,rfl,⟨nas9,upd_same,Paired.mapP prN9 λ_ _ z=>z4 _ _ z⟩,lok.ok,.non,⟨⟨rfl,by decide⟩,λds z=>(by cases z),λds z=>(by cases z)⟩,λb Hb hb eb=>⟨b,false,rfl,_,rfl,?_⟩⟩;obtain rfl:b=false:=by
  cases b with
  |false=>rfl
  |true=>exact absurd (hb.mp rfl) qXo
 rw[hEt rfl];refine qFs ?_;have z5:=z4.trans eb;have e0b:=e09.trans z5;have hNb:=z5 _ _ hN9;have hMb:=z5 _ _ hM9;have prNb:Paired (λa t=>Hb a=some (.tup (trV t))) nas9 net:=Paired.mapP prN9 λ_ _ z=>z5 _ _ z
 have prMb:Paired (λa l=>∃r,Hb a=some (.tup [.str l.1,.ref r])/\LsS Hb r l.2) las9 L:=Paired.mapP prM9 λ_ _ ⟨r,q1,q2⟩=>⟨r,z5 _ _ q1,z5 _ _ q2⟩
 clear z1 z2 z3 z4 z5 hra hta hrb hN9 hM9 prN9 prM9 hNa;have hSb:=e0b.sqL hS;refine⟨_,rfl,a,_,rfl,.inl hSb,_,_,rfl,_,_,rfl,_,rfl,hAy _,λze hze=>?_⟩;have ez:=Ext.new hze (.lst []);refine⟨.list (net.map trD),.list [],(Dh.lst (ez _ _ hNb) (Dhs.ext ez (qJk prNb))).dr,(Dh.lst (xs:=[]) upd_same .nil).dr,(qZz (qRn lok.ok)),rfl,.inr ⟨_,rfl,?_⟩⟩;obtain⟨m4,m9⟩:=qZx (((ns.map V.int).length:Nat):Int);revert m4 m9;generalize (if (if 9<(((ns.map V.int).length:Nat):Int) then 9 else (((ns.map V.int).length:Nat):Int)) > 4 then if 9<(((ns.map V.int).length:Nat):Int) then 9 else (((ns.map V.int).length:Nat):Int) else 4)=m;intro m4 m9;have hb:∃k:Int,(if (if true=true then !PyData.eqv (.list (net.map trD)) (.list []) else PyData.eqv (.list (net.map trD)) (.list []))=true then (1:Int) else 0)=k/\(k=0\/(k=1/\net≠[])):=by
  rw[hEs rfl,qMw];cases net with
  |nil=>exact⟨0,rfl,.inl rfl⟩
  |cons t r=>exact⟨1,rfl,.inr ⟨rfl,λz=>by cases z⟩⟩
 obtain⟨k,hk,hk'⟩:=hb;rw[hk];have mk:0<=m*k/\m*k<=9/\(1<m*k->net≠[]):=by
  rcases hk' with rfl|⟨rfl,q⟩
  ·rw[Int.mul_zero];exact⟨by omega,by omega,λz=>absurd z (by decide)⟩
  ·rw[Int.mul_one];exact⟨by omega,by omega,λ_=>q⟩
 refine⟨m,k,rfl,rfl,.inl ⟨by omega,by omega⟩,1,m*k,rfl,⟨by decide,by decide,by omega,by omega⟩,?_⟩;revert mk;generalize m*k=g;rintro⟨g0,g9,gn⟩;have e0z:=e0b.trans ez;refine qCs (lo:=1) (n:=(g-1).toNat) (λi σ H'=>∃y7 y8:Option V,σ=[some (.ref a),some (.ref d),some (.ref t),some (.int (n:Nat)),some (.ref N),some (.ref M),some (.ref hn),y7,y8]/\Ext Hb H') ⟨_,_,rfl,ez⟩ ?_ ?_
 ·rintro i σ H' hi ⟨y7,y8,rfl,eb'⟩;have hne:=gn (by omega);have hS':=(e0b.trans eb').sqL hS;have hN':=eb' _ _ hNb;have hM':=eb' _ _ hMb;refine⟨_,rfl,_,rfl,a,ns,1+i,rfl,hS',by omega,by omega,λv d2 hd2=>?_⟩;have u1:=Ext.new hd2 (.lst [.int v]);have e1:=eb'.trans u1;refine⟨_,rfl,d2,M,v,net,L,rfl,upd_same,⟨las9,e1 _ _ hMb,Paired.mapP prMb λ_ _ ⟨r,q1,q2⟩=>⟨r,e1 _ _ q1,e1 _ _ q2⟩⟩,lok,lok.ne hne,λr Hc D dr2 dhD dokD=>?_⟩;have ec:Ext Hb Hc:=λb o h=>dr2.2 b o (qAp (eb' _ _ h) hd2) (u1 _ _ (eb' _ _ h))
  refine⟨_,rfl,N,_,rfl,.inl (SqL.of (ec _ _ hNb)),λrc hrc=>?_⟩;have u2:=Ext.new hrc (.lst (nas9.map V.ref));have ed:=ec.trans u2;refine⟨_,rfl,rc,net,_,D,rfl,⟨nas9,upd_same,Paired.mapP prNb λ_ _ z=>ed _ _ z⟩,lok.ok,dhD.ext u2,dokD,λb He hb ee=>?_⟩;have ef:=ed.trans ee;refine⟨_,rfl,_,rfl,N,net,_,D,rfl,⟨nas9,ef _ _ hNb,Paired.mapP prNb λ_ _ z=>ef _ _ z⟩,lok.ok,(dhD.ext u2).ext ee,dokD,λb' Hf hb' eg=>⟨b,b',rfl,_,rfl,?_⟩⟩;obtain rfl:b=b':=hBq.mpr (hb.trans hb'.symm);rw[hEt rfl];exact qFs ⟨_,_,rfl,ef.trans eg⟩
 ·rintro σ H' _;exact Q0 _
end
theorem qVy{α:Type}{us:List α}(h:us.length=1):∃a,us=[a]:=List.length_eq_one_iff.mp h
theorem qS7{α:Type}{us:List α}(h:us.length=2):∃a b,us=[a,b]:=by
 match us,h with | [a,b],_=>exact⟨a,b,rfl⟩
theorem zBj{α:Type}{us:List α}(h:us.length=3):∃a b c,us=[a,b,c]:=by
 match us,h with | [a,b,c],_=>exact⟨a,b,c,rfl⟩
def Hs(K:PySem.W.Frag)(x:Str)(st:Stmt)(f:Addr):Prop:=∃(od an:Option Addr) (sl:Array (Option Value)) (oc kV dc pm cd ct:Value),PySem.W.nsIn K mainGlobals x=some (some (.ref f))/\K.lookup f=some ⟨oc,od,.func (PySem.W.fnOf x x (qDz st) (qDb st) (qAc st) .none kV dc pm an cd ct),sl⟩/\PySem.W.codeIn K cd x=true/\PySem.W.keepIn K (.ref f)=true
theorem hs_mk{K:PySem.W.Frag}{x:Str}{st:Stmt}{f:Addr}{od an:Option Addr}{sl:Array (Option Value)}{oc kV dc pm cd ct:Value}(a:PySem.W.nsIn K mainGlobals x=some (some (.ref f)))(l:K.lookup f=some ⟨oc,od,.func (PySem.W.fnOf x x (qDz st) (qDb st) (qAc st) .none kV dc pm an cd ct),sl⟩)(c:PySem.W.codeIn K cd x=true)(k:PySem.W.keepIn K (.ref f)=true):Hs K x st f:=⟨_,_,_,_,_,_,_,_,_,a,l,c,k⟩
theorem qB5{K:PySem.W.Frag}{x:Str}{st:Stmt}{f:Addr}{h:Heap}{mg:Str->Option Value}(X:K.In h)(G:h.Ns mainGlobals mg)(H:Hs K x st f):∃fd,Fun K x x st f fd/\PySem.W.keepIn K (.ref f)=true/\mg x=some (.ref f):=by
 obtain⟨_,_,_,_,_,_,_,_,_,a,l,c,k⟩:=H;exact⟨_,qV3 (st:=st) l c k,k,PySem.W.mg_of X G a⟩
theorem all_mk{l:PySem.W.OpenLaw}{w:World}{K:PySem.W.Frag}{h:Heap}{mg:Str->Option Value}{fa f1 f2 f3 f4 f5 f6 f7 f8 f9 f10 f11 f12 f13 f14 f15 f16 f17 f18 f19 f20 f21 f22:Addr}(X:K.In h)(G:h.Ns mainGlobals mg)(hfa:mg "law"=some (.ref fa))
  {od22 an22:Option Addr} {sl22:Array (Option Value)} {oc22 kV22 dc22 pm22 cd22 ct22:Value}
  (h1:Hs K "points" qIu f1)
  (h2:Hs K "star" qTo f2)
  (h3:Hs K "homes" qKa f3)
  (h4:Hs K "pieces" qL6 f4)
  (h5:Hs K "is_tuple" qQi f5)
  (h6:Hs K "are_ties_round" qTp f6)
  (h7:Hs K "goes_round_points" qO9 f7)
  (h8:Hs K "tie_ends" qWm f8)
  (h9:Hs K "ways_on" qTn f9)
  (h10:Hs K "face_starts" qL5 f10)
  (h11:Hs K "lays" qQh f11)
  (h12:Hs K "_law_cell_at" qWq f12)
  (h13:Hs K "_law_purse" qQg f13)
  (h14:Hs K "_law_take" qWn f14)
  (h15:Hs K "_law_says" qWo f15)
  (h16:Hs K "_law_far" zAs f16)
  (h17:Hs K "_law_face" qWp f17)
  (h18:Hs K "_law_grown" qNx f18)
  (h19:Hs K "_law_told" qL4 f19)
  (h20:Hs K "_law_spoilt" qIt f20)
  (h21:Hs K "_law_is_laid" qBp f21)
  (a22:PySem.W.nsIn K mainGlobals "law"=some (some (.ref f22))) (l22:K.lookup f22=some ⟨oc22,od22,.func (PySem.W.fnOf "law" "law" (qDz qS5) (qDb qS5) (qAc qS5) .none kV22 dc22 pm22 an22 cd22 ct22),sl22⟩) (c22:PySem.W.codeIn K cd22 "law"=true) (k22:PySem.W.keepIn K (.ref f22)=true)
  (z1:PySem.W.nsIn K mainGlobals "all"=some none)
  (z2:PySem.W.nsIn K mainGlobals "bool"=some none)
  (z3:PySem.W.nsIn K mainGlobals "enumerate"=some none)
  (z4:PySem.W.nsIn K mainGlobals "int"=some none)
  (z5:PySem.W.nsIn K mainGlobals "isinstance"=some none)
  (z6:PySem.W.nsIn K mainGlobals "len"=some none)
  (z7:PySem.W.nsIn K mainGlobals "list"=some none)
  (z8:PySem.W.nsIn K mainGlobals "max"=some none)
  (z9:PySem.W.nsIn K mainGlobals "min"=some none)
  (z10:PySem.W.nsIn K mainGlobals "range"=some none)
  (z11:PySem.W.nsIn K mainGlobals "set"=some none)
  (z12:PySem.W.nsIn K mainGlobals "sorted"=some none)
  (z13:PySem.W.nsIn K mainGlobals "str"=some none)
  (z14:PySem.W.nsIn K mainGlobals "sum"=some none)
  (z15:PySem.W.nsIn K mainGlobals "tuple"=some none)
  : ∃fd:FuncData,(∀(s:Shared) (v:Value),BindsTo s fd ⟨[v],[]⟩ [("_law_script",v)])/\∀base:Heap,K.In base->base.Ns mainGlobals mg->FnOk l.prog w K mg base CX0 5 fa fd ["_law_script"] (qTg K):=by
 have e:=hfa.symm.trans (PySem.W.mg_of X G a22);cases e;obtain⟨_,F1,k1,m1⟩:=qB5 X G h1;obtain⟨_,F2,k2,m2⟩:=qB5 X G h2;obtain⟨_,F3,k3,m3⟩:=qB5 X G h3;obtain⟨_,F4,k4,m4⟩:=qB5 X G h4;obtain⟨_,F5,k5,m5⟩:=qB5 X G h5;obtain⟨_,F6,k6,m6⟩:=qB5 X G h6;obtain⟨_,F7,k7,m7⟩:=qB5 X G h7;obtain⟨_,F8,k8,m8⟩:=qB5 X G h8;obtain⟨_,F9,k9,m9⟩:=qB5 X G h9;obtain⟨_,F10,k10,m10⟩:=qB5 X G h10;obtain⟨_,F11,k11,m11⟩:=qB5 X G h11;obtain⟨_,F12,k12,m12⟩:=qB5 X G h12;obtain⟨_,F13,k13,m13⟩:=qB5 X G h13;obtain⟨_,F14,k14,m14⟩:=qB5 X G h14;obtain⟨_,F15,k15,m15⟩:=qB5 X G h15;obtain⟨_,F16,k16,m16⟩:=qB5 X G h16;obtain⟨_,F17,k17,m17⟩:=qB5 X G h17;obtain⟨_,F18,k18,m18⟩:=qB5 X G h18;obtain⟨_,F19,k19,m19⟩:=qB5 X G h19;obtain⟨_,F20,k20,m20⟩:=qB5 X G h20;obtain⟨_,F21,k21,m21⟩:=qB5 X G h21;have F22:=qV3 (st:=qS5) l22 c22 k22;have b1:=F1.binds (ps:=["net"]) λ_ _ _ _ _ _ us hl=>by obtain⟨_,rfl⟩:=qVy hl;rfl
 have b2:=F2.binds (ps:=["net","point"]) λ_ _ _ _ _ _ us hl=>by obtain⟨_,_,rfl⟩:=qS7 hl;rfl
 have b3:=F3.binds (ps:=["net"]) λ_ _ _ _ _ _ us hl=>by obtain⟨_,rfl⟩:=qVy hl;rfl
 have b4:=F4.binds (ps:=["net"]) λ_ _ _ _ _ _ us hl=>by obtain⟨_,rfl⟩:=qVy hl;rfl
 have b5:=F5.binds (ps:=["thing","many"]) λ_ _ _ _ _ _ us hl=>by obtain⟨_,_,rfl⟩:=qS7 hl;rfl
 have b6:=F6.binds (ps:=["net","point","thing"]) λ_ _ _ _ _ _ us hl=>by obtain⟨_,_,_,rfl⟩:=zBj hl;rfl
 have b7:=F7.binds (ps:=["net","lists"]) λ_ _ _ _ _ _ us hl=>by obtain⟨_,_,rfl⟩:=qS7 hl;rfl
 have b8:=F8.binds (ps:=["lists"]) λ_ _ _ _ _ _ us hl=>by obtain⟨_,rfl⟩:=qVy hl;rfl
 have b9:=F9.binds (ps:=["lists"]) λ_ _ _ _ _ _ us hl=>by obtain⟨_,rfl⟩:=qVy hl;rfl
 have b10:=F10.binds (ps:=["lists"]) λ_ _ _ _ _ _ us hl=>by obtain⟨_,rfl⟩:=qVy hl;rfl
 have b11:=F11.binds (ps:=["net","lists"]) λ_ _ _ _ _ _ us hl=>by obtain⟨_,_,rfl⟩:=qS7 hl;rfl
 have b12:=F12.binds (ps:=["_law_script","_law_k"]) λ_ _ _ _ _ _ us hl=>by obtain⟨_,_,rfl⟩:=qS7 hl;rfl
 have b13:=F13.binds (ps:=["_law_script","_law_at"]) λ_ _ _ _ _ _ us hl=>by obtain⟨_,_,rfl⟩:=qS7 hl;rfl
 have b14:=F14.binds (ps:=["_law_draw","_law_many"]) λ_ _ _ _ _ _ us hl=>by obtain⟨_,_,rfl⟩:=qS7 hl;rfl
 have b15:=F15.binds (ps:=["_law_found","_law_due"]) λ_ _ _ _ _ _ us hl=>by obtain⟨_,_,rfl⟩:=qS7 hl;rfl
 have b16:=F16.binds (ps:=["_law_turns"]) λ_ _ _ _ _ _ us hl=>by obtain⟨_,rfl⟩:=qVy hl;rfl
 have b17:=F17.binds (ps:=["_law_turns","_law_far_here","_law_end"]) λ_ _ _ _ _ _ us hl=>by obtain⟨_,_,_,rfl⟩:=zBj hl;rfl
 have b18:=F18.binds (ps:=["_law_draw"]) λ_ _ _ _ _ _ us hl=>by obtain⟨_,rfl⟩:=qVy hl;rfl
 have b19:=F19.binds (ps:=["_law_draw","_law_turns","_law_count"]) λ_ _ _ _ _ _ us hl=>by obtain⟨_,_,_,rfl⟩:=zBj hl;rfl
 have b20:=F20.binds (ps:=["_law_draw","_law_lists"]) λ_ _ _ _ _ _ us hl=>by obtain⟨_,_,rfl⟩:=qS7 hl;rfl
 have b21:=F21.binds (ps:=["_law_net","_law_lists"]) λ_ _ _ _ _ _ us hl=>by obtain⟨_,_,rfl⟩:=qS7 hl;rfl
 have n_all:=hBs X G z1;have n_bool:=hBs X G z2;have n_enumerate:=hBs X G z3;have n_int:=hBs X G z4;have n_isinstance:=hBs X G z5;have n_len:=hBs X G z6;have n_list:=hBs X G z7;have n_max:=hBs X G z8;have n_min:=hBs X G z9;have n_range:=hBs X G z10;have n_set:=hBs X G z11;have n_sorted:=hBs X G z12;have n_str:=hBs X G z13;have n_sum:=hBs X G z14;have n_tuple:=hBs X G z15;refine⟨PySem.W.fnOf "law" "law" (qDz qS5) (qDb qS5) (qAc qS5) .none kV22 dc22 pm22 an22 cd22 ct22,λs v=>.of_eq rfl,λbase _ _=>?_⟩;have g1:=qRh (P:=l.prog) (w:=w) (base:=base) F1  n_sorted;have g2:=qXe (P:=l.prog) (w:=w) (mg:=mg) (base:=base) F2;have g3:=qT5 (P:=l.prog) (w:=w) (base:=base) F3 ⟨g1,b1,k1,m1⟩;have g4:=qRi (P:=l.prog) (w:=w) (base:=base) F4 ⟨g3,b3,k3,m3⟩ n_list;have g5:=qXh (P:=l.prog) (w:=w) (base:=base) F5  n_isinstance n_tuple n_len;have g6:=qXl (P:=l.prog) (w:=w) (base:=base) F6 ⟨g2,b2,k2,m2⟩ n_isinstance n_list n_str n_all n_sorted;have g7:=qXi (P:=l.prog) (w:=w) (base:=base) F7 ⟨g5,b5,k5,m5⟩ ⟨g1,b1,k1,m1⟩ ⟨g6,b6,k6,m6⟩ n_isinstance n_list n_all;have g8:=qXc (P:=l.prog) (w:=w) (base:=base) F8  n_enumerate;have g9:=qXa (P:=l.prog) (w:=w) (base:=base) F9 ⟨g8,b8,k8,m8⟩ n_len;have g10:=qRf (P:=l.prog) (w:=w) (base:=base) F10 ⟨g9,b9,k9,m9⟩;have g11:=qXg (P:=l.prog) (w:=w) (base:=base) F11 ⟨g7,b7,k7,m7⟩ ⟨g10,b10,k10,m10⟩ ⟨g4,b4,k4,m4⟩ ⟨g1,b1,k1,m1⟩ n_len;have g12:=qXk (P:=l.prog) (w:=w) (base:=base) F12  n_len;have g13:=qT4 (P:=l.prog) (w:=w) (base:=base) F13 ⟨g12,b12,k12,m12⟩ n_range;have g14:=qXd (P:=l.prog) (w:=w) (mg:=mg) (base:=base) F14;have g15:=qXf (P:=l.prog) (w:=w) (base:=base) F15  n_isinstance n_bool;have g16:=qZs (P:=l.prog) (w:=w) (base:=base) F16  n_range n_len;have g17:=qXj (P:=l.prog) (w:=w) (base:=base) F17  n_len;have g18:=qT6 (P:=l.prog) (w:=w) (base:=base) F18 ⟨g14,b14,k14,m14⟩ ⟨g16,b16,k16,m16⟩ ⟨g17,b17,k17,m17⟩ n_range n_len n_sorted;have g19:=qXb (P:=l.prog) (w:=w) (base:=base) F19 ⟨g14,b14,k14,m14⟩ n_range n_len n_sorted n_min n_max;have g20:=qRg (P:=l.prog) (w:=w) (base:=base) F20 ⟨g14,b14,k14,m14⟩ n_len n_list n_tuple;have g21:=qRj (P:=l.prog) (w:=w) (base:=base) F21 ⟨g16,b16,k16,m16⟩ ⟨g17,b17,k17,m17⟩ n_sorted n_set n_isinstance n_list n_len n_range n_tuple n_str n_min n_max n_int n_sum;exact qZr F22 ⟨g13,b13,k13,m13⟩ ⟨g18,b18,k18,m18⟩ ⟨g19,b19,k19,m19⟩ ⟨g11,b11,k11,m11⟩ ⟨g15,b15,k15,m15⟩ ⟨g20,b20,k20,m20⟩ ⟨g21,b21,k21,m21⟩ n_range n_list n_tuple n_len n_min n_max n_int
theorem walk{l:PySem.W.OpenLaw}{q:Program}{loose:List Str}{XP:(Str->Option Value)->Heap->Prop}{YP:World->Heap->Prop}{d:DefRec}{K:Params->PySem.W.Frag}(hn:l.most=some 63)(hdf:d.params.defaults=[])
  (hY:∀(w:World) (h:Heap),YP w h->(K w.params).In h)
  (F:∀(w:World) (mg:Str->Option Value) (fa:Addr) (h:Heap),(K w.params).In h->h.Ns mainGlobals mg->mg d.name=some (.ref fa) ->
   ∃fd:FuncData,(∀(s:Shared) (u:Value),BindsTo s fd ⟨[u],[]⟩ [("_law_script",u)])/\∀base:Heap,(K w.params).In base->base.Ns mainGlobals mg->FnOk l.prog w (K w.params) mg base CX0 5 fa fd ["_law_script"] (qTg (K w.params))) :
  PySem.W.WalkO q loose XP YP l.row.toRowW d [] (λf vs=>PySem.call f vs) :=
 L2.walk_of (n:=63) (k:=5) (x:="_law_script") (CX:=λ_=>CX0) (sp:=λw=>qTg (K w.params)) hn (by decide) hdf ⟨rfl,by decide,by decide,rfl⟩ hY F (λ_ _ a ns hl _ hS=>⟨a,ns,rfl,hS,hl,λ_=>rfl⟩) λ_ _ _ _ _ z=>z
end My
namespace PySem.W.Fast
theorem tw10065469695482253590:True:=⟨⟩
theorem tw10280931375059744882:True:=⟨⟩
theorem tw10347665462031305927:True:=⟨⟩
theorem tw10644494673433991643:True:=⟨⟩
theorem tw10809239766497555068:True:=⟨⟩
theorem tw10840235492150914607:True:=⟨⟩
theorem tw1088733506447263659:True:=⟨⟩
theorem tw10945497810225829307:True:=⟨⟩
theorem tw11162914903532325487:True:=⟨⟩
theorem tw11463609779323812672:True:=⟨⟩
theorem tw11594534473788283790:True:=⟨⟩
theorem tw11904435868742938119:True:=⟨⟩
theorem tw11913857046082013066:True:=⟨⟩
theorem tw11958528112215673135:True:=⟨⟩
theorem tw12177852248906655315:True:=⟨⟩
theorem tw12256515782275853000:True:=⟨⟩
theorem tw12412194846724484620:True:=⟨⟩
theorem tw12554278237615219263:True:=⟨⟩
theorem tw12610090995785380934:True:=⟨⟩
theorem tw12693475452055299951:True:=⟨⟩
theorem tw12908423213502941974:True:=⟨⟩
theorem tw12933286702739335955:True:=⟨⟩
theorem tw13026633974893328193:True:=⟨⟩
theorem tw13035253616627133610:True:=⟨⟩
theorem tw13113409950101148177:True:=⟨⟩
theorem tw13266225072504372304:True:=⟨⟩
theorem tw13731062347214060667:True:=⟨⟩
theorem tw14158900808181625600:True:=⟨⟩
theorem tw14313499034948054817:True:=⟨⟩
theorem tw14646707016069548099:True:=⟨⟩
theorem tw15027008112333793989:True:=⟨⟩
theorem tw15086312461595486581:True:=⟨⟩
theorem tw15226235899386064946:True:=⟨⟩
theorem tw154559144915878826:True:=⟨⟩
theorem tw15831358065736898834:True:=⟨⟩
theorem tw1585039387498333789:True:=⟨⟩
theorem tw15883053233042473482:True:=⟨⟩
theorem tw15900984927839858252:True:=⟨⟩
theorem tw15974443530620376709:True:=⟨⟩
theorem tw16060865923295188574:True:=⟨⟩
theorem tw16127279198176356376:True:=⟨⟩
theorem tw16158608221986924621:True:=⟨⟩
theorem tw1621682436307919132:True:=⟨⟩
theorem tw16291657033561322629:True:=⟨⟩
theorem tw16465214924970137947:True:=⟨⟩
theorem tw16531560283186463709:True:=⟨⟩
theorem tw16688384505116108624:True:=⟨⟩
theorem tw16723477467880570926:True:=⟨⟩
theorem tw16729852347058682636:True:=⟨⟩
theorem tw16760192333886134286:True:=⟨⟩
theorem tw16838859781707111703:True:=⟨⟩
theorem tw16939787086361221634:True:=⟨⟩
theorem tw17108295028666328501:True:=⟨⟩
theorem tw17127688333475072959:True:=⟨⟩
theorem tw17204007580776874418:True:=⟨⟩
theorem tw17457962171468867080:True:=⟨⟩
theorem tw17588252162952573655:True:=⟨⟩
theorem tw17611265305185400331:True:=⟨⟩
theorem tw17636940062639404075:True:=⟨⟩
theorem tw17709624568697704828:True:=⟨⟩
theorem tw17777586110033619290:True:=⟨⟩
theorem tw18060962446313495193:True:=⟨⟩
theorem tw18106605274469806774:True:=⟨⟩
theorem tw18292429536019385352:True:=⟨⟩
theorem tw18344419908426240286:True:=⟨⟩
theorem tw18353322966375127667:True:=⟨⟩
theorem tw2034899167581708907:True:=⟨⟩
theorem tw2035575819893064752:True:=⟨⟩
theorem tw2118598952729707833:True:=⟨⟩
theorem tw2192527900995801541:True:=⟨⟩
theorem tw2247724097149791300:True:=⟨⟩
theorem tw2264743586780728816:True:=⟨⟩
theorem tw235862848277169237:True:=⟨⟩
theorem tw2711148953950263679:True:=⟨⟩
theorem tw2819350652819646563:True:=⟨⟩
theorem tw3210280966008213860:True:=⟨⟩
theorem tw3217626732354383720:True:=⟨⟩
theorem tw3324886369454487051:True:=⟨⟩
theorem tw3795085231145248782:True:=⟨⟩
theorem tw3808555055002006380:True:=⟨⟩
theorem tw3843812522023457148:True:=⟨⟩
theorem tw3924872310787883827:True:=⟨⟩
theorem tw3940190068242893603:True:=⟨⟩
theorem tw3946625223494829638:True:=⟨⟩
theorem tw4250254921631810243:True:=⟨⟩
theorem tw4684772077978485537:True:=⟨⟩
theorem tw483148554673629531:True:=⟨⟩
theorem tw4990544672264631953:True:=⟨⟩
theorem tw511940407200577683:True:=⟨⟩
theorem tw5161846871925462984:True:=⟨⟩
theorem tw5294344337940016226:True:=⟨⟩
theorem tw5367944014359920795:True:=⟨⟩
theorem tw5540390266964313062:True:=⟨⟩
theorem tw5601769312656735457:True:=⟨⟩
theorem tw5726825004954684759:True:=⟨⟩
theorem tw5765690866460712076:True:=⟨⟩
theorem tw5862489640242710853:True:=⟨⟩
theorem tw6001661091504838593:True:=⟨⟩
theorem tw6005692099469145697:True:=⟨⟩
theorem tw6140500309363993365:True:=⟨⟩
theorem tw6321178077027621081:True:=⟨⟩
theorem tw6368525010565104779:True:=⟨⟩
theorem tw6585612127322909738:True:=⟨⟩
theorem tw6599715036341233991:True:=⟨⟩
theorem tw6624969607965576782:True:=⟨⟩
theorem tw6652163254720634718:True:=⟨⟩
theorem tw6705029574741908511:True:=⟨⟩
theorem tw6708630833612645698:True:=⟨⟩
theorem tw6796006097515914501:True:=⟨⟩
theorem tw6871368656487474546:True:=⟨⟩
theorem tw7020284217726754216:True:=⟨⟩
theorem tw7064487119938645430:True:=⟨⟩
theorem tw7097764293426298426:True:=⟨⟩
theorem tw7158962806756149139:True:=⟨⟩
theorem tw7186573196518046082:True:=⟨⟩
theorem tw7387720952095352166:True:=⟨⟩
theorem tw7677990470596361702:True:=⟨⟩
theorem tw7696048280330897739:True:=⟨⟩
theorem tw7875009096227411914:True:=⟨⟩
theorem tw7964956310645021832:True:=⟨⟩
theorem tw8016105059106322437:True:=⟨⟩
theorem tw8024814126068920286:True:=⟨⟩
theorem tw8053139017269719666:True:=⟨⟩
theorem tw8057478728766821579:True:=⟨⟩
theorem tw8061627057024937842:True:=⟨⟩
theorem tw8397164598220347616:True:=⟨⟩
theorem tw8535244400252247525:True:=⟨⟩
theorem tw8617222385512857685:True:=⟨⟩
theorem tw8721100311049178590:True:=⟨⟩
theorem tw8824651309626285582:True:=⟨⟩
theorem tw8862086579213177043:True:=⟨⟩
theorem tw90338384955327643:True:=⟨⟩
theorem tw9140220821101322012:True:=⟨⟩
theorem tw9144852364698817824:True:=⟨⟩
theorem tw9235884618967187437:True:=⟨⟩
theorem tw9263062862318927520:True:=⟨⟩
theorem tw9272746534303147725:True:=⟨⟩
theorem tw9275237894307915979:True:=⟨⟩
theorem tw9618038612421245830:True:=⟨⟩
theorem tw9717409332896704005:True:=⟨⟩
theorem tw9825145690834573805:True:=⟨⟩
theorem tw9856648517542223790:True:=⟨⟩
theorem tw9892998151879076294:True:=⟨⟩
theorem tw9978885831038562083:True:=⟨⟩
theorem tw9982106056870053616:True:=⟨⟩
end PySem.W.Fast
open PySem PySem.W PyProof.Rows
set_option maxRecDepth 100000 in
set_option maxHeartbeats 0 in
theorem PySem.Challenge.cw_roundsalone_k70_lists_looked_at_holds : PySem.Challenge.rw_roundsalone_k70_lists_looked_at.Holds := by
 w_on;o_law;k_head;(case hw=>w_witness2)
 k_fill
 refine My.walk (l:=PySem.Challenge.rw_roundsalone_k70_lists_looked_at) rfl rfl (λw h Y=>PySem.W.kIn_of Y) ?F
 case F =>
  intro w mg fa h KX G hmg
  refine' My.all_mk KX G hmg ?h1 ?h2 ?h3 ?h4 ?h5 ?h6 ?h7 ?h8 ?h9 ?h10 ?h11 ?h12 ?h13 ?h14 ?h15 ?h16 ?h17 ?h18 ?h19 ?h20 ?h21 ?a22 ?l22 ?c22 ?k22 ?z1 ?z2 ?z3 ?z4 ?z5 ?z6 ?z7 ?z8 ?z9 ?z10 ?z11 ?z12 ?z13 ?z14 ?z15
  all_goals (try (refine' My.hs_mk ?a ?l ?c ?k;(case a=>k_is);(case l=>k_is);(case c=>k_is);(case k=>k_is)))
  (case a22=>k_is)
  (case l22=>k_is)
  (case c22=>k_is)
  (case k22=>k_is)
  (case z1=>k_is)
  (case z2=>k_is)
  (case z3=>k_is)
  (case z4=>k_is)
  (case z5=>k_is)
  (case z6=>k_is)
  (case z7=>k_is)
  (case z8=>k_is)
  (case z9=>k_is)
  (case z10=>k_is)
  (case z11=>k_is)
  (case z12=>k_is)
  (case z13=>k_is)
  (case z14=>k_is)
  (case z15=>k_is)
#print axioms PySem.Challenge.cw_roundsalone_k70_lists_looked_at_holds
